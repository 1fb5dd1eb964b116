import PyProof.Rows.All
import Wide.All
import OpenK.AllK
import Wide.FinOn
import HandS.ForMost
import HandS.IsInst
import HandS.Wide
import HandS.Style
import HandS.Defaults
import HandS.MakeKwOnly
import HandS.Zip
import HandS.SortRule
import HandS.TupAny
import HandS.Lambda
import KE.GoesEnum
import HandS.Flow
import HandS.Codes
import HandS.WideBits
import HandS.OwnEq
import HandS.TryOnly
import HandS.TupLe
import HandS.SetFor
import KE.DataMinMax
import HandS.Conv
import KE.DataFind
import PyProof.Rows.CallKwBuiltin
import PyProof.LongRange
import HandS.ExcInit
import KE.KExcInit
import HandS.WordsExc
import HandS.ExcField
import KE.KExcIs
import HandS.RaiseMore
import HandS.EndTab
import KE.KNestM
import KE.KDflt
import PyProof.ReprRoads
import PyProof.ReprHeads
import PyProof.ReprDict
import PySem.Challenge.RW_breakerrow_k50_invalid_logs_and_names
set_option Elab.async false
set_option linter.all false
set_option maxRecDepth 100000
set_option maxHeartbeats 4000000
namespace Own
open PySem PySem.Spec PyProof.Rows L2
open Builtin

section
variable {X : Cx} {CX : CXT} {k : Nat} {f C : Addr} {fd : FuncData} {ps : List Str} {sp : Sp} {E : XK}

theorem rr {p : Addr} : L2.RelV (.ref p) (.ref p) := rfl
/-- a promise used under any frame below the body -/
theorem run_at {A : Around} {pins : List (Addr × Obj)} {σ : L2.St} {H : Hp} {s : Shared} {Q : VK} {us : List Value} {vs : List V} (F : FnOk X.prog X.w X.K X.mg X.base CX k f fd ps sp) (hr : Room k A) (hA : A.frames = X.A.frames)
    (hb : Binds X.K fd ps []) (hx : Passes CX X E) (I : Inv X pins σ H s) (r : Vals vs us) (h : sp vs H Q E) : wpAny (model X.prog X.w) A (call (.ref f) us) (EP X pins σ Q) X.xe s := by
  have hl : us.length = ps.length := by rw [← r.length]; exact F.len _ _ _ _ h
  have e0 : Env0 X.prog X.w X.K X.mg X.base A X.stack s H := by
    have e := I.env0
    exact ⟨by rw [hA]; exact e.frames, e.mod, e.bs, e.bsz, e.funs, e.frf, e.hok, e.bare⟩
  have hB : BindsTo s fd ⟨us, []⟩ (ps.zip us) := by
    have := hb s us I.kIn (by rw [List.append_nil]; exact hl)
    rwa [List.append_nil] at this
  refine wpAny_call (codeAny_mono (F.run A X.stack s H ⟨us, []⟩ us vs Q E hr e0 hB r h) fun r s' hq => ?_)
  cases r with
  | error e => exact hx pins σ H s e s' I hq
  | ok fl =>
    cases fl with
    | ret u => exact I.after hq
    | next => exact False.elim hq
    | brk => exact False.elim hq
    | cont => exact False.elim hq

theorem inst_of {pins : List (Addr × Obj)} {σ : L2.St} {H : Hp} {s : Shared} {p dx : Addr} {fs : List (Str × V)} (I : Inv X pins σ H s) (e : H p = some (.ins C dx fs)) : ∃ od, PySem.W.InstAt s.heap p (PySem.W.instObj C dx) C od := by
  obtain ⟨mA, O, _⟩ := ins_get I.hok e
  obtain ⟨od, J, _⟩ := O.look
  exact ⟨_, J⟩

/-- a bool is wanted of the method -/
def BlQ (Q : VK) (g : Bool → Bool) : VK := fun v H' => ∃ b, v = .bl b ∧ Q (.bl (g b)) H'
def rOwnIn (C : Addr) (sp : Sp) (E : XK) (g : Bool → Bool) : R2 := fun x y H Q => ∃ p dx fs, y = .ref p ∧ H p = some (.ins C dx fs) ∧ sp [.ref p, x] H (BlQ Q g) E
theorem op_own_in (F : FnOk X.prog X.w X.K X.mg X.base CX k f fd ps sp) (hr : Room k X.A) (hs : PySem.W.findIn X.K (.ref C) "__contains__" = some (some (.ref f))) (hf : PySem.W.isFn X.K (.ref f) = true) (hb : Binds X.K fd ps []) (hx : Passes CX X E) :
    OpR X (compareOp .In) (rOwnIn C sp E id) := by
  intro pins s σ H x y v u Q I rx ry h
  obtain ⟨p, dx, fs, rfl, hp, q⟩ := h
  cases ry
  obtain ⟨od, J⟩ := inst_of I hp
  obtain ⟨m, hF⟩ := I.fr
  refine PySem.W.in_K hF I.ok.mod.kin J hs hf (thn (run_at F hr rfl hb hx I (.cons rr (.cons rx .nil)) q) fun r s' hh => ?_)
  obtain ⟨z, H', I', rz, b, ez, q'⟩ := hh
  subst ez
  cases rz
  exact wpAny_truthy_bool ⟨.bl b, H', I', rfl, q'⟩
theorem op_own_notin (F : FnOk X.prog X.w X.K X.mg X.base CX k f fd ps sp) (hr : Room k X.A) (hs : PySem.W.findIn X.K (.ref C) "__contains__" = some (some (.ref f))) (hf : PySem.W.isFn X.K (.ref f) = true) (hb : Binds X.K fd ps []) (hx : Passes CX X E) :
    OpR X (compareOp .NotIn) (rOwnIn C sp E not) := by
  intro pins s σ H x y v u Q I rx ry h
  obtain ⟨p, dx, fs, rfl, hp, q⟩ := h
  cases ry
  obtain ⟨od, J⟩ := inst_of I hp
  obtain ⟨m, hF⟩ := I.fr
  refine PySem.W.notIn_K hF I.ok.mod.kin J hs hf (thn (run_at F hr rfl hb hx I (.cons rr (.cons rx .nil)) q) fun r s' hh => ?_)
  obtain ⟨z, H', I', rz, b, ez, q'⟩ := hh
  subst ez
  cases rz
  exact wpAny_truthy_bool ⟨.bl (!b), H', I', rfl, q'⟩
/-- len(o) -/
def rOwnLen (C : Addr) (sp : Sp) (E : XK) : List V → Hp → VK → Prop := fun xs H Q => ∃ p dx fs, xs = [.ref p] ∧ H p = some (.ins C dx fs) ∧ sp [.ref p] H (fun v H' => ∃ n : Int, v = .int n ∧ 0 ≤ n ∧ n < 2 ^ 63 ∧ Q (.int n) H') E
theorem call_own_len (F : FnOk X.prog X.w X.K X.mg X.base CX k f fd ps sp) (hr : Room (k + 1) X.A) (hs : PySem.W.findIn X.K (.ref C) "__len__" = some (some (.ref f))) (hf : PySem.W.isFn X.K (.ref f) = true) (hb : Binds X.K fd ps []) (hx : Passes CX X E) :
    CallR X (.builtin "len") (rOwnLen C sp E) := by
  intro pins s σ H xs us Q I r h
  obtain ⟨p, dx, fs, rfl, hp, q⟩ := h
  obtain ⟨u, rfl, ru⟩ := vals1 r
  cases ru
  obtain ⟨od, J⟩ := inst_of I hp
  obtain ⟨m, hF⟩ := I.fr
  refine PySem.W.len_K hF I.ok.mod.kin J hs hf (thn (run_at F hr.in1 rfl hb hx I (.cons rr .nil) q) fun r s' hh => ?_)
  obtain ⟨z, H', I', rz, n, ez, h0, h1, q'⟩ := hh
  subst ez
  obtain ⟨t, rfl⟩ := rz
  exact ⟨⟨h0, h1⟩, ⟨.int n, H', I'.tok _, ⟨_, rfl⟩, q'⟩⟩
/-- o + p, both of the class -/
def rOwnAdd (C : Addr) (sp : Sp) (E : XK) : R2 := fun x y H Q => ∃ p dx fs q dy gs, x = .ref p ∧ H p = some (.ins C dx fs) ∧ y = .ref q ∧ H q = some (.ins C dy gs) ∧ sp [.ref p, .ref q] H (fun v H' => (∃ a, v = .ref a) ∧ Q v H') E
theorem op_own_add (F : FnOk X.prog X.w X.K X.mg X.base CX k f fd ps sp) (hr : Room k X.A) (hc : PySem.W.selfFirst X.K C = true) (hs : PySem.W.findIn X.K (.ref C) "__add__" = some (some (.ref f))) (hf : PySem.W.isFn X.K (.ref f) = true) (hb : Binds X.K fd ps []) (hx : Passes CX X E) :
    OpR X (binaryOp .Add) (rOwnAdd C sp E) := by
  intro pins s σ H x y v u Q I rx ry h
  obtain ⟨p, dx, fs, q, dy, gs, rfl, hp, rfl, hq, hh⟩ := h
  cases rx
  cases ry
  obtain ⟨od, J⟩ := inst_of I hp
  obtain ⟨od', J'⟩ := inst_of I hq
  obtain ⟨m, hF⟩ := I.fr
  refine PySem.W.binop_K hF I.ok.mod.kin J J'.type hc hs hf (thn (run_at F hr rfl hb hx I (.cons rr (.cons rr .nil)) hh) fun r s' hh => ?_)
  obtain ⟨z, H', I', rz, ⟨a, ez⟩, q'⟩ := hh
  subst ez
  cases rz
  exact ⟨.ref a, H', I', rfl, q'⟩
/-- o[i] -/
def rOwnIx (C : Addr) (sp : Sp) (E : XK) : R2 := fun x y H Q => ∃ p dx fs, x = .ref p ∧ H p = some (.ins C dx fs) ∧ sp [.ref p, y] H Q E
theorem pe_own_ix {a b : Expr} {ta tb : TE} {pos : Pos} (F : FnOk X.prog X.w X.K X.mg X.base CX k f fd ps sp) (hr : Room (k + 1) X.A) (hs : PySem.W.findIn X.K (.ref C) "__getitem__" = some (some (.ref f))) (hfn : PySem.W.fnIn X.K f = true) (hf : PySem.W.isFn X.K (.ref f) = true)
    (hb : Binds X.K fd ps []) (hx : Passes CX X E) (ha : PE X a ta) (hb' : PE X b tb) (hsl : ∀ o i, subscripted b true o i = runValue (.builtin "lifetime.subscript" ⟨[o, i], []⟩) := by exact fun _ _ => rfl) :
    PE X (.Subscript a b pos) (tOp (rOwnIx C sp E) ta tb) := by
  refine ⟨fun pins s σ H Q I h => ?_⟩
  refine Subscript_ (binT ha hb' I h fun v u s2 x y H2 I2 rx ry q => ?_)
  obtain ⟨p, dx, fs, rfl, hp, q⟩ := q
  cases rx
  obtain ⟨od, J⟩ := inst_of I2 hp
  obtain ⟨m, hF⟩ := I2.fr
  exact PySem.W.sub_K hF I2.ok.mod.kin J hs hfn hf (run_at F hr.in1 rfl hb hx I2 (.cons rr (.cons ry .nil)) q) (hsl _ _)

/-! ### own == and the != that comes with it -/
theorem sub_ty {K : PySem.W.Frag} {C : Addr} {T : String} {l : List String} (e : fastBuiltinMro T = some (l.map Value.type)) : PySem.W.subIn K (.type T) (.ref C) = some false := by
  show (fastBuiltinMro T).map (·.contains (.ref C)) = some false
  rw [e]
  have : ∀ l : List String, (l.map Value.type).contains (Value.ref C) = false := by
    intro l
    induction l with
    | nil => rfl
    | cons a r ih =>
      rw [List.map_cons, List.contains_cons, ih]
      rfl
  rw [Option.map_some, this]
/-- a value's type, not one below the class C -/
inductive TyN (H : Hp) (C : Addr) : V → Value → Prop where
  | non : TyN H C .non (.type "NoneType")
  | bl (x : Bool) : TyN H C (.bl x) (.type "bool")
  | int (i : Int) : TyN H C (.int i) (.type "int")
  | str (x : Str) : TyN H C (.str x) (.type "str")
  | lst {a : Addr} {xs : List V} (e : H a = some (.lst xs)) : TyN H C (.ref a) (.type "list")
  | tup {a : Addr} {xs : List V} (e : H a = some (.tup xs)) : TyN H C (.ref a) (.type "tuple")
  | ins {a dx : Addr} {fs : List (Str × V)} (e : H a = some (.ins C dx fs)) : TyN H C (.ref a) (.ref C)
theorem TyN.notFirst {K : PySem.W.Frag} {H : Hp} {x : V} {t : Value} (h : TyN H C x t) : PySem.W.notFirst K C t = true := by
  cases h with
  | non => exact Bool.or_eq_true_iff.mpr (.inr (beq_iff_eq.mpr (sub_ty (l := ["NoneType", "object"]) (by decide +kernel))))
  | bl _ => exact Bool.or_eq_true_iff.mpr (.inr (beq_iff_eq.mpr (sub_ty (l := ["bool", "int", "object"]) (by decide +kernel))))
  | int _ => exact Bool.or_eq_true_iff.mpr (.inr (beq_iff_eq.mpr (sub_ty (l := ["int", "object"]) (by decide +kernel))))
  | str _ => exact Bool.or_eq_true_iff.mpr (.inr (beq_iff_eq.mpr (sub_ty (l := ["str", "object"]) (by decide +kernel))))
  | lst _ => exact Bool.or_eq_true_iff.mpr (.inr (beq_iff_eq.mpr (sub_ty (l := ["list", "object"]) (by decide +kernel))))
  | tup _ => exact Bool.or_eq_true_iff.mpr (.inr (beq_iff_eq.mpr (sub_ty (l := ["tuple", "object"]) (by decide +kernel))))
  | ins _ => exact Bool.or_eq_true_iff.mpr (.inl (by simp))
theorem looks_obj {M : Model} {h : Heap} {a : Addr} {o : Obj} (e : h.get? a = some o) : PySem.W.Looks M h (typeOf (.ref a)) o.cls := fun A Q E s kp q => PySem.wpAny_typeOf_ref (kp _ _ e) q
theorem TyN.looks {M : Model} {pins : List (Addr × Obj)} {σ : L2.St} {H : Hp} {s : Shared} {x : V} {u t : Value} (I : Inv X pins σ H s) (r : RelV x u) (h : TyN H C x t) : PySem.W.Looks M s.heap (typeOf u) t := by
  cases h with
  | non => cases r; exact PySem.W.Looks.of_pure rfl
  | bl _ => cases r; exact PySem.W.Looks.of_pure rfl
  | int _ => obtain ⟨_, rfl⟩ := r; exact PySem.W.Looks.of_pure rfl
  | str _ => obtain ⟨_, rfl⟩ := r; exact PySem.W.Looks.of_pure rfl
  | @lst a xs e =>
    cases r
    obtain ⟨_, _, n, _, h1⟩ := (show ObjOk X.prog X.w H s.heap a (.lst xs) from I.hok a _ e)
    exact looks_obj h1
  | @tup a xs e =>
    cases r
    obtain ⟨_, _, _, o, h1, h2, _⟩ := (show ObjOk X.prog X.w H s.heap a (.tup xs) from I.hok a _ e)
    have := looks_obj (M := M) h1
    rw [h2] at this
    exact this
  | ins e =>
    cases r
    obtain ⟨od, J⟩ := inst_of I e
    exact J.type
def rOwnEq (C : Addr) (sp : Sp) (E : XK) (g : Bool → Bool) : R2 := fun x y H Q => ∃ p dx fs t, x = .ref p ∧ H p = some (.ins C dx fs) ∧ TyN H C y t ∧ sp [.ref p, y] H (BlQ Q g) E
theorem op_own_eq (F : FnOk X.prog X.w X.K X.mg X.base CX k f fd ps sp) (hr : Room k X.A) (hs : PySem.W.findIn X.K (.ref C) "__eq__" = some (some (.ref f))) (hf : PySem.W.isFn X.K (.ref f) = true) (hb : Binds X.K fd ps []) (hx : Passes CX X E) :
    OpR X (compareOp .Eq) (rOwnEq C sp E id) := by
  intro pins s σ H x y v u Q I rx ry h
  obtain ⟨p, dx, fs, t, rfl, hp, ty, q⟩ := h
  cases rx
  obtain ⟨od, J⟩ := inst_of I hp
  obtain ⟨m, hF⟩ := I.fr
  show wpAny (model X.prog X.w) X.A (richCompare .Eq (.ref p) u) (EP X pins σ Q) X.xe s
  refine PySem.W.cmp_K (op := .Eq) hr.units0 hF I.ok.mod.kin J (ty.looks I ry) ty.notFirst hs hf (thn (run_at F hr rfl hb hx I (.cons rr (.cons ry .nil)) q) fun r s' hh => ?_)
  obtain ⟨z, H', I', rz, b, ez, q'⟩ := hh
  subst ez
  cases rz
  exact ⟨.bl b, H', I', rfl, q'⟩
section
variable {prog : Program} {w : World} {A : Around} {E' : Value → Shared → Prop} {s : Shared} {K : PySem.W.Frag} {x : Addr} {ox : Obj} {od : Option Obj} {b : Value}
theorem objNe_entry (hX : K.In s.heap) (I : PySem.W.InstAt s.heap x ox C od) (hs : PySem.W.findIn K (.ref C) "__eq__" = some (some (.ref f))) (hf : PySem.W.isFn K (.ref f) = true) (hu : A.units < cLine) {Q : Fin → Shared → Prop}
    (hcall : wpAny (model prog w) A (call (.ref f) [.ref x, b]) (fun v s' => ∃ k, v = .bool k ∧ Q (.done (.ret (.bool (!k)))) s') E' s) :
    wpAny (model prog w) A (Builtin.«object.__ne__» ⟨[.ref x, b], []⟩) Q E' s := by
  unfold Builtin.«object.__ne__»
  repeat (first
    | with_reducible refine wpAny_cRoomFor hu ?_
    | (refine wpAny_bind (m := callSpecialIfBound? (.ref x) (Str.ofString "__eq__") [b])
        (PySem.W.ifBound_K hX I hs hf (wpAny_mono hcall (fun r s' hr => by
          obtain ⟨k, rfl, hq⟩ := hr
          repeat (first | exact hq | exact wpAny_pure hq | exact wpAny_truthy_bool hq | (refine wpAny_bind (m := truthy (.bool _)) (wpAny_truthy_bool ?_)) | wp_step)) fun _ _ e => e)))
    | wp_step)
theorem call_objNe (hX : K.In s.heap) (I : PySem.W.InstAt s.heap x ox C od) (hm : PySem.W.mroIn K C (.type "object") = some true) (hs : PySem.W.findIn K (.ref C) "__eq__" = some (some (.ref f))) (hf : PySem.W.isFn K (.ref f) = true) (hu : A.units + 1 < cLine) {Q : Value → Shared → Prop}
    (hcall : wpAny (model prog w) A.in1 (call (.ref f) [.ref x, b]) (fun v s' => ∃ k, v = .bool k ∧ Q (.bool (!k)) s') E' s) :
    wpAny (model prog w) A (call (.builtin "object.__ne__") [.ref x, b]) Q E' s :=
  wpAny_call (codeAny_call_builtin PySem.F.cmp_object.ne.plain PySem.F.cmpEntry_ne (PySem.W.check_slot PySem.F.cmpKind_ne PySem.F.cmpSplit_ne (I.type.andThen (PySem.W.looks_mroIn hX hm)) (PySem.F.cmpArgs_ne _ _)
    (objNe_entry (A := A.in1) hX I hs hf hu (wpAny_mono hcall (fun v s' hv => by
      obtain ⟨k, e, hq⟩ := hv
      exact ⟨k, e, hq⟩) fun _ _ e => e))))
theorem ifBound_objNe {M : Model} {args : List Value} {Q : Option Value → Shared → Prop} (hX : K.In s.heap) (I : PySem.W.InstAt s.heap x ox C od) (hs : PySem.W.findIn K (.ref C) "__ne__" = some (some (.builtin "object.__ne__")))
    (h : wpAny M A (call (.builtin "object.__ne__") (.ref x :: args)) (fun v => Q (some v)) E' s) : wpAny M A (callSpecialIfBound? (.ref x) "__ne__" args) Q E' s := by
  simp only [callSpecialIfBound?, bindSpecialIfBound?]
  refine wpAny_holding (wpAny_bind (wpAny_bind (wpAny_bind (I.type.here ((PySem.W.looks_findIn hX hs).here ?_)))))
  refine wpAny_bind (wpAny_askSetting (wpAny_ite ?_))
  have fin : wpAny M A (call (.builtin "object.__ne__") ([.ref x] ++ args) >>= fun v => pure (some v)) Q E' s := wpAny_bind (wpAny_mono h (fun v s' h' => wpAny_pure h') fun _ _ h' => h')
  split
  · exact wpAny_bind (wpAny_of_eq (PySem.F.cmp_object.ne.bind _) (wpAny_pure (by exact fin)))
  · exact wpAny_tryCatch (wpAny_bind (wpAny_of_eq (PySem.F.cmp_object.ne.bind _) (wpAny_pure (by exact fin))))
theorem rc_ne {tb : Value} {Q : Value → Shared → Prop} (hu : A.units + 1 < cLine) (hX : K.In s.heap) (I : PySem.W.InstAt s.heap x ox C od) (hb : PySem.W.Looks (model prog w) s.heap (typeOf b) tb) (hn : PySem.W.notFirst K C tb = true)
    (hm : PySem.W.mroIn K C (.type "object") = some true) (hne : PySem.W.findIn K (.ref C) "__ne__" = some (some (.builtin "object.__ne__"))) (hs : PySem.W.findIn K (.ref C) "__eq__" = some (some (.ref f))) (hf : PySem.W.isFn K (.ref f) = true)
    (hcall : wpAny (model prog w) A.in1 (call (.ref f) [.ref x, b]) (fun v s' => ∃ k, v = .bool k ∧ Q (.bool (!k)) s') E' s) : wpAny (model prog w) A (richCompare .NotEq (.ref x) b) Q E' s := by
  have one : wpAny (model prog w) A (tryCompare (.ref x) "__ne__" b) (fun r s' => ∃ v, r = some v ∧ Q v s') E' s := by
    unfold tryCompare
    refine wpAny_bind (ifBound_objNe hX I hne (call_objNe hX I hm hs hf hu (wpAny_mono hcall (fun v s' hv => ?_) fun _ _ e => e)))
    obtain ⟨k, rfl, hq⟩ := hv
    exact ⟨k, rfl, wpAny_pure ⟨_, rfl, hq⟩⟩
  unfold richCompare
  simp only [oneThing_ref, cmpInfo_NotEq]
  refine wpAny_holding (wpAny_bind (wpAny_cRoomFor (Nat.lt_of_succ_lt hu) ?_))
  refine wpAny_bind (I.type.here (wpAny_bind (hb.here ?_)))
  split
  · rename_i q
    have e : PySem.W.subIn K tb (.ref C) = some false := by
      rcases Bool.or_eq_true_iff.mp hn with e | e
      · rw [beq_iff_eq.mp e] at q; simp at q
      · exact beq_iff_eq.mp e
    refine wpAny_bind ((PySem.W.looks_subIn hX e).here ?_)
    simp only [Bool.false_eq_true, if_false]
    refine wpAny_bind (wpAny_mono one (fun r s' z => ?_) fun _ _ e => e)
    obtain ⟨v, rfl, hq⟩ := z
    exact wpAny_pure hq
  · refine wpAny_bind (wpAny_pure ?_)
    simp only [Bool.false_eq_true, if_false]
    refine wpAny_bind (wpAny_mono one (fun r s' z => ?_) fun _ _ e => e)
    obtain ⟨v, rfl, hq⟩ := z
    exact wpAny_pure hq
end
theorem op_own_ne (F : FnOk X.prog X.w X.K X.mg X.base CX k f fd ps sp) (hr : Room (k + 1) X.A) (hm : PySem.W.mroIn X.K C (.type "object") = some true) (hne : PySem.W.findIn X.K (.ref C) "__ne__" = some (some (.builtin "object.__ne__")))
    (hs : PySem.W.findIn X.K (.ref C) "__eq__" = some (some (.ref f))) (hf : PySem.W.isFn X.K (.ref f) = true) (hb : Binds X.K fd ps []) (hx : Passes CX X E) :
    OpR X (compareOp .NotEq) (rOwnEq C sp E not) := by
  intro pins s σ H x y v u Q I rx ry h
  obtain ⟨p, dx, fs, t, rfl, hp, ty, q⟩ := h
  cases rx
  obtain ⟨od, J⟩ := inst_of I hp
  show wpAny (model X.prog X.w) X.A (richCompare .NotEq (.ref p) u) (EP X pins σ Q) X.xe s
  refine rc_ne (hu_of hr) I.kIn J (ty.looks I ry) ty.notFirst hm hne hs hf (thn (run_at F hr.in1 rfl hb hx I (.cons rr (.cons ry .nil)) q) fun r s' hh => ?_)
  obtain ⟨z, H', I', rz, b, ez, q'⟩ := hh
  subst ez
  cases rz
  exact ⟨b, rfl, .bl (!b), H', I', rfl, q'⟩
end
end Own

namespace Toy
open PySem L2 Own
/-! ### exceptions of the text's own, over ArithmeticError, with fields of their own -/
abbrev aeT : List Value := [.type "ArithmeticError", .type "Exception", .type "BaseException", .type "object"]
theorem no_taker {K : PySem.W.Frag} {C : Addr} {f : Str} (h : PySem.W.findIn K (.ref C) f = some none) : PySem.W.takerIn K C f = some none := by
  unfold PySem.W.takerIn
  rw [h]
  rfl
section
variable {prog : Program} {w : World} {A : Around} {R : Result → Shared → Prop} {hp : Heap} {g : Array GenState} {d : Drawn} {t : Nat} {os : OsState}
/-- the first field -/
theorem ae_first {K : PySem.W.Frag} {f : Str} {tk : Tok} {u : Value} {x C : Addr} {fv : Array Value} {cd : ClassData} (X : K.In hp) (hx : hp.get? x = some { cls := .ref C, data := .fields fv }) (hc : PySem.W.clsIn K C = some cd) (hd : cd.hasDict = true)
    (over : PySem.W.excOver K C aeT = true) (no : PySem.W.findIn K (.ref C) f = some none)
    (k : ∀ h' tk' dx, (∀ b o, b ≠ x → hp.get? b = some o → h'.get? b = some o) → hp.objs.size ≤ dx → dx ≠ x → h'.get? x = some { cls := .ref C, dict := some dx, data := .fields fv } → h'.Ns1 dx (fun y => if y = f then some u else none) → R (.ok (.ret .none)) ⟨h', g, d, tk', os⟩) :
    codeAny (model prog w) A (.call (.builtin "object.__setattr__") ⟨[.ref x, .str f tk, u], []⟩) R ⟨hp, g, d, t, os⟩ := by
  have I : PySem.W.InstAt hp x { cls := .ref C, data := .fields fv } C none := ⟨hx, rfl, rfl, trivial⟩
  refine PySem.W.osa_openX PySem.F.store_ArithmeticError X I over (no_taker no) fun b => ?_
  have look : PySem.W.Looks (model prog w) hp (classData C) cd := PySem.W.looks_clsIn X hc
  have old : x ≠ hp.objs.size := Nat.ne_of_lt (Heap.lt_size hx)
  obtain ⟨nm, bs, mro, ns, qn, hdd, sn, sb, ab, col, dl⟩ := cd
  dsimp only at hd
  subst hd
  dsimp only
  unfold Builtin.ObjectAttr.storeInOwnDict Builtin.ObjectAttr.ownDictForStores
  repeat (first
    | with_reducible refine look.at ?_
    | with_reducible refine wpAny_loadPart_at hx ?_
    | with_reducible refine PySem.HandSPX.store_in_new ?_ ?_
    | wp_step)
  · exact ⟨_, #[], _, (Heap.get?_update_ne _ _ _ _ old.symm).trans (Heap.get?_push_at rfl rfl), rfl, (fun e he => absurd he (by simp)), fun _ => rfl⟩
  · intro h' tk' n1 sb'
    have hx' : (hp.push { cls := .type "dict", data := .dict #[] }).get? x = some { cls := .ref C, data := .fields fv } := Heap.get?_push_of_some _ hx
    refine k h' tk' hp.objs.size (fun b o nb e => ?_) (Nat.le_refl _) old.symm ((sb'.2 x old).trans (Heap.get?_update_self _ hx' rfl)) n1
    rw [sb'.2 b (Nat.ne_of_lt (Heap.lt_size e)), Heap.get?_update_ne _ _ _ _ nb]
    exact Heap.get?_push_of_some _ e
/-- a further one -/
theorem ae_more {K : PySem.W.Frag} {f : Str} {tk : Tok} {u : Value} {x C dx : Addr} {fv : Array Value} {cd : ClassData} {m0 : Str → Option Value} {nl : List Str} (X : K.In hp) (hx : hp.get? x = some { cls := .ref C, dict := some dx, data := .fields fv }) (hn : hp.Ns1 dx m0) (hw : Within m0 nl) (hz : nl.length ≤ 1000)
    (hc : PySem.W.clsIn K C = some cd) (hd : cd.hasDict = true) (over : PySem.W.excOver K C aeT = true) (no : PySem.W.findIn K (.ref C) f = some none)
    (k : ∀ h' tk', (∀ b o, b ≠ dx → hp.get? b = some o → h'.get? b = some o) → h'.Ns1 dx (fun y => if y = f then some u else m0 y) → R (.ok (.ret .none)) ⟨h', g, d, tk', os⟩) :
    codeAny (model prog w) A (.call (.builtin "object.__setattr__") ⟨[.ref x, .str f tk, u], []⟩) R ⟨hp, g, d, t, os⟩ := by
  obtain ⟨oD, _, _, hoD, _, _⟩ := hn.count hw
  have I : PySem.W.InstAt hp x { cls := .ref C, dict := some dx, data := .fields fv } C (some oD) := ⟨hx, rfl, rfl, hoD⟩
  refine PySem.W.osa_openX PySem.F.store_ArithmeticError X I over (no_taker no) fun b => ?_
  have look : PySem.W.Looks (model prog w) hp (classData C) cd := PySem.W.looks_clsIn X hc
  obtain ⟨nm, bs, mro, ns, qn, hdd, sn, sb, ab, col, dl⟩ := cd
  dsimp only at hd
  subst hd
  dsimp only
  unfold Builtin.ObjectAttr.storeInOwnDict Builtin.ObjectAttr.ownDictForStores
  repeat (first
    | with_reducible refine look.at ?_
    | with_reducible refine wpAny_loadPart_at hx ?_
    | with_reducible refine PySem.OEX.store_in_old hn hw hz ?_
    | wp_step)
  intro h' tk' n1 sb'
  exact k h' tk' (fun b o nb e => (sb'.2 b nb).trans e) n1
end
/-- what the text has written of such a class -/
structure AeC (K : PySem.W.Frag) (C : Addr) : Prop where
  obj : ∃ nm q N bs bm sn sub ab col dd k0 k1 k2 k3 k5, K.lookup C = some (excClassObj nm q C N bs bm true sn sub ab col dd k0 k1 k2 k3 k5 "ArithmeticError.__new__") ∧ PySem.W.excTail aeT bm = true
  sa : PySem.W.findIn K (.ref C) "__setattr__" = some (some (.builtin "object.__setattr__"))
  ex : PySem.W.subIn K (.ref C) (.type "BaseException") = some true
  ty : PySem.W.typeIn K (.ref C) = some (.type "type")
  kp : PySem.W.keepIn K (.ref C) = true
theorem AeC.cd {K : PySem.W.Frag} {C : Addr} (T : AeC K C) : ∃ cd, PySem.W.clsIn K C = some cd ∧ cd.hasDict = true ∧ PySem.W.excOver K C aeT = true := by
  obtain ⟨nm, q, N, bs, bm, sn, sub, ab, col, dd, k0, k1, k2, k3, k5, hC, ht⟩ := T.obj
  have hc : PySem.W.clsIn K C = some { name := nm, bases := bs, mro := .ref C :: bm, ns := N, qualname := q, hasDict := true, slotNames := sn, subclasses := sub, abstract := ab, collection := col, hasDel := false } := by
    unfold PySem.W.clsIn
    rw [hC] <;> rfl
  refine ⟨_, hc, rfl, ?_⟩
  unfold PySem.W.excOver
  rw [hc]
  show (C == C && PySem.W.excTail aeT bm) = true
  rw [ht, beq_self_eq_true] <;> rfl
section
variable {X : Cx} {pins : List (Addr × Obj)} {σ : L2.St} {H : Hp} {s : Shared} {a C dx : Addr} {f : Str} {y : V} {u : Value} {fs : List (Str × V)} {Q : Unit → Shared → Prop} {E : Value → Shared → Prop} {A : Around}
theorem ast_first (T : AeC X.K C) (I : L2.Inv X pins σ H s) (e : H a = some (L2.exo a C none)) (no : PySem.W.findIn X.K (.ref C) f = some none) (ry : L2.RelV y u)
    (k : ∀ dx s', H dx = none → dx ≠ a → L2.Inv X pins σ (upd (upd H dx (L2.exd dx [(f, y)])) a (L2.exo a C (some dx))) s' → Q () s') : wpAny (model X.prog X.w) A (setAttr (.ref a) f u) Q E s := by
  obtain ⟨cd, hc, hd, over⟩ := T.cd
  obtain ⟨t1, ho⟩ := L2.exo_at I.hok e
  obtain ⟨hp, g, d, t, os⟩ := s
  refine PySem.W.set_plain I.kIn (ox := { cls := .ref C, dict := none, data := .fields #[.ref t1, .none, .none, .none, .bool false, .none] }) (od := none) ⟨ho, rfl, rfl, trivial⟩ T.sa ?_
  refine ae_first I.kIn ho hc hd over no fun h' tk' dx keep big ne hx n1 => ?_
  -- between the two there is a heap with the dict, and the exception still without it
  let G := h'.update a fun _ => { cls := .ref C, dict := none, data := .fields #[.ref t1, .none, .none, .none, .bool false, .none] }
  have ga : G.get? a = some { cls := .ref C, dict := none, data := .fields #[.ref t1, .none, .none, .none, .bool false, .none] } := Heap.get?_update_self _ hx rfl
  have gb : ∀ b, b ≠ a → G.get? b = h'.get? b := fun b nb => Heap.get?_update_ne _ _ _ _ nb
  have hdx : H dx = none := I.hok.fresh big
  have I1 := I.laid (t' := tk') (a := dx) (o := L2.exd dx [(f, y)]) (h' := G) (fun b o q => by
    by_cases c : b = a
    · subst c
      rw [ga]
      exact ho.symm.trans q
    · rw [gb b c]
      exact keep b o c q) big (L2.exd_ok (n1.at fun o q => (gb dx ne).trans q) (L2.relO_put (fs := []) ry fun _ => True.intro))
  have ea : (upd H dx (L2.exd dx [(f, y)])) a = some (L2.exo a C none) := by rw [upd_ne ne.symm, e]
  have I2 := I1.write (t' := tk') (x := a) (e := a) (o := L2.exo a C (some dx)) (h' := h') (by rw [ea]; exact True.intro) (.inl rfl) (fun b o nb q => (gb b nb).symm.trans q) ⟨_, hx⟩ (L2.exo_ok hx)
  exact k dx _ hdx ne I2
theorem ast_more (T : AeC X.K C) (I : L2.Inv X pins σ H s) (e : H a = some (L2.exo a C (some dx))) (ed : H dx = some (L2.exd dx fs)) (hl : fs.length ≤ 900) (no : PySem.W.findIn X.K (.ref C) f = some none) (ry : L2.RelV y u)
    (k : ∀ s', L2.Inv X pins σ (upd H dx (L2.exd dx ((f, y) :: fs))) s' → Q () s') : wpAny (model X.prog X.w) A (setAttr (.ref a) f u) Q E s := by
  obtain ⟨cd, hc, hd, over⟩ := T.cd
  obtain ⟨t1, ho⟩ := L2.exo_at I.hok e
  obtain ⟨mA, n1, rel⟩ := L2.exd_at I.hok ed
  have hw := L2.within_of rel
  obtain ⟨hp, g, d, t, os⟩ := s
  obtain ⟨oD, _, _, hoD, _, _⟩ := n1.count hw
  refine PySem.W.set_plain I.kIn (ox := { cls := .ref C, dict := some dx, data := .fields #[.ref t1, .none, .none, .none, .bool false, .none] }) (od := some oD) ⟨ho, rfl, rfl, hoD⟩ T.sa ?_
  refine ae_more I.kIn ho n1 hw (by rw [List.length_map]; omega) hc hd over no fun h' tk' keep n2 => ?_
  have there : ∃ o, h'.get? dx = some o := by
    obtain ⟨o, _, _, q, _⟩ := n2
    exact ⟨o, q⟩
  exact k _ (I.write (t' := tk') (x := dx) (e := dx) (o := L2.exd dx ((f, y) :: fs)) (by rw [ed]; exact True.intro) (.inl rfl) keep there (L2.exd_ok n2 (L2.relO_put ry rel)))
end
/-- o.f = e, o such an exception that is being made -/
def sAe (K : PySem.W.Frag) (f : Str) (to te : TE) : TS := fun D σ H => te σ H fun y H1 => to σ H1 fun x H2 => ∃ a C : Addr, x = .ref a ∧ AeC K C ∧ PySem.W.findIn K (.ref C) f = some none ∧
  ((H2 a = some (L2.exo a C none) ∧ ∀ dx, H2 dx = none → dx ≠ a → D.nx σ (upd (upd H2 dx (L2.exd dx [(f, y)])) a (L2.exo a C (some dx)))) ∨
    ∃ (dx : Addr) (fs : List (Str × V)), H2 a = some (L2.exo a C (some dx)) ∧ H2 dx = some (L2.exd dx fs) ∧ fs.length ≤ 900 ∧ D.nx σ (upd H2 dx (L2.exd dx ((f, y) :: fs))))
theorem ps_ae {X : Cx} {o e : Expr} {to te : TE} {f : Str} {p' pos : Pos} (ho : PE X o to) (he : PE X e te) (hs : swapsWith e (some (.Attribute o f p')) pos.line X.env = pure false := by rfl) : PS X (.Assign [.Attribute o f p'] e pos) (sAe X.K f to te) := by
  refine ⟨fun pins s σ H D I h => plainObj_wpAny_Assign_Attribute (L2.thn (he.run pins s σ H _ I h) fun v s1 ⟨y, H1, I1, r1, q1⟩ => L2.thn (ho.run pins s1 σ H1 _ I1 q1) fun z s2 ⟨x, H2, I2, r2, a, C, ex, T, no, q⟩ => ?_) hs⟩
  subst ex
  obtain rfl : z = Value.ref a := r2
  rcases q with ⟨ea, q⟩ | ⟨dx, fs, ea, ed, hl, q⟩
  · exact ast_first T I2 ea no r1 fun dx s' n ne J => ⟨σ, _, J, q dx n ne⟩
  · exact ast_more T I2 ea ed hl no r1 fun s' J => ⟨σ, _, J, q⟩
/-- C(e, ..): C's own __init__ keeps sp -/
theorem pmk_ae {X : Cx} {CX : CXT} {x : Str} {C f : Addr} {k : Nat} {fd : FuncData} {ps : List Str} {sp : Sp} {ds : List Value} {dvs : List V} {e : Expr} {es : List Expr} {ta : TA} {p pos : Pos} (T : AeC X.K C) (hi : PySem.W.findIn X.K (.ref C) "__init__" = some (some (.ref f))) (ht : PySem.W.typeIn X.K (.ref f) = some (.type "function"))
    (F : FnOk X.prog X.w X.K X.mg X.base CX k f fd ps sp) (hr : Room (k + 1) X.A) (hb : Binds X.K fd ps ds) (hd : L2.Vals dvs ds) (hx : Passes CX X fun _ _ _ => False) (hg : Gl X x) (hm : X.mg x = some (.ref C)) (ha : PA X (e :: es) ta)
    (hdb : (x == ("__debug__" : Str)) = false := by decide) (he : starEach (e :: es) X.env = (false, eval e X.env) :: starEach es X.env := by rfl) (hpl : (backTo pos (starEach es X.env)).any (·.1) = false := by rfl) :
    L2.PMk X (.Call (.Name x p) (e :: es) [] pos) (L2.tMkO C sp dvs ta) := by
  rintro pins s σ H Q I h
  obtain ⟨nm, q, N, bs, bm, sn, sub, ab, col, dd, k0, k1, k2, k3, k5, hC, hbm⟩ := T.obj
  refine wpAny_Call_Name_kw (L2.ld_glob I hg hm ?_ hdb)
  refine PySem.W.callWith_K (h₀ := X.base) I.ok.mod.kin T.kp (L2.thn (ha.run pos pins s σ H _ I h) fun us s1 ⟨vs, H1, I1, r1, hz, q1⟩ => ⟨I1.kIn, ?_⟩) he hpl
  obtain ⟨hp, g, dr, tk, os⟩ := s1
  have up : hp.objs.size ≤ hp.objs.size + 1 := Nat.le_succ _
  have fresh : H1 (hp.objs.size + 1) = none := I1.hok.fresh up
  have prom := q1 _ fresh
  have keep : ∀ b o, hp.get? b = some o → ((hp.push (PySem.W.kdv_tup us)).push (PySem.HandSPX.excO C hp.objs.size)).get? b = some o := fun b o z => Heap.get?_push_of_some _ (Heap.get?_push_of_some _ z)
  have at_ : ((hp.push (PySem.W.kdv_tup us)).push (PySem.HandSPX.excO C hp.objs.size)).get? (hp.objs.size + 1) = some (PySem.HandSPX.excO C hp.objs.size) := by heap_get
  have I2 := I1.laid (t' := tk) (a := hp.objs.size + 1) (o := L2.exo (hp.objs.size + 1) C none) keep up (L2.exo_ok at_)
  have rel : L2.Vals (V.ref (hp.objs.size + 1) :: (vs ++ dvs)) (Value.ref (hp.objs.size + 1) :: (us ++ ds)) := .cons rfl (r1.append hd)
  have len := rel.length
  rw [F.len _ _ _ _ prom] at len
  have small : us.length ≤ sizeLine := by
    rw [← r1.length, sizeLine_eq]
    omega
  have body := F.run _ X.stack _ _ ⟨Value.ref (hp.objs.size + 1) :: us, []⟩ (Value.ref (hp.objs.size + 1) :: (us ++ ds)) _ _ (fun _ _ _ => False) (hr.make C us []) (I2.env0.make C us []) (hb _ (Value.ref (hp.objs.size + 1) :: us) I2.kIn len.symm) rel prom
  refine wpAny_call (PySem.HandSPX.call_own PySem.F.excBase_ArithmeticError (fun Y => PySem.W.excTail_contains Y bm hbm) (I1.kIn _ _ hC) (PySem.W.looks_findIn I1.kIn hi) (fun self => PySem.W.bind_fn I1.kIn self ht) small (codeAny_mono body ?_))
  rintro (er | fl) s' hq
  · exact hx pins σ _ _ er s' I2 hq
  · cases fl with
    | ret u =>
      obtain ⟨v, H2, os2, bare2, un2, hok2, rv, ev, d, fs, ea, ed, hd1, q2⟩ := hq
      subst ev
      obtain ⟨h2, g2, d2, t2, os'⟩ := s'
      exact ⟨rv, L2.mk_end (L2.raises_own T.ex T.ty) I1 up keep un2 hok2 os2 bare2 ea ed hd1 q2⟩
    | next => exact False.elim hq
    | brk => exact False.elim hq
    | cont => exact False.elim hq
/-- what is needed for isinstance(e, ..), e such an exception -/
structure IsC (K : PySem.W.Frag) (D : Addr) : Prop where
  hg : PySem.W.findIn K (.ref D) "__getattribute__" = some (some (.builtin "BaseException.__getattribute__"))
  hk : PySem.W.findIn K (.ref D) "__getattr__" = some none
  hs : PySem.W.subIn K (.ref D) (.type "BaseException") = some true
  hd : PySem.W.hasDictIn K D = true
  ha : PySem.W.findIn K (.ref D) "__class__" = some (some (.builtin "object.__class__"))
  hn : PySem.W.specialIn K (.builtin "object.__class__") "__get__" = some (some (.builtin "getset_descriptor.__get__"))
  ht : PySem.W.takesIn K (.builtin "object.__class__") = some true
  hm : PySem.W.mroIn K D (.type "object") = some true
def rIsX (K : PySem.W.Frag) (D a d : Addr) : List V → Hp → VK → Prop := fun xs H Q => ∃ (c : V) (cv : Value) (b : Bool) (fs : List (Str × V)), xs = [.ref a, c] ∧ H d = some (.xd fs) ∧ (∀ u, L2.RelV c u → u = cv) ∧ PySem.W.kitOne K (.ref D) cv = some b ∧ Q (.bl b) H
/-- isinstance(e, c), e the caught exception with its fields in a dict at d -/
theorem call_isX {X : Cx} {a D d : Addr} {oe : Obj} {pn : List (Addr × Obj)} (T : IsC X.K D) (hz : L2.Zc (.ref D) (some d) oe) (hf : ∃ vs, oe.data = .fields vs) : CallR (X.suite a ((a, oe) :: pn)) (.builtin "isinstance") (rIsX X.K D a d) := by
  rintro pins s σ H xs us Q I r ⟨c, cv, b, fs, rfl, hdd, hcv, e, q⟩
  match us, r with
  | [_, _], .cons rx (.cons rt .nil) =>
    cases rx
    have ec := hcv _ rt
    subst ec
    obtain ⟨hget, _⟩ := I.pin (a, oe) (List.mem_append.mpr (.inl List.mem_cons_self))
    obtain ⟨vs, hv⟩ := hf
    have hx : ObjOk X.prog X.w H s.heap d (.xd fs) := I.hok d _ hdd
    obtain ⟨mA, hns, _⟩ := hx
    obtain ⟨od, ho, _⟩ := lookIn_ns hns
    have J : PySem.W.InstAt s.heap a oe D (some od) := by
      refine ⟨hget, hz.1, by unfold PySem.W.notCls; rw [hv] <;> rfl, ?_⟩
      rw [hz.2]
      exact ho
    have hcl : (PySem.W.clsIn X.K D).isSome = true := by
      obtain ⟨cd, hc, _⟩ := PySem.W.any_some T.hd
      rw [hc] <;> rfl
    exact PySem.W.kia_one (PySem.W.kitx_exc hcl T.hg T.hk T.hs T.ha T.hn T.ht T.hm) I.kIn J e (fun z => nomatch z) fun tk => ⟨.bl b, H, I.kept (t' := tk) fun _ _ z => z, rfl, q⟩
/-- the same where the suite is told of any error -/
def rIsY (K : PySem.W.Frag) (D a : Addr) (cls : Value) (d : Option Addr) : List V → Hp → VK → Prop := fun xs H Q => cls = .ref D ∧ ∃ dd, d = some dd ∧ rIsX K D a dd xs H Q
theorem call_isY {X : Cx} {a D : Addr} {cls : Value} {d : Option Addr} {oe : Obj} {pn : List (Addr × Obj)} (T : IsC X.K D) (hz : L2.Zc cls d oe) (hf : ∃ vs, oe.data = .fields vs) : CallR (X.suite a ((a, oe) :: pn)) (.builtin "isinstance") (rIsY X.K D a cls d) := by
  rintro pins s σ H xs us Q I r ⟨rfl, dd, rfl, h⟩
  exact call_isX T hz hf pins s σ H xs us Q I r h
/-- isinstance(e, (C1, ..)), the tuple new or not -/
def rIsT (K : PySem.W.Frag) (D a : Addr) (cls : Value) (d : Option Addr) : List V → Hp → VK → Prop := fun xs H Q => cls = .ref D ∧ ∃ (dd t : Addr) (cs : List Addr) (fs : List (Str × V)), d = some dd ∧ H dd = some (.xd fs) ∧ xs = [.ref a, .ref t] ∧ H t = some (.tup (cs.map V.ref)) ∧ PySem.W.kitAny K (.ref D) (cs.map Value.ref) = some false ∧ Q (.bl false) H
theorem refs_vals : ∀ {cs : List Addr} {us : List Value}, L2.Vals (cs.map V.ref) us → us = cs.map Value.ref
  | [], _, r => by cases r; rfl
  | c :: cs, _, r => by
    cases r with
    | cons h t =>
      have e : _ = Value.ref c := h
      rw [e, refs_vals t]
      rfl
theorem call_isT {X : Cx} {a D : Addr} {cls : Value} {d : Option Addr} {oe : Obj} {pn : List (Addr × Obj)} (T : IsC X.K D) (hz : L2.Zc cls d oe) (hf : ∃ vs, oe.data = .fields vs) : CallR (X.suite a ((a, oe) :: pn)) (.builtin "isinstance") (rIsT X.K D a cls d) := by
  rintro pins s σ H xs us Q I r ⟨rfl, dd, t, cs, fs, rfl, hdd, rfl, ht, e, q⟩
  match us, r with
  | [_, _], .cons rx (.cons rt .nil) =>
    cases rx
    cases rt
    obtain ⟨hget, _⟩ := I.pin (a, oe) (List.mem_append.mpr (.inl List.mem_cons_self))
    obtain ⟨vs, hv⟩ := hf
    have hx : ObjOk X.prog X.w H s.heap dd (.xd fs) := I.hok dd _ hdd
    obtain ⟨mA, hns, _⟩ := hx
    obtain ⟨od, ho, _⟩ := lookIn_ns hns
    have J : PySem.W.InstAt s.heap a oe D (some od) := by
      refine ⟨hget, hz.1, by unfold PySem.W.notCls; rw [hv] <;> rfl, ?_⟩
      rw [hz.2]
      exact ho
    have hcl : (PySem.W.clsIn X.K D).isSome = true := by
      obtain ⟨cd, hc, _⟩ := PySem.W.any_some T.hd
      rw [hc] <;> rfl
    obtain ⟨its, rv, htp, _⟩ := I.tuple (SqT.of ht)
    have ei := refs_vals rv
    subst ei
    obtain ⟨⟨tc, tdd, tda, tsl⟩, hto, htc, n, htd⟩ := htp
    dsimp only at htc htd
    subst htc htd
    exact PySem.W.kia_tup (PySem.W.kitx_exc hcl T.hg T.hk T.hs T.ha T.hn T.ht T.hm) I.kIn J hto e (fun z => nomatch z) fun tk => ⟨.bl false, H, I.kept (t' := tk) fun _ _ z => z, rfl, q⟩
/-! ### defs in which lambdas are made: what the text says of them -/
/-- a def of the text whose code object stands at c -/
structure FunT (K : PySem.W.Frag) (x q : Str) (st : Stmt) (f c : Addr) (fd : FuncData) : Prop where
  ex : ∃ (oc : Value) (od : Option Addr) (kV doc pm : Value) (an : Option Addr) (ct : Value) (osl : Array (Option Value)), fd = PySem.W.fnOf x q (defArgs st) (defBody st) (defScope st) .none kV doc pm an (.ref c) ct ∧ K.lookup f = some ⟨oc, od, .func fd, osl⟩ ∧ PySem.W.codeIn K (.ref c) q = true
  kp : PySem.W.keepIn K (.ref f) = true
theorem FunT.ok {P : Program} {w : World} {K : PySem.W.Frag} {mg : Str → Option Value} {base : Heap} {x q : Str} {st : Stmt} {f c : Addr} {fd : FuncData} {N ps : List Str} {k : Nat} {sp : Sp} (F : FunT K x q st f c fd) (S : FnScope N ps (defScope st)) (len : ∀ vs H Q E, sp vs H Q E → vs.length = ps.length)
    (hbody : ∀ (A : Around) (outer : List Env) (s : Shared) (H : Hp) (vs : List V) (Q : VK) (E : XK), Room k (A.deeper (PyProof.Rows.envOfC q (defScope st) s.heap.objs.size f (.ref c))) → sp vs H Q E →
      ∃ t, PSs (cxOf CX0 P w K mg base N q (defScope st) f (.ref c) A outer s H E).nox (defBody st) t ∧ t { nx := fun _ H' => Q .non H', rt := Q } (start N vs) H) : FnOk P w K mg base CX0 (k + 1) f fd ps sp := by
  obtain ⟨oc, od, kV, doc, pm, an, ct, osl, rfl, lk, hcd⟩ := F.ex
  refine fn_of lk hcd S len fun A outer s H vs Q E hr hsp => ?_
  obtain ⟨t, h, z⟩ := hbody A outer s H vs Q E hr hsp
  exact ⟨t, h.nox, z⟩
structure DfnT (K : PySem.W.Frag) (mg : Str → Option Value) (x : Str) (st : Stmt) (f c : Addr) (ps : List Str) : Prop where
  ex : ∃ fd, FunT K x x st f c fd ∧ Binds K fd ps []
  g : mg x = some (.ref f)
/-! ### the text by places -/
def top (i : Nat) : Stmt := PySem.Challenge.pw_breakerrow_k50_invalid_logs_and_names.main.body.getD i (.Pass ⟨0, 0, 0, 0⟩)
abbrev st_InvalidRow_init : Stmt := inClass (top 2) 0
abbrev st_InvalidTime_init : Stmt := inClass (top 3) 0
abbrev st_InvalidOutages_init : Stmt := inClass (top 4) 0
abbrev st_InvalidTrains_init : Stmt := inClass (top 5) 0
abbrev st_InvalidIndex_init : Stmt := inClass (top 6) 0
abbrev st_InvalidBound_init : Stmt := inClass (top 7) 0
abbrev st_InvalidLog_init : Stmt := inClass (top 8) 0
abbrev st_InvalidCall_init : Stmt := inClass (top 9) 0
abbrev st_InvalidText_init : Stmt := inClass (top 10) 0
abbrev st_LimitExceeded_init : Stmt := inClass (top 11) 0
abbrev st_is_integer : Stmt := top 13
abbrev st_is_at_least : Stmt := top 14
abbrev st_is_within : Stmt := top 15
abbrev st_is_breaker : Stmt := top 20
abbrev st_passes : Stmt := top 22
abbrev st_state_behind : Stmt := top 23
abbrev st_check_times : Stmt := top 26
abbrev st_log_of : Stmt := top 27
abbrev st_is_entry : Stmt := top 28
abbrev st_check_log : Stmt := top 29
abbrev st_passes_ahead : Stmt := top 30
abbrev st_gaps_of : Stmt := top 31
abbrev st_narrowed : Stmt := top 32
abbrev st_explanations : Stmt := top 33
abbrev st_first_conflict : Stmt := top 34
abbrev st_forecast : Stmt := top 35
abbrev st_check_periods : Stmt := top 36
abbrev st_waits_of : Stmt := top 37
abbrev st__law_mixed : Stmt := top 39
abbrev st__law_well : Stmt := top 40
abbrev st__law_draw : Stmt := top 41
abbrev st__law_said : Stmt := top 42
abbrev st__law_logs_right : Stmt := top 43
abbrev st__law_others_right : Stmt := top 44
abbrev st__law_right : Stmt := top 45
abbrev st_law : Stmt := top 46
/-- a def of the top -/
structure Dfn (K : PySem.W.Frag) (mg : Str → Option Value) (x : Str) (st : Stmt) (f : Addr) (ps : List Str) : Prop where
  ex : ∃ fd, Fun K x x st f fd ∧ Binds K fd ps []
  g : mg x = some (.ref f)
structure Mth (K : PySem.W.Frag) (C : Addr) (m q : Str) (st : Stmt) (f : Addr) (ps : List Str) : Prop where
  ex : ∃ fd, Fun K m q st f fd ∧ Binds K fd ps []
  at_ : PySem.W.findIn K (.ref C) m = some (some (.ref f))
  fn : PySem.W.isFn K (.ref f) = true
  fk : PySem.W.fnIn K f = true
/-- a def that is called by its name, with its promise -/
structure Cal (P : Program) (w : World) (K : PySem.W.Frag) (mg : Str → Option Value) (base : Heap) (x : Str) (k : Nat) (f : Addr) (ps : List Str) (sp : Sp) : Prop where
  ex : ∃ fd, FnOk P w K mg base CX0 k f fd ps sp ∧ Binds K fd ps []
  g : mg x = some (.ref f)
  kp : PySem.W.keepIn K (.ref f) = true
theorem Dfn.cal {P : Program} {w : World} {K : PySem.W.Frag} {mg : Str → Option Value} {base : Heap} {x : Str} {st : Stmt} {f : Addr} {ps : List Str} {k : Nat} {sp : Sp} (D : Dfn K mg x st f ps) (h : ∀ fd, Fun K x x st f fd → FnOk P w K mg base CX0 k f fd ps sp) : Cal P w K mg base x k f ps sp := by
  obtain ⟨fd, F, b⟩ := D.ex
  exact ⟨⟨fd, h fd F, b⟩, D.g, F.kp⟩
theorem pe_c {X : Cx} {x : Str} {k : Nat} {f : Addr} {ps : List Str} {sp : Sp} {t : TA} {e : Expr} {es : List Expr} {p pos : Pos} (c : Cal X.prog X.w X.K X.mg X.base x k f ps sp) (hr : Room k X.A) (hg : Gl X x)
    (ha : PA X (e :: es) t) (hdb : (x == ("__debug__" : Str)) = false := by decide) (he : starEach (e :: es) X.env = (false, eval e X.env) :: starEach es X.env := by rfl) (hpl : (backTo pos (starEach es X.env)).any (·.1) = false := by rfl) :
    PE X (.Call (.Name x p) (e :: es) [] pos) (tCall sp [] E0 t) := by
  obtain ⟨fd, F, b⟩ := c.ex
  exact pe_call F hr hg c.g c.kp b .nil pass0 ha hdb he hpl
/-- a method with its promise -/
structure Met (P : Program) (w : World) (K : PySem.W.Frag) (mg : Str → Option Value) (base : Heap) (C : Addr) (m : Str) (k : Nat) (f : Addr) (ps : List Str) (sp : Sp) : Prop where
  ex : ∃ fd, FnOk P w K mg base CX0 k f fd ps sp ∧ Binds K fd ps []
  me : Meth K C m f
  fk : PySem.W.fnIn K f = true
theorem Mth.met {P : Program} {w : World} {K : PySem.W.Frag} {mg : Str → Option Value} {base : Heap} {C : Addr} {m q : Str} {st : Stmt} {f : Addr} {ps : List Str} {k : Nat} {sp : Sp} (D : Mth K C m q st f ps) (h : ∀ fd, Fun K m q st f fd → FnOk P w K mg base CX0 k f fd ps sp) : Met P w K mg base C m k f ps sp := by
  obtain ⟨fd, F, b⟩ := D.ex
  exact ⟨⟨fd, h fd F, b⟩, ⟨D.at_, D.fn, F.kp⟩, D.fk⟩

/-! ### values of plain kinds -/
inductive Kd (H : Hp) : V → String → Prop where
  | non : Kd H .non "NoneType"
  | bl (b : Bool) : Kd H (.bl b) "bool"
  | int (i : Int) : Kd H (.int i) "int"
  | str (x : Str) : Kd H (.str x) "str"
  | lst {a : Addr} {xs : List V} (e : H a = some (.lst xs)) : Kd H (.ref a) "list"
  | tup {a : Addr} {xs : List V} (e : H a = some (.tup xs)) : Kd H (.ref a) "tuple"
  | dK {a : Addr} {xs : List (Key × V)} (e : H a = some (.dK xs)) : Kd H (.ref a) "dict"
theorem Kd.ty {K : PySem.W.Frag} {H : Hp} {v : V} {n : String} (h : Kd H v n) : TyX K H v (.type n) := by
  cases h with
  | non => exact .base .non
  | bl b => exact .base (.bl b)
  | int i => exact .base (.int i)
  | str x => exact .base (.str x)
  | lst e => exact .base (.lst e)
  | tup e => exact .base (.tup e)
  | dK e => exact .base (.dK e)
def isI : V → Bool
  | .int _ => true
  | _ => false
def toI : V → Int
  | .int i => i
  | _ => 0
theorem Kd.kit {K : PySem.W.Frag} {H : Hp} {v : V} {n : String} (h : Kd H v n) (c : String) (b : Bool) (hc : c = "int" ∧ b = (n == "int" || n == "bool") ∨ c ≠ "int" ∧ c ∈ ["bool", "list", "tuple"] ∧ b = (n == c)) : PySem.W.kitOne K (.type n) (.type c) = some b := by
  rcases hc with ⟨rfl, rfl⟩ | ⟨_, hc, rfl⟩
  · cases h <;> exact kit_ty (by decide +kernel)
  · simp only [List.mem_cons, List.mem_nil_iff, or_false] at hc
    rcases hc with rfl | rfl | rfl <;> cases h <;> exact kit_ty (by decide +kernel)
theorem Kd.same {H H' : Hp} {v : V} {n : String} (h : Kd H v n) (s : ∀ b o, v = .ref b → H b = some o → H' b = some o) : Kd H' v n := by
  cases h with
  | non => exact .non
  | bl b => exact .bl b
  | int i => exact .int i
  | str x => exact .str x
  | lst e => exact .lst (s _ _ rfl e)
  | tup e => exact .tup (s _ _ rfl e)
  | dK e => exact .dK (s _ _ rfl e)
/-- all but what stands at a is kept -/
def Kp (a : Addr) (H H' : Hp) : Prop := ∀ b o, b ≠ a → H b = some o → H' b = some o
theorem Kp.refl {a : Addr} {H : Hp} : Kp a H H := fun _ _ _ h => h
theorem Kp.trans {a : Addr} {H H1 H2 : Hp} (h : Kp a H H1) (h' : Kp a H1 H2) : Kp a H H2 := fun b o n e => h' b o n (h b o n e)
theorem Kp.of {a : Addr} {H H' : Hp} (s : Same H H') : Kp a H H' := fun b o _ e => s b o e
theorem Kp.upd {a : Addr} {H : Hp} {o : HO} : Kp a H (upd H a o) := fun b _ n e => by rw [upd_ne n]; exact e
theorem Same.upd {H : Hp} {p : Addr} {o : HO} (h : H p = none) : Same H (L2.upd H p o) := fun b u e => by rw [upd_ne (ne_of_none e h)]; exact e
theorem Kp.free {a b : Addr} {H H' : Hp} {o : HO} (k : Kp a H H') (ha : H a = some o) (h : H' b = none) (n : b ≠ a) : H b = none := by
  cases q : H b with
  | none => rfl
  | some u => rw [k b u n q] at h; cases h

/-! ### the promises of the small defs -/
def spIsInt : Sp := fun vs H Q _ => ∃ v n, vs = [v] ∧ Kd H v n ∧ Q (.bl (isI v)) H
def spAtL : Sp := fun vs H Q _ => ∃ v n l, vs = [v, .int l] ∧ Kd H v n ∧ Q (.bl (isI v && decide (l ≤ toI v))) H
def spWithin : Sp := fun vs H Q _ => ∃ v n l m, vs = [v, .int l, .int m] ∧ Kd H v n ∧ Q (.bl (isI v && (decide (l ≤ toI v) && decide (toI v ≤ m)))) H
/-- how many steps -/
def stepsUp (d s : Int) : Int := if -(-d / s) > 0 then -(-d / s) else 0
def spSteps : Sp := fun vs H Q _ => ∃ d s, vs = [.int d, .int s] ∧ 0 < s ∧ s.natAbs.log2 < 9000 ∧ Q (.int (stepsUp d s)) H

/-- what is no list is kept -/
def NL (H H' : Hp) : Prop := ∀ b o, H b = some o → (∀ xs, o ≠ .lst xs) → H' b = some o
theorem NL.refl {H : Hp} : NL H H := fun _ _ h _ => h
theorem NL.trans {H H1 H2 : Hp} (a : NL H H1) (b : NL H1 H2) : NL H H2 := fun c o h n => b c o (a c o h n) n
theorem NL.of {H H' : Hp} (s : Same H H') : NL H H' := fun b o e _ => s b o e
theorem Kp.nl {a : Addr} {H H' : Hp} {xs : List V} (k : Kp a H H') (h : H a = some (.lst xs)) : NL H H' := fun b o e n => k b o (fun z => by subst z; rw [h] at e; exact n xs (Option.some.inj e).symm) e
theorem NL.upd {H : Hp} {p : Addr} {xs : List V} {o : HO} (h : H p = some (.lst xs)) : NL H (L2.upd H p o) := Kp.nl Kp.upd h
theorem pe_gI {X : Cx} {x : Str} {i : Int} {t : Tok} {pos : Pos} (hm : X.mg x = some (.int i t)) (hg : Gl X x := by rfl) (hd : (x == ("__debug__" : Str)) = false := by decide) : PE X (.Name x pos) (tC (.int i)) := pe_glob hg hm ⟨t, rfl⟩ hd
@[irreducible] def PB (n : Nat) : Int := 2 ^ n
theorem PB_succ (n : Nat) : PB (n + 1) = PB n + PB n := by
  unfold PB
  rw [Int.pow_succ]
  omega
theorem PB_pos (n : Nat) : 1 ≤ PB n := by
  unfold PB
  have : (0 : Int) < 2 ^ n := Int.pow_pos (by decide)
  omega
theorem PB_le {n m : Nat} (h : n ≤ m) : PB n ≤ PB m := by
  induction m with
  | zero => rw [Nat.le_zero.mp h]; exact Int.le_refl _
  | succ m ih =>
    by_cases e : n = m + 1
    · rw [e]; exact Int.le_refl _
    · have h1 := ih (by omega)
      have h2 := PB_succ m
      have h3 := PB_pos m
      omega
theorem PB_abs {i : Int} {n : Nat} (h0 : 0 ≤ i) (h : i ≤ PB n) : i.natAbs < 2 ^ (n + 1) := by
  unfold PB at h
  have e : (2 : Nat) ^ (n + 1) = 2 ^ n * 2 := Nat.pow_succ 2 n
  have e2 : ((2 ^ n : Nat) : Int) = 2 ^ n := by rw [Int.natCast_pow]; rfl
  rw [← e2] at h
  have : 0 < 2 ^ n := Nat.pow_pos (by decide)
  rw [e]
  generalize 2 ^ n = w at *
  omega
theorem PB_of {i : Int} {n : Nat} (h : i.natAbs < 2 ^ n) : i ≤ PB n := by
  unfold PB
  have e2 : ((2 ^ n : Nat) : Int) = 2 ^ n := by rw [Int.natCast_pow]; rfl
  rw [← e2]
  generalize 2 ^ n = w at *
  omega
def BB : Int := PB 5000
theorem BB0 : 0 ≤ BB := by
  have := PB_pos 5000
  unfold BB
  omega
theorem bb_lt {i : Int} (h0 : 0 ≤ i) (h : i ≤ BB + BB) : i.natAbs < 2 ^ 5002 := PB_abs h0 (by rw [PB_succ]; exact h)
theorem mulBB {i j : Int} (i0 : 0 ≤ i) (i1 : i ≤ BB + BB) (j0 : 0 ≤ j) (j1 : j ≤ BB + BB) : CMulW i j := wide_mul (bb_lt i0 i1) (bb_lt j0 j1) (by decide) (by decide) (by decide)
theorem BB1 : 1 ≤ BB := PB_pos 5000
theorem divBB {j : Int} (j0 : 1 ≤ j) (j1 : j ≤ BB) : j.natAbs.log2 < 9000 := (wide_div (i := 0) (by omega : 0 < j) (bb_lt (by omega) (by have := BB0; omega)) (by decide) (by decide)).2
theorem small2 {n : Nat} (h : n ≤ 100000) : n ≤ sizeLine := Nat.le_trans h (by decide)
theorem small1 {n : Nat} (h : n ≤ 100000) : n < sizeLine := Nat.lt_of_le_of_lt h (by decide)
theorem tYes_of {σ : L2.St} {H : Hp} {A B : Hp → Prop} (h : A H) : tYes σ H (fun b H3 => if b = true then A H3 else B H3) := by
  show if true = true then A H else B H
  rw [if_pos rfl]
  exact h
theorem cut_init (xs : List V) : cutV xs none (some (-1)) = xs.take (xs.length - 1) := by
  show (xs.drop 0).take ((if (-1 : Int) < 0 then ((-1 : Int) + (xs.length : Int)).toNat else min (-1 : Int).toNat xs.length) - 0) = _
  rw [if_pos (by decide), List.drop_zero]
  congr 1
  omega
theorem cut_last (xs : List V) : cutV xs (some (-1)) none = xs.drop (xs.length - 1) := by
  show (xs.drop (if (-1 : Int) < 0 then ((-1 : Int) + (xs.length : Int)).toNat else min (-1 : Int).toNat xs.length)).take (xs.length - (if (-1 : Int) < 0 then ((-1 : Int) + (xs.length : Int)).toNat else min (-1 : Int).toNat xs.length)) = _
  rw [if_pos (by decide)]
  have e : ((-1 : Int) + (xs.length : Int)).toNat = xs.length - 1 := by omega
  rw [e]
  refine List.take_of_length_le ?_
  rw [List.length_drop]
  exact Nat.le_refl _
theorem none_of {H H' : Hp} {l : Addr} (s : Same H H') (h : H' l = none) : H l = none := by
  cases q : H l with
  | none => rfl
  | some o => rw [s _ _ q] at h; cases h
theorem for_enum {K : PySem.W.Frag} {a : Addr} {xs : List V} {g : TG} {tb : TS} {D : Ends} {σ : L2.St} {H : Hp} (Pv : Nat → L2.St → Hp → Prop) (h0 : Pv 0 σ H) (hl : ∀ i σ H, i ≤ xs.length → Pv i σ H → SqL K H a xs)
    (hs : ∀ i x T σ H, xs[i]? = some x → Pv i σ H → H T = none → g (.ref T) σ (upd H T (.tup [.int (i : Nat), x])) fun σ2 H2 => tb { D with nx := Pv (i + 1), ct := Pv (i + 1), bk := D.nx } σ2 H2) (hd : ∀ σ H, Pv xs.length σ H → D.nx σ H) :
    ∃ W : Nat → Nat → L2.St → Hp → Prop, (∃ m, W 0 m σ H) ∧ ∀ i m σ H, W i m σ H →
      ((Ite K a).stop i H ∧ D.nx σ H) ∨ ((Ite K a).go i H ∧ ∃ N : L2.St → Hp → Prop, (∀ σ' H', N σ' H' → ∃ m', m' < m ∧ W (i + 1) m' σ' H') ∧ ∀ x H', (Ite K a).yld i H x H' → g x σ H' fun σ2 H2 => tb { D with nx := N, ct := N, bk := D.nx } σ2 H2) := by
  refine ⟨fun i m σ H => m = xs.length - i ∧ i ≤ xs.length ∧ Pv i σ H, ⟨xs.length, by simp, Nat.zero_le _, h0⟩, ?_⟩
  rintro i m σ H ⟨rfl, hi, p⟩
  have q := hl i σ H hi p
  by_cases hlt : i < xs.length
  · refine .inr ⟨⟨xs, xs[i], q, by simp [hlt]⟩, Pv (i + 1), fun σ' H' p' => ⟨xs.length - (i + 1), by omega, rfl, hlt, p'⟩, fun x H' y => ?_⟩
    obtain ⟨T, x', rfl, hT, rfl, hx⟩ := y
    exact hs i x' T σ H (hx xs q) p hT
  · have e : i = xs.length := by omega
    subst e
    exact .inl ⟨⟨xs, q, Nat.le_refl _⟩, hd σ H p⟩
theorem pe_callN0 {X : Cx} {CX : CXT} {k : Nat} {f : Addr} {fd : FuncData} {ps ks : List Str} {sp : Sp} {E : XK} {x : Str} {p pos : Pos} {kws : List Keyword} {tk : TA} {g : List Value → List Value → List Value} {gV : List V → List V → List V}
    (F : FnOk X.prog X.w X.K X.mg X.base CX k f fd ps sp) (hr : Room k X.A) (hg : Gl X x) (hm : X.mg x = some (.ref f)) (hk : PySem.W.keepIn X.K (.ref f) = true) (hb : KBn X.K fd ps 0 ks g gV) (hx : Passes CX X E) (hkw : PK X kws tk)
    (hall : (backToKw pos (keywordEach kws X.env)).all (·.1.isSome) = true := by rfl) (hks : (backToKw pos (keywordEach kws X.env)).filterMap (·.1) = ks := by rfl) (hdb : (x == ("__debug__" : Str)) = false := by decide)
    (hpl : ((backTo pos (starEach [] X.env)).any (·.1) || (backToKw pos (keywordEach kws X.env)).any (·.1.isNone)) = false := by rfl) :
    PE X (.Call (.Name x p) [] kws pos) (tCallN 0 ks.length sp gV E tNil tk) := by
  refine ⟨fun pins s σ H Q I h => ?_⟩
  refine wpAny_Call_Name_kw (ld_glob I hg hm ?_ hdb)
  refine PySem.W.callWith_KW0 (h₀ := X.base) I.ok.mod.kin hk hall ?_ hpl
  refine thn (hkw.run pos pins s σ H _ I h) fun ws s2 ⟨zs, H2, I2, rz, l1, l2, q2⟩ => ⟨I2.kIn, ?_⟩
  rw [hks]
  exact run_fnN F hr hb hx I2 .nil rz rfl l2 q2
section
variable {X : Cx} {C : Addr} {k : Nat} {f : Addr} {ps : List Str} {sp : Sp}
theorem Met.op_in (c : Met X.prog X.w X.K X.mg X.base C "__contains__" k f ps sp) (hr : Room k X.A) : OpR X (compareOp .In) (rOwnIn C sp E0 _root_.id) := by
  obtain ⟨fd, F, b⟩ := c.ex
  exact op_own_in F hr c.me.at_ c.me.fn b pass0
theorem Met.op_notin (c : Met X.prog X.w X.K X.mg X.base C "__contains__" k f ps sp) (hr : Room k X.A) : OpR X (compareOp .NotIn) (rOwnIn C sp E0 Bool.not) := by
  obtain ⟨fd, F, b⟩ := c.ex
  exact op_own_notin F hr c.me.at_ c.me.fn b pass0
theorem Met.c_len (c : Met X.prog X.w X.K X.mg X.base C "__len__" k f ps sp) (hr : Room (k + 1) X.A) : CallR X (.builtin "len") (rOwnLen C sp E0) := by
  obtain ⟨fd, F, b⟩ := c.ex
  exact call_own_len F hr c.me.at_ c.me.fn b pass0
theorem Met.op_add (c : Met X.prog X.w X.K X.mg X.base C "__add__" k f ps sp) (hr : Room k X.A) (hc : PySem.W.selfFirst X.K C = true) : OpR X (binaryOp .Add) (rOwnAdd C sp E0) := by
  obtain ⟨fd, F, b⟩ := c.ex
  exact op_own_add F hr hc c.me.at_ c.me.fn b pass0
theorem Met.op_eq (c : Met X.prog X.w X.K X.mg X.base C "__eq__" k f ps sp) (hr : Room k X.A) : OpR X (compareOp .Eq) (rOwnEq C sp E0 _root_.id) := by
  obtain ⟨fd, F, b⟩ := c.ex
  exact op_own_eq F hr c.me.at_ c.me.fn b pass0
theorem Met.op_ne (c : Met X.prog X.w X.K X.mg X.base C "__eq__" k f ps sp) (hr : Room (k + 1) X.A) (hm : PySem.W.mroIn X.K C (.type "object") = some true) (hne : PySem.W.findIn X.K (.ref C) "__ne__" = some (some (.builtin "object.__ne__"))) : OpR X (compareOp .NotEq) (rOwnEq C sp E0 Bool.not) := by
  obtain ⟨fd, F, b⟩ := c.ex
  exact op_own_ne F hr hm hne c.me.at_ c.me.fn b pass0
theorem Met.p_ix {a b : Expr} {ta tb : TE} {pos : Pos} (c : Met X.prog X.w X.K X.mg X.base C "__getitem__" k f ps sp) (hr : Room (k + 1) X.A) (ha : PE X a ta) (hb' : PE X b tb) (hsl : ∀ o i, subscripted b true o i = runValue (.builtin "lifetime.subscript" ⟨[o, i], []⟩) := by exact fun _ _ => rfl) :
    PE X (.Subscript a b pos) (tOp (rOwnIx C sp E0) ta tb) := by
  obtain ⟨fd, F, bb⟩ := c.ex
  exact pe_own_ix F hr c.me.at_ c.fk c.me.fn bb pass0 ha hb' hsl
end
theorem Met.p_m0 {X : Cx} {C : Addr} {k : Nat} {f : Addr} {ps : List Str} {sp : Sp} {m : Str} {o : Expr} {ta : TE} {apos pos : Pos} {pl : Sem Bool} (c : Met X.prog X.w X.K X.mg X.base C m k f ps sp) (cl : Cls X.K C) (hr : Room k X.A) (he : PE X o ta)
    (ht : eval (.Call (.Attribute o m apos) [] [] pos) X.env = (do
      let ov ← eval o X.env
      standAt apos.atName
      let (f, first) ← holding [ov] (getMethod ov m pl)
      callWith pos f first (backTo pos (starEach [] X.env)) (backToKw pos (keywordEach [] X.env))) := by rfl) :
    PE X (.Call (.Attribute o m apos) [] [] pos) (tMeth C m sp [] E0 ta tNil) := by
  obtain ⟨fd, F, b⟩ := c.ex
  exact pe_meth0 he cl c.me F hr b .nil pass0 ht
/-! ### a class of the text -/
structure CF (K : PySem.W.Frag) (C : Addr) : Prop where
  cl : Cls K C
  cls : PySem.W.isClsIn K C = true
  ty : PySem.W.typeIn K (.ref C) = some (.type "type")
  oc : PySem.W.findIn K (.ref C) "__class__" = some (some (.builtin "object.__class__"))
  og : PySem.W.specialIn K (.builtin "object.__class__") "__get__" = some (some (.builtin "getset_descriptor.__get__"))
  ot : PySem.W.takesIn K (.builtin "object.__class__") = some true
  om : PySem.W.mroIn K C (.type "object") = some true
  sf : PySem.W.selfFirst K C = true
  ne : PySem.W.findIn K (.ref C) "__ne__" = some (some (.builtin "object.__ne__"))
theorem CF.kitT {K : PySem.W.Frag} {C : Addr} (M : CF K C) {H : Hp} {v : V} {n : String} (h : Kd H v n) : PySem.W.kitOne K (.type n) (.ref C) = some false := by
  have e1 : ((PySem.W.clsIn K C).isSome && PySem.W.typeIn K (.ref C) == some (.type "type")) = true := by
    have h2 : (PySem.W.clsIn K C).isSome = true := M.cls
    rw [h2, M.ty] <;> rfl
  have e2 : PySem.W.subIn K (.type n) (.ref C) = some false := by
    cases h with
    | non => exact sub_ty (l := ["NoneType", "object"]) (by decide +kernel)
    | bl _ => exact sub_ty (l := ["bool", "int", "object"]) (by decide +kernel)
    | int _ => exact sub_ty (l := ["int", "object"]) (by decide +kernel)
    | str _ => exact sub_ty (l := ["str", "object"]) (by decide +kernel)
    | lst _ => exact sub_ty (l := ["list", "object"]) (by decide +kernel)
    | tup _ => exact sub_ty (l := ["tuple", "object"]) (by decide +kernel)
    | dK _ => exact sub_ty (l := ["dict", "object"]) (by decide +kernel)
  show (if (Value.type n == Value.ref C) = true then some true else PySem.W.kitCls K (.type n) (.ref C)) = some false
  rw [if_neg (by intro z; cases z)]
  show (if ((PySem.W.clsIn K C).isSome && PySem.W.typeIn K (.ref C) == some (.type "type")) = true then PySem.W.subIn K (.type n) (.ref C) else none) = some false
  rw [if_pos e1, e2]
theorem CF.tyR {K : PySem.W.Frag} {C : Addr} (M : CF K C) {H : Hp} {p dx : Addr} {fs : List (Str × V)} (h : H p = some (.ins C dx fs)) : TyX K H (.ref p) (.ref C) := .base (.ins h M.cl M.oc M.og M.ot M.om)
theorem vals_rev {vs : List V} {us : List Value} (r : Vals vs us) : Vals vs.reverse us.reverse := by
  induction r with
  | nil => exact .nil
  | cons h t ih =>
    rw [List.reverse_cons, List.reverse_cons]
    exact ih.append (.cons h .nil)
/-- f(c = .., b = .., a = ..) of a def f(a, b, c) -/
theorem pe_kr {X : Cx} {k : Nat} {f : Addr} {sp : Sp} {x : Str} {ps : List Str} {st : Stmt} {kws : List Keyword} {tk : TA} {p pos : Pos} (D : Dfn X.K X.mg x st f ps) (h : ∀ fd, Fun X.K x x st f fd → FnOk X.prog X.w X.K X.mg X.base CX0 k f fd ps sp)
    (hbind : ∀ (kV doc pm : Value) (an : Option Addr) (cdv ct : Value) (us : List Value), us.length = ps.reverse.length → bindArgs (PySem.W.fnOf x x (defArgs st) (defBody st) (defScope st) .none kV doc pm an cdv ct) ⟨[], ps.reverse.zip us⟩ = pure (ps.zip us.reverse))
    (hr : Room k X.A) (hg : Gl X x) (hkw : PK X kws tk) (hall : (backToKw pos (keywordEach kws X.env)).all (·.1.isSome) = true := by rfl) (hks : (backToKw pos (keywordEach kws X.env)).filterMap (·.1) = ps.reverse := by rfl) (hdb : (x == ("__debug__" : Str)) = false := by decide)
    (hpl : ((backTo pos (starEach [] X.env)).any (·.1) || (backToKw pos (keywordEach kws X.env)).any (·.1.isNone)) = false := by rfl) :
    PE X (.Call (.Name x p) [] kws pos) (tCallN 0 ps.reverse.length sp (fun us ws => us ++ ws.reverse) E0 tNil tk) := by
  obtain ⟨fd, F, _⟩ := D.ex
  have hb : KBn X.K fd ps 0 ps.reverse (fun us ws => us ++ ws.reverse) (fun us ws => us ++ ws.reverse) := by
    refine ⟨fun s us ws hX h1 h2 => ?_, fun r1 r2 => r1.append (vals_rev r2)⟩
    obtain ⟨oc, od, kV, doc, pm, an, cdv, ct, osl, rfl, lk, hcd⟩ := F.ex
    match us, h1 with
    | [], _ => exact .of_eq (hbind kV doc pm an cdv ct ws h2)
  exact pe_callN0 (h fd F) hr hg D.g F.kp hb pass0 hkw hall hks hdb hpl
/-- where the defs and classes of the text stand -/
structure LA where
  f_is_integer : Addr
  f_is_at_least : Addr
  f_is_within : Addr
  f_is_breaker : Addr
  f_passes : Addr
  f_state_behind : Addr
  f_check_times : Addr
  f_log_of : Addr
  f_is_entry : Addr
  f_check_log : Addr
  f_passes_ahead : Addr
  f_gaps_of : Addr
  f_narrowed : Addr
  f_explanations : Addr
  f_first_conflict : Addr
  f_forecast : Addr
  f_check_periods : Addr
  f_waits_of : Addr
  f__law_mixed : Addr
  f__law_well : Addr
  f__law_draw : Addr
  f__law_said : Addr
  f__law_logs_right : Addr
  k__law_logs_right : Addr
  t__law_logs_right : Addr
  f__law_others_right : Addr
  k__law_others_right : Addr
  t__law_others_right : Addr
  f__law_right : Addr
  k__law_right : Addr
  t__law_right : Addr
  e_BreakerError : Addr
  e_InvalidRow : Addr
  e_InvalidTime : Addr
  e_InvalidOutages : Addr
  e_InvalidTrains : Addr
  e_InvalidIndex : Addr
  e_InvalidBound : Addr
  e_InvalidLog : Addr
  e_InvalidCall : Addr
  e_InvalidText : Addr
  e_LimitExceeded : Addr
  i_InvalidRow : Addr
  i_InvalidTime : Addr
  i_InvalidLog : Addr
/-- what the text says of them -/
structure LX (K : PySem.W.Frag) (mg : Str → Option Value) (L : LA) : Prop where
  b_ArithmeticError : mg "ArithmeticError" = none
  b_bool : mg "bool" = none
  b_enumerate : mg "enumerate" = none
  b_int : mg "int" = none
  b_isinstance : mg "isinstance" = none
  b_len : mg "len" = none
  b_list : mg "list" = none
  b_max : mg "max" = none
  b_min : mg "min" = none
  b_range : mg "range" = none
  b_repr : mg "repr" = none
  b_tuple : mg "tuple" = none
  b_zip : mg "zip" = none
  n_MOST_BREAKERS : ∃ t, mg "MOST_BREAKERS" = some (.int 12 t)
  n_MOST_COUNT : ∃ t, mg "MOST_COUNT" = some (.int 1000000000000 t)
  n_MOST_TIME : ∃ t, mg "MOST_TIME" = some (.int 1000000000000000000000000000000 t)
  n_MOST_ENTRIES : ∃ t, mg "MOST_ENTRIES" = some (.int 1000 t)
  d_is_integer : Dfn K mg "is_integer" st_is_integer L.f_is_integer ["value"]
  d_is_at_least : Dfn K mg "is_at_least" st_is_at_least L.f_is_at_least ["value", "least"]
  d_is_within : Dfn K mg "is_within" st_is_within L.f_is_within ["value", "least", "most"]
  d_is_breaker : Dfn K mg "is_breaker" st_is_breaker L.f_is_breaker ["value"]
  d_passes : Dfn K mg "passes" st_passes L.f_passes ["breaker", "state", "time"]
  d_state_behind : Dfn K mg "state_behind" st_state_behind L.f_state_behind ["breaker", "state", "time", "succeeded"]
  d_check_times : Dfn K mg "check_times" st_check_times L.f_check_times ["times"]
  d_log_of : Dfn K mg "log_of" st_log_of L.f_log_of ["breaker", "times"]
  d_is_entry : Dfn K mg "is_entry" st_is_entry L.f_is_entry ["value"]
  d_check_log : Dfn K mg "check_log" st_check_log L.f_check_log ["log"]
  d_passes_ahead : Dfn K mg "passes_ahead" st_passes_ahead L.f_passes_ahead ["log"]
  d_gaps_of : Dfn K mg "gaps_of" st_gaps_of L.f_gaps_of ["log"]
  d_narrowed : Dfn K mg "narrowed" st_narrowed L.f_narrowed ["bounds", "gap", "passed"]
  d_explanations : Dfn K mg "explanations" st_explanations L.f_explanations ["log"]
  d_first_conflict : Dfn K mg "first_conflict" st_first_conflict L.f_first_conflict ["log"]
  d_forecast : Dfn K mg "forecast" st_forecast L.f_forecast ["log", "time"]
  d_check_periods : Dfn K mg "check_periods" st_check_periods L.f_check_periods ["period_list"]
  d_waits_of : Dfn K mg "waits_of" st_waits_of L.f_waits_of ["period_list"]
  d__law_mixed : Dfn K mg "_law_mixed" st__law_mixed L.f__law_mixed ["_law_cell", "_law_k"]
  d__law_well : Dfn K mg "_law_well" st__law_well L.f__law_well ["_law_cell"]
  d__law_draw : Dfn K mg "_law_draw" st__law_draw L.f__law_draw ["_law_well_here", "_law_many"]
  d__law_said : Dfn K mg "_law_said" st__law_said L.f__law_said ["_law_deed"]
  d__law_logs_right : DfnT K mg "_law_logs_right" st__law_logs_right L.f__law_logs_right L.k__law_logs_right ["_law_place"]
  d__law_others_right : DfnT K mg "_law_others_right" st__law_others_right L.f__law_others_right L.k__law_others_right ["_law_seen", "_law_last"]
  d__law_right : DfnT K mg "_law_right" st__law_right L.f__law_right L.k__law_right ["_law_well_here"]
  nt__law_logs_right__law_others_right : L.t__law_logs_right ≠ L.t__law_others_right
  nt__law_logs_right__law_right : L.t__law_logs_right ≠ L.t__law_right
  nt__law_others_right__law_right : L.t__law_others_right ≠ L.t__law_right
  ge_BreakerError : mg "BreakerError" = some (.ref L.e_BreakerError)
  xe_BreakerError : L2.XfC K L.e_BreakerError
  te_BreakerError : PySem.W.typeIn K (.ref L.e_BreakerError) = some (.type "type")
  ge_InvalidRow : mg "InvalidRow" = some (.ref L.e_InvalidRow)
  xe_InvalidRow : L2.XfC K L.e_InvalidRow
  te_InvalidRow : PySem.W.typeIn K (.ref L.e_InvalidRow) = some (.type "type")
  ge_InvalidTime : mg "InvalidTime" = some (.ref L.e_InvalidTime)
  xe_InvalidTime : L2.XfC K L.e_InvalidTime
  te_InvalidTime : PySem.W.typeIn K (.ref L.e_InvalidTime) = some (.type "type")
  ge_InvalidOutages : mg "InvalidOutages" = some (.ref L.e_InvalidOutages)
  xe_InvalidOutages : L2.XfC K L.e_InvalidOutages
  te_InvalidOutages : PySem.W.typeIn K (.ref L.e_InvalidOutages) = some (.type "type")
  ge_InvalidTrains : mg "InvalidTrains" = some (.ref L.e_InvalidTrains)
  xe_InvalidTrains : L2.XfC K L.e_InvalidTrains
  te_InvalidTrains : PySem.W.typeIn K (.ref L.e_InvalidTrains) = some (.type "type")
  ge_InvalidIndex : mg "InvalidIndex" = some (.ref L.e_InvalidIndex)
  xe_InvalidIndex : L2.XfC K L.e_InvalidIndex
  te_InvalidIndex : PySem.W.typeIn K (.ref L.e_InvalidIndex) = some (.type "type")
  ge_InvalidBound : mg "InvalidBound" = some (.ref L.e_InvalidBound)
  xe_InvalidBound : L2.XfC K L.e_InvalidBound
  te_InvalidBound : PySem.W.typeIn K (.ref L.e_InvalidBound) = some (.type "type")
  ge_InvalidLog : mg "InvalidLog" = some (.ref L.e_InvalidLog)
  xe_InvalidLog : L2.XfC K L.e_InvalidLog
  te_InvalidLog : PySem.W.typeIn K (.ref L.e_InvalidLog) = some (.type "type")
  ge_InvalidCall : mg "InvalidCall" = some (.ref L.e_InvalidCall)
  xe_InvalidCall : L2.XfC K L.e_InvalidCall
  te_InvalidCall : PySem.W.typeIn K (.ref L.e_InvalidCall) = some (.type "type")
  ge_InvalidText : mg "InvalidText" = some (.ref L.e_InvalidText)
  xe_InvalidText : L2.XfC K L.e_InvalidText
  te_InvalidText : PySem.W.typeIn K (.ref L.e_InvalidText) = some (.type "type")
  ge_LimitExceeded : mg "LimitExceeded" = some (.ref L.e_LimitExceeded)
  xe_LimitExceeded : L2.XfC K L.e_LimitExceeded
  te_LimitExceeded : PySem.W.typeIn K (.ref L.e_LimitExceeded) = some (.type "type")
  ae_InvalidRow : AeC K L.e_InvalidRow
  hi_InvalidRow : PySem.W.findIn K (.ref L.e_InvalidRow) "__init__" = some (some (.ref L.i_InvalidRow))
  ti_InvalidRow : PySem.W.typeIn K (.ref L.i_InvalidRow) = some (.type "function")
  in_InvalidRow : ∃ fd, Fun K "__init__" "InvalidRow.__init__" st_InvalidRow_init L.i_InvalidRow fd ∧ Binds K fd ["self", "part", "at"] []
  ne_InvalidRow_part : PySem.W.findIn K (.ref L.e_InvalidRow) "part" = some none
  ne_InvalidRow_at : PySem.W.findIn K (.ref L.e_InvalidRow) "at" = some none
  ne_InvalidRow_time : PySem.W.findIn K (.ref L.e_InvalidRow) "time" = some none
  ne_InvalidRow_index : PySem.W.findIn K (.ref L.e_InvalidRow) "index" = some none
  ne_InvalidRow_call : PySem.W.findIn K (.ref L.e_InvalidRow) "call" = some none
  ne_InvalidRow_line : PySem.W.findIn K (.ref L.e_InvalidRow) "line" = some none
  ne_InvalidRow_word : PySem.W.findIn K (.ref L.e_InvalidRow) "word" = some none
  ne_InvalidRow_limit : PySem.W.findIn K (.ref L.e_InvalidRow) "limit" = some none
  is_InvalidRow : IsC K L.e_InvalidRow
  se_InvalidRow_BreakerError : PySem.W.subIn K (.ref L.e_InvalidRow) (.ref L.e_BreakerError) = some true
  se_InvalidRow_InvalidRow : PySem.W.subIn K (.ref L.e_InvalidRow) (.ref L.e_InvalidRow) = some true
  se_InvalidRow_InvalidTime : PySem.W.subIn K (.ref L.e_InvalidRow) (.ref L.e_InvalidTime) = some false
  se_InvalidRow_InvalidOutages : PySem.W.subIn K (.ref L.e_InvalidRow) (.ref L.e_InvalidOutages) = some false
  se_InvalidRow_InvalidTrains : PySem.W.subIn K (.ref L.e_InvalidRow) (.ref L.e_InvalidTrains) = some false
  se_InvalidRow_InvalidIndex : PySem.W.subIn K (.ref L.e_InvalidRow) (.ref L.e_InvalidIndex) = some false
  se_InvalidRow_InvalidBound : PySem.W.subIn K (.ref L.e_InvalidRow) (.ref L.e_InvalidBound) = some false
  se_InvalidRow_InvalidLog : PySem.W.subIn K (.ref L.e_InvalidRow) (.ref L.e_InvalidLog) = some false
  se_InvalidRow_InvalidCall : PySem.W.subIn K (.ref L.e_InvalidRow) (.ref L.e_InvalidCall) = some false
  se_InvalidRow_InvalidText : PySem.W.subIn K (.ref L.e_InvalidRow) (.ref L.e_InvalidText) = some false
  se_InvalidRow_LimitExceeded : PySem.W.subIn K (.ref L.e_InvalidRow) (.ref L.e_LimitExceeded) = some false
  sa_InvalidRow : PySem.W.subIn K (.ref L.e_InvalidRow) (.type "ArithmeticError") = some true
  ae_InvalidTime : AeC K L.e_InvalidTime
  hi_InvalidTime : PySem.W.findIn K (.ref L.e_InvalidTime) "__init__" = some (some (.ref L.i_InvalidTime))
  ti_InvalidTime : PySem.W.typeIn K (.ref L.i_InvalidTime) = some (.type "function")
  in_InvalidTime : ∃ fd, Fun K "__init__" "InvalidTime.__init__" st_InvalidTime_init L.i_InvalidTime fd ∧ Binds K fd ["self", "time"] []
  ne_InvalidTime_part : PySem.W.findIn K (.ref L.e_InvalidTime) "part" = some none
  ne_InvalidTime_at : PySem.W.findIn K (.ref L.e_InvalidTime) "at" = some none
  ne_InvalidTime_time : PySem.W.findIn K (.ref L.e_InvalidTime) "time" = some none
  ne_InvalidTime_index : PySem.W.findIn K (.ref L.e_InvalidTime) "index" = some none
  ne_InvalidTime_call : PySem.W.findIn K (.ref L.e_InvalidTime) "call" = some none
  ne_InvalidTime_line : PySem.W.findIn K (.ref L.e_InvalidTime) "line" = some none
  ne_InvalidTime_word : PySem.W.findIn K (.ref L.e_InvalidTime) "word" = some none
  ne_InvalidTime_limit : PySem.W.findIn K (.ref L.e_InvalidTime) "limit" = some none
  is_InvalidTime : IsC K L.e_InvalidTime
  se_InvalidTime_BreakerError : PySem.W.subIn K (.ref L.e_InvalidTime) (.ref L.e_BreakerError) = some true
  se_InvalidTime_InvalidRow : PySem.W.subIn K (.ref L.e_InvalidTime) (.ref L.e_InvalidRow) = some false
  se_InvalidTime_InvalidTime : PySem.W.subIn K (.ref L.e_InvalidTime) (.ref L.e_InvalidTime) = some true
  se_InvalidTime_InvalidOutages : PySem.W.subIn K (.ref L.e_InvalidTime) (.ref L.e_InvalidOutages) = some false
  se_InvalidTime_InvalidTrains : PySem.W.subIn K (.ref L.e_InvalidTime) (.ref L.e_InvalidTrains) = some false
  se_InvalidTime_InvalidIndex : PySem.W.subIn K (.ref L.e_InvalidTime) (.ref L.e_InvalidIndex) = some false
  se_InvalidTime_InvalidBound : PySem.W.subIn K (.ref L.e_InvalidTime) (.ref L.e_InvalidBound) = some false
  se_InvalidTime_InvalidLog : PySem.W.subIn K (.ref L.e_InvalidTime) (.ref L.e_InvalidLog) = some false
  se_InvalidTime_InvalidCall : PySem.W.subIn K (.ref L.e_InvalidTime) (.ref L.e_InvalidCall) = some false
  se_InvalidTime_InvalidText : PySem.W.subIn K (.ref L.e_InvalidTime) (.ref L.e_InvalidText) = some false
  se_InvalidTime_LimitExceeded : PySem.W.subIn K (.ref L.e_InvalidTime) (.ref L.e_LimitExceeded) = some false
  sa_InvalidTime : PySem.W.subIn K (.ref L.e_InvalidTime) (.type "ArithmeticError") = some true
  ae_InvalidLog : AeC K L.e_InvalidLog
  hi_InvalidLog : PySem.W.findIn K (.ref L.e_InvalidLog) "__init__" = some (some (.ref L.i_InvalidLog))
  ti_InvalidLog : PySem.W.typeIn K (.ref L.i_InvalidLog) = some (.type "function")
  in_InvalidLog : ∃ fd, Fun K "__init__" "InvalidLog.__init__" st_InvalidLog_init L.i_InvalidLog fd ∧ Binds K fd ["self", "at"] []
  ne_InvalidLog_part : PySem.W.findIn K (.ref L.e_InvalidLog) "part" = some none
  ne_InvalidLog_at : PySem.W.findIn K (.ref L.e_InvalidLog) "at" = some none
  ne_InvalidLog_time : PySem.W.findIn K (.ref L.e_InvalidLog) "time" = some none
  ne_InvalidLog_index : PySem.W.findIn K (.ref L.e_InvalidLog) "index" = some none
  ne_InvalidLog_call : PySem.W.findIn K (.ref L.e_InvalidLog) "call" = some none
  ne_InvalidLog_line : PySem.W.findIn K (.ref L.e_InvalidLog) "line" = some none
  ne_InvalidLog_word : PySem.W.findIn K (.ref L.e_InvalidLog) "word" = some none
  ne_InvalidLog_limit : PySem.W.findIn K (.ref L.e_InvalidLog) "limit" = some none
  is_InvalidLog : IsC K L.e_InvalidLog
  se_InvalidLog_BreakerError : PySem.W.subIn K (.ref L.e_InvalidLog) (.ref L.e_BreakerError) = some true
  se_InvalidLog_InvalidRow : PySem.W.subIn K (.ref L.e_InvalidLog) (.ref L.e_InvalidRow) = some false
  se_InvalidLog_InvalidTime : PySem.W.subIn K (.ref L.e_InvalidLog) (.ref L.e_InvalidTime) = some false
  se_InvalidLog_InvalidOutages : PySem.W.subIn K (.ref L.e_InvalidLog) (.ref L.e_InvalidOutages) = some false
  se_InvalidLog_InvalidTrains : PySem.W.subIn K (.ref L.e_InvalidLog) (.ref L.e_InvalidTrains) = some false
  se_InvalidLog_InvalidIndex : PySem.W.subIn K (.ref L.e_InvalidLog) (.ref L.e_InvalidIndex) = some false
  se_InvalidLog_InvalidBound : PySem.W.subIn K (.ref L.e_InvalidLog) (.ref L.e_InvalidBound) = some false
  se_InvalidLog_InvalidLog : PySem.W.subIn K (.ref L.e_InvalidLog) (.ref L.e_InvalidLog) = some true
  se_InvalidLog_InvalidCall : PySem.W.subIn K (.ref L.e_InvalidLog) (.ref L.e_InvalidCall) = some false
  se_InvalidLog_InvalidText : PySem.W.subIn K (.ref L.e_InvalidLog) (.ref L.e_InvalidText) = some false
  se_InvalidLog_LimitExceeded : PySem.W.subIn K (.ref L.e_InvalidLog) (.ref L.e_LimitExceeded) = some false
  sa_InvalidLog : PySem.W.subIn K (.ref L.e_InvalidLog) (.type "ArithmeticError") = some true
/-- the code objects of the defs in which lambdas are made, and their tables -/
structure TX (base : Heap) (mg : Str → Option Value) (L : LA) : Prop where
  b__law_logs_right : LamX.TabB base mg L.k__law_logs_right L.t__law_logs_right
  b__law_others_right : LamX.TabB base mg L.k__law_others_right L.t__law_others_right
  b__law_right : LamX.TabB base mg L.k__law_right L.t__law_right
def LT (L : LA) : List (Addr × Str) := [(L.t__law_logs_right, (("_law_logs_right" : Str) ++ ".<locals>.") ++ "<lambda>"), (L.t__law_others_right, (("_law_others_right" : Str) ++ ".<locals>.") ++ "<lambda>"), (L.t__law_right, (("_law_right" : Str) ++ ".<locals>.") ++ "<lambda>")]

/-- a comprehension over zip of two lists -/
theorem lc_zip {K : PySem.W.Frag} {a b : Addr} {xs ys : List V} {g : TG} {tt : TT} {te : TE} {vs : List Nat} {σ : L2.St} {H1 : Hp} {D : Addr} {Qd : Hp → Prop} (hlen : ys.length ≤ xs.length) (Pv : Nat → Hp → Prop) (h0 : Pv 0 (upd H1 D (.lst []))) (hl : ∀ i H, Pv i H → SqL K H a xs ∧ SqL K H b ys)
    (hs : ∀ (i : Nat) (x y : V) (T : Addr) (H : Hp), xs[i]? = some x → ys[i]? = some y → Pv i H → H T = none → g (.ref T) (wipe σ vs) (upd H T (.tup [x, y])) fun σ2 H2 => wipe σ2 vs = wipe σ vs ∧ tt σ2 H2 fun b H3 =>
      if b = true then te σ2 H3 fun y H4 => ∃ acc, H4 D = some (.lst acc) ∧ acc.length < sizeLine ∧ Pv (i + 1) (upd H4 D (.lst (acc ++ [y]))) else Pv (i + 1) H3) (hd : ∀ H, Pv ys.length H → Qd H) :
    ∃ W : Nat → Nat → Hp → Prop, (∃ m, W 0 m (upd H1 D (.lst []))) ∧ ∀ i m H, W i m H → ((Itz K a b).stop i H ∧ Qd H) ∨ ((Itz K a b).go i H ∧ ∃ Nx : Hp → Prop, (∀ H', Nx H' → ∃ m', m' < m ∧ W (i + 1) m' H') ∧ ∀ x H', (Itz K a b).yld i H x H' → g x (wipe σ vs) H' fun σ2 H2 => wipe σ2 vs = wipe σ vs ∧ tt σ2 H2 fun b H3 =>
        if b = true then te σ2 H3 fun y H4 => ∃ acc, H4 D = some (.lst acc) ∧ acc.length < sizeLine ∧ Nx (upd H4 D (.lst (acc ++ [y]))) else Nx H3) := by
  refine ⟨fun i m H => m = ys.length - i ∧ i ≤ ys.length ∧ Pv i H, ⟨ys.length, by omega, Nat.zero_le _, h0⟩, ?_⟩
  rintro i m H ⟨rfl, hi, p⟩
  obtain ⟨qx, qy⟩ := hl i H p
  by_cases hlt : i < ys.length
  · have hx : xs[i]? = some xs[i] := List.getElem?_eq_getElem (by omega)
    have hy : ys[i]? = some ys[i] := List.getElem?_eq_getElem hlt
    refine .inr ⟨⟨xs, ys, _, _, qx, qy, hx, hy⟩, Pv (i + 1), fun H' p' => ⟨ys.length - (i + 1), by omega, rfl, hlt, p'⟩, fun v H' y => ?_⟩
    obtain ⟨T, x', y', rfl, hT, rfl, f1, f2⟩ := y
    exact hs i x' y' T H (f1 xs qx) (f2 ys qy) p hT
  · have e : i = ys.length := by omega
    subst e
    exact .inl ⟨⟨xs, ys, qx, qy, .inr (Nat.le_refl _)⟩, hd H p⟩
/-- an attribute inside a comprehension -/
theorem pe_fldK {X : Cx} {K : PySem.W.Frag} {e : Expr} {f : Str} {pos : Pos} {ta : TE} (hK : X.K = K) (he : PE X e ta) (hb : attributeBase e f X.env (eval e X.env) = eval e X.env) : PE X (.Attribute e f pos) (tFld K ta f) := by
  subst hK
  exact pe_fld he hb
theorem putF_len (f : Str) (v : V) (fs : List (Str × V)) {n : Nat} (h : fs.length ≤ n) : (putF f v fs).length ≤ n + 1 := Nat.le_trans (length_putF f v fs) (Nat.succ_le_succ h)
def spRup : Sp := fun vs H Q _ => ∃ v u : Int, vs = [.int v, .int u] ∧ 0 < u ∧ u.natAbs.log2 < 9000 ∧ CMulW (stepsUp v u) u ∧ Q (.int (stepsUp v u * u)) H
/-! ### the small defs -/
section
variable {P : Program} {w : World} {K : PySem.W.Frag} {mg : Str → Option Value} {base : Heap} {L : LA}
abbrev N_isinteger : List Str := ["value"]
theorem sc_isinteger : FnScope N_isinteger ["value"] (defScope st_is_integer) := ⟨rfl, rfl, rfl, by decide +kernel, rfl, by decide +kernel, by decide +kernel⟩
theorem fn_isinteger (T : LX K mg L) {fd : FuncData} (F : Fun K "is_integer" "is_integer" st_is_integer L.f_is_integer fd) : FnOk P w K mg base CX0 1 L.f_is_integer fd ["value"] (spIsInt) := by
  have nd := sc_isinteger.nd
  refine F.ok sc_isinteger (fun vs H Q E h => ?_) (fun cdv A outer S H vs Q E hr h => ?_)
  · obtain ⟨v, n, rfl, _⟩ := h
    rfl
  · obtain ⟨v, n, rfl, hv, k⟩ := h
    refine ⟨_, (pss_one (ps_ret (pe_and (pe_callB call_isi (by rfl) T.b_isinstance (by decide +kernel) (pa_cons (pv 0) (pa_cons (pe_bltn (by rfl) T.b_int (by decide +kernel : bootBuiltins "int" = some (.type "int")) (v := .ty "int") rfl) pa_nil))) (pe_one (pe_not (pe_callB call_isi (by rfl) T.b_isinstance (by decide +kernel) (pa_cons (pv 0) (pa_cons (pe_bltn (by rfl) T.b_bool (by decide +kernel : bootBuiltins "bool" = some (.type "bool")) (v := .ty "bool") rfl) pa_nil)))))))), ?_⟩
    refine ⟨_, rfl, v, .ty "int", _, _, _, rfl, .ty "int", hv.ty, hv.kit "int" _ (.inl ⟨rfl, rfl⟩), _, rfl, ?_⟩
    refine ite2 (fun c => ?_) (fun c => ?_)
    · refine ⟨_, rfl, v, .ty "bool", _, _, _, rfl, .ty "bool", hv.ty, hv.kit "bool" _ (.inr ⟨by decide, by decide, rfl⟩), _, rfl, ?_⟩
      cases hv <;> first | exact k | (exact absurd c (by decide))
    · cases hv <;> first | exact k | (exact absurd (by decide) c)
theorem ok_isinteger (T : LX K mg L) : Cal P w K mg base "is_integer" 1 L.f_is_integer ["value"] (spIsInt) := T.d_is_integer.cal fun fd F => fn_isinteger T F
abbrev N_isatleast : List Str := ["value", "least"]
theorem sc_isatleast : FnScope N_isatleast ["value", "least"] (defScope st_is_at_least) := ⟨rfl, rfl, rfl, by decide +kernel, rfl, by decide +kernel, by decide +kernel⟩
theorem fn_isatleast (T : LX K mg L) {fd : FuncData} (F : Fun K "is_at_least" "is_at_least" st_is_at_least L.f_is_at_least fd) : FnOk P w K mg base CX0 2 L.f_is_at_least fd ["value", "least"] (spAtL) := by
  have G_isinteger := ok_isinteger (P := P) (w := w) (base := base) T
  have nd := sc_isatleast.nd
  refine F.ok sc_isatleast (fun vs H Q E h => ?_) (fun cdv A outer S H vs Q E hr h => ?_)
  · obtain ⟨v, n, l, rfl, _⟩ := h
    rfl
  · obtain ⟨v, n, l, rfl, hv, k⟩ := h
    refine ⟨_, (pss_one (ps_ret (pe_and (pe_c G_isinteger (hr.mono (by decide)) rfl (pa_cons (pv 0) pa_nil)) (pe_one (pe_cmpR op_ge (pv 0) (pv 1) (nomark _)))))), ?_⟩
    refine ⟨_, rfl, v, n, rfl, hv, _, rfl, ?_⟩
    cases v with
    | int i => exact iteT ⟨_, rfl, _, rfl, _, _, rfl, rfl, k⟩
    | _ => exact iteF k
theorem ok_isatleast (T : LX K mg L) : Cal P w K mg base "is_at_least" 2 L.f_is_at_least ["value", "least"] (spAtL) := T.d_is_at_least.cal fun fd F => fn_isatleast T F
abbrev N_iswithin : List Str := ["value", "least", "most"]
theorem sc_iswithin : FnScope N_iswithin ["value", "least", "most"] (defScope st_is_within) := ⟨rfl, rfl, rfl, by decide +kernel, rfl, by decide +kernel, by decide +kernel⟩
theorem fn_iswithin (T : LX K mg L) {fd : FuncData} (F : Fun K "is_within" "is_within" st_is_within L.f_is_within fd) : FnOk P w K mg base CX0 2 L.f_is_within fd ["value", "least", "most"] (spWithin) := by
  have G_isinteger := ok_isinteger (P := P) (w := w) (base := base) T
  have nd := sc_iswithin.nd
  refine F.ok sc_iswithin (fun vs H Q E h => ?_) (fun cdv A outer S H vs Q E hr h => ?_)
  · obtain ⟨v, n, l, m, rfl, _⟩ := h
    rfl
  · obtain ⟨v, n, l, m, rfl, hv, k⟩ := h
    refine ⟨_, (pss_one (ps_ret (pe_and (pe_c G_isinteger (hr.mono (by decide)) rfl (pa_cons (pv 0) pa_nil)) (pe_one (pe_chain op_le op_le (pv 1) (pv 0) (pv 2)))))), ?_⟩
    refine ⟨_, rfl, v, n, rfl, hv, _, rfl, ?_⟩
    cases v with
    | int i =>
      refine iteT ⟨_, rfl, _, rfl, _, _, rfl, rfl, _, rfl, ?_⟩
      refine ite2 (fun c => ?_) (fun c => ?_)
      · refine ⟨_, rfl, _, _, rfl, rfl, ?_⟩
        have c' : decide (l ≤ i) = true := c
        have k' : Q (.bl (decide (l ≤ i) && decide (i ≤ m))) H := k
        rw [c', Bool.true_and] at k'
        exact k'
      · have c' : decide (l ≤ i) = false := by simpa using c
        have k' : Q (.bl (decide (l ≤ i) && decide (i ≤ m))) H := k
        rw [c', Bool.false_and] at k'
        exact k'
    | _ => exact iteF k
theorem ok_iswithin (T : LX K mg L) : Cal P w K mg base "is_within" 2 L.f_is_within ["value", "least", "most"] (spWithin) := T.d_is_within.cal fun fd F => fn_iswithin T F
end
/-! ### trains as data -/
abbrev Trn := Int × Int × Option Int
def OkTr (t : Trn) : Prop := 0 ≤ t.1 ∧ 1 ≤ t.2.1 ∧ ∀ c, t.2.2 = some c → 1 ≤ c
/-- all times of the first are before the second -/
def Lt (t u : Trn) : Prop := ∃ c, t.2.2 = some c ∧ t.1 + (c - 1) * t.2.1 < u.1
def Srt (ts : List Trn) : Prop := (∀ t ∈ ts, OkTr t) ∧ ts.Pairwise Lt
def minO (n : Int) : Option Int → Int
  | none => n
  | some c => if c < n then c else n
/-- how many times of a train are before x -/
def nbT (t : Trn) (x : Int) : Int := minO (stepsUp (x - t.1) t.2.1) t.2.2
def NB : List Trn → Int → Int
  | [], _ => 0
  | t :: ts, x => nbT t x + NB ts x
def At : List Trn → Int → Option Int
  | [], _ => none
  | t :: ts, i => match t.2.2 with
    | none => some (t.1 + i * t.2.1)
    | some c => if i < c then some (t.1 + i * t.2.1) else At ts (i - c)
def addO (c : Int) : Option Int → Option Int
  | none => none
  | some n => some (c + n)
def Tot : List Trn → Option Int
  | [] => some 0
  | t :: ts => match t.2.2 with
    | none => none
    | some c => addO c (Tot ts)
/-- d / s, rounded up -/
def cl (d s : Int) : Int := -(-d / s)
theorem stepsUp_cl (d s : Int) : stepsUp d s = if cl d s > 0 then cl d s else 0 := rfl
theorem cl_sub (d s c : Int) (hs : 0 < s) : cl (d - c * s) s = cl d s - c := by
  unfold cl
  have e : -(d - c * s) = -d + c * s := by omega
  rw [e, Int.add_mul_ediv_right _ _ (show s ≠ 0 by omega)]
  omega
theorem cl_le {d s n : Int} (hs : 0 < s) : cl d s ≤ n ↔ d ≤ n * s := by
  unfold cl
  have h : -n ≤ -d / s ↔ -n * s ≤ -d := Int.le_ediv_iff_mul_le hs
  rw [Int.neg_mul] at h
  omega
theorem cl_gt {d s n : Int} (hs : 0 < s) : n < cl d s ↔ n * s < d := by
  have h := cl_le (d := d) (s := s) (n := n) hs
  omega
def subO (k : Option Int) (c : Int) : Option Int := match k with
  | none => none
  | some n => some (n - c)
/-- a train is its first c times, and the others -/
theorem nbT_split {s p c : Int} {k : Option Int} (hp : 0 < p) (hc : 0 ≤ c) (hk : ∀ n, k = some n → c ≤ n) (x : Int) : nbT (s, p, k) x = nbT (s, p, some c) x + nbT (s + c * p, p, subO k c) x := by
  have e : x - (s + c * p) = x - s - c * p := by omega
  show minO (stepsUp (x - s) p) k = minO (stepsUp (x - s) p) (some c) + minO (stepsUp (x - (s + c * p)) p) (subO k c)
  rw [e, stepsUp_cl, stepsUp_cl, cl_sub _ _ _ hp]
  cases k with
  | none =>
    show (if cl (x - s) p > 0 then cl (x - s) p else 0) = (if c < (if cl (x - s) p > 0 then cl (x - s) p else 0) then c else (if cl (x - s) p > 0 then cl (x - s) p else 0)) + (if cl (x - s) p - c > 0 then cl (x - s) p - c else 0)
    split <;> split <;> split <;> omega
  | some n =>
    have := hk n rfl
    show (if n < (if cl (x - s) p > 0 then cl (x - s) p else 0) then n else (if cl (x - s) p > 0 then cl (x - s) p else 0)) = (if c < (if cl (x - s) p > 0 then cl (x - s) p else 0) then c else (if cl (x - s) p > 0 then cl (x - s) p else 0)) + (if n - c < (if cl (x - s) p - c > 0 then cl (x - s) p - c else 0) then n - c else (if cl (x - s) p - c > 0 then cl (x - s) p - c else 0))
    split <;> split <;> split <;> split <;> (try split) <;> omega
/-- the step of a single time is nothing -/
theorem nbT_one {s p q : Int} (hp : 0 < p) (hq : 0 < q) (x : Int) : nbT (s, p, some 1) x = nbT (s, q, some 1) x := by
  have one : ∀ p : Int, 0 < p → nbT (s, p, some 1) x = if s < x then 1 else 0 := fun p hp => by
    show (if (1 : Int) < (if cl (x - s) p > 0 then cl (x - s) p else 0) then (1 : Int) else (if cl (x - s) p > 0 then cl (x - s) p else 0)) = _
    have h0 : 0 < cl (x - s) p ↔ 0 * p < x - s := cl_gt hp
    rw [Int.zero_mul] at h0
    split <;> split <;> split <;> omega
  rw [one p hp, one q hq]
theorem NB_app : ∀ (ts us : List Trn) (x : Int), NB (ts ++ us) x = NB ts x + NB us x
  | [], us, x => by show NB us x = 0 + NB us x; omega
  | t :: ts, us, x => by
    show nbT t x + NB (ts ++ us) x = nbT t x + NB ts x + NB us x
    rw [NB_app ts us x]
    omega
theorem addO_addO (a b : Int) (k : Option Int) : addO a (addO b k) = addO (a + b) k := by
  cases k with
  | none => rfl
  | some n => show some (a + (b + n)) = some (a + b + n); rw [Int.add_assoc]
theorem nbT_nn {t : Trn} (h : OkTr t) (x : Int) : 0 ≤ nbT t x := by
  obtain ⟨s, p, k⟩ := t
  show 0 ≤ minO (stepsUp (x - s) p) k
  rw [stepsUp_cl]
  cases k with
  | none => show 0 ≤ if cl (x - s) p > 0 then cl (x - s) p else 0; split <;> omega
  | some c =>
    have := h.2.2 c rfl
    show 0 ≤ if c < (if cl (x - s) p > 0 then cl (x - s) p else 0) then c else (if cl (x - s) p > 0 then cl (x - s) p else 0)
    split <;> (try split) <;> omega
theorem nbT_zero {t : Trn} (h : OkTr t) {x : Int} (hx : x ≤ t.1) : nbT t x = 0 := by
  obtain ⟨s, p, k⟩ := t
  have hp : 0 < p := by
    have h2 : 1 ≤ p := h.2.1
    omega
  have h1 : cl (x - s) p ≤ 0 := (cl_le hp).mpr (by
    have h2 : x ≤ s := hx
    omega)
  show minO (stepsUp (x - s) p) k = 0
  rw [stepsUp_cl, if_neg (by omega)]
  cases k with
  | none => rfl
  | some c =>
    have := h.2.2 c rfl
    show (if c < 0 then c else 0) = 0
    rw [if_neg (by omega)]
theorem nbT_all {t : Trn} (h : OkTr t) {x c : Int} (hc : t.2.2 = some c) (hx : t.1 + (c - 1) * t.2.1 < x) : nbT t x = c := by
  obtain ⟨s, p, k⟩ := t
  have hp : 0 < p := by
    have h2 : 1 ≤ p := h.2.1
    omega
  have h0 : k = some c := hc
  subst h0
  have h1 : c - 1 < cl (x - s) p := (cl_gt hp).mpr (by
    have h2 : s + (c - 1) * p < x := hx
    omega)
  have := h.2.2 c rfl
  show (if c < stepsUp (x - s) p then c else stepsUp (x - s) p) = c
  rw [stepsUp_cl]
  split <;> (try split at *) <;> omega
theorem NB_nn {ts : List Trn} (h : ∀ t ∈ ts, OkTr t) (x : Int) : 0 ≤ NB ts x := by
  induction ts with
  | nil => exact Int.le_refl _
  | cons t ts ih =>
    have h1 := nbT_nn (h t (List.mem_cons_self ..)) x
    have h2 := ih fun u hu => h u (List.mem_cons_of_mem _ hu)
    show 0 ≤ nbT t x + NB ts x
    omega
theorem NB_zero {ts : List Trn} (h : ∀ t ∈ ts, OkTr t) {x : Int} (hx : ∀ t ∈ ts, x ≤ t.1) : NB ts x = 0 := by
  induction ts with
  | nil => rfl
  | cons t ts ih =>
    show nbT t x + NB ts x = 0
    rw [nbT_zero (h t (List.mem_cons_self ..)) (hx t (List.mem_cons_self ..)), ih (fun u hu => h u (List.mem_cons_of_mem _ hu)) fun u hu => hx u (List.mem_cons_of_mem _ hu)]
    rfl
theorem Srt.tail {t : Trn} {ts : List Trn} (h : Srt (t :: ts)) : Srt ts := ⟨fun u hu => h.1 u (List.mem_cons_of_mem _ hu), (List.pairwise_cons.mp h.2).2⟩
theorem Srt.head {t : Trn} {ts : List Trn} (h : Srt (t :: ts)) : OkTr t := h.1 t (List.mem_cons_self ..)
theorem Srt.lt {t : Trn} {ts : List Trn} (h : Srt (t :: ts)) : ∀ u ∈ ts, Lt t u := (List.pairwise_cons.mp h.2).1
theorem lt_start {t u : Trn} (h : OkTr t) (l : Lt t u) : t.1 < u.1 := by
  obtain ⟨c, e, q⟩ := l
  have hc := h.2.2 c e
  have : 0 ≤ (c - 1) * t.2.1 := Int.mul_nonneg (by omega) (by have := h.2.1; omega)
  omega
/-! what is before x, and which time is the i-th -/
theorem nbT_le {t : Trn} {x c : Int} (e : t.2.2 = some c) : nbT t x ≤ c := by
  unfold nbT
  rw [e]
  show (if c < stepsUp (x - t.1) t.2.1 then c else stepsUp (x - t.1) t.2.1) ≤ c
  split <;> omega
/-- the times before x are those with an index below nbT -/
theorem nbT_lt {t : Trn} (h : OkTr t) {x i : Int} (i0 : 0 ≤ i) (hi : ∀ c, t.2.2 = some c → i < c) : i < nbT t x ↔ t.1 + i * t.2.1 < x := by
  obtain ⟨s, p, k⟩ := t
  have hp : 0 < p := by
    have h2 : 1 ≤ p := h.2.1
    omega
  have h1 : i < cl (x - s) p ↔ i * p < x - s := cl_gt hp
  have e : (s + i * p < x) ↔ i * p < x - s := by omega
  show i < minO (stepsUp (x - s) p) k ↔ s + i * p < x
  rw [stepsUp_cl, e, ← h1]
  cases k with
  | none =>
    show i < (if cl (x - s) p > 0 then cl (x - s) p else 0) ↔ _
    split <;> omega
  | some c =>
    have := hi c rfl
    show i < (if c < (if cl (x - s) p > 0 then cl (x - s) p else 0) then c else (if cl (x - s) p > 0 then cl (x - s) p else 0)) ↔ _
    split <;> (try split) <;> (try split at *) <;> omega
theorem At_lt : ∀ {ts : List Trn}, Srt ts → ∀ {i y : Int}, 0 ≤ i → At ts i = some y → ∀ x, i < NB ts x ↔ y < x
  | [], _, i, y, _, e, _ => by cases e
  | t :: ts, h, i, y, i0, e, x => by
    have ht := h.head
    have hs := h.tail
    have nn := NB_nn hs.1 x
    cases hk : t.2.2 with
    | none =>
      have e' : At (t :: ts) i = some (t.1 + i * t.2.1) := by
        show (match t.2.2 with | none => some (t.1 + i * t.2.1) | some c => if i < c then some (t.1 + i * t.2.1) else At ts (i - c)) = _
        rw [hk]
      rw [e'] at e
      have ey := Option.some.inj e
      subst ey
      have nt : ts = [] := by
        cases ts with
        | nil => rfl
        | cons u us =>
          obtain ⟨c, hc, _⟩ := h.lt u (List.mem_cons_self ..)
          rw [hk] at hc
          cases hc
      subst nt
      have := nbT_lt ht (x := x) i0 (fun c hc => by rw [hk] at hc; cases hc)
      show i < nbT t x + 0 ↔ _
      rw [Int.add_zero]
      exact this
    | some c =>
      have e' : At (t :: ts) i = if i < c then some (t.1 + i * t.2.1) else At ts (i - c) := by
        show (match t.2.2 with | none => some (t.1 + i * t.2.1) | some c => if i < c then some (t.1 + i * t.2.1) else At ts (i - c)) = _
        rw [hk]
      rw [e'] at e
      show i < nbT t x + NB ts x ↔ y < x
      by_cases hi : i < c
      · rw [if_pos hi] at e
        have ey := Option.some.inj e
        have h1 := nbT_lt ht (x := x) i0 (fun c' hc => by rw [hk] at hc; cases hc; exact hi)
        by_cases hl : t.1 + (c - 1) * t.2.1 < x
        · have h2 := nbT_all ht hk hl
          omega
        · have h3 : NB ts x = 0 := NB_zero hs.1 fun u hu => by
            obtain ⟨c', hc, q⟩ := h.lt u hu
            rw [hk] at hc
            cases hc
            omega
          omega
      · rw [if_neg hi] at e
        have ih := At_lt hs (i := i - c) (by omega) e x
        have h2 := nbT_le (x := x) hk
        by_cases hl : t.1 + (c - 1) * t.2.1 < x
        · have h3 := nbT_all ht hk hl
          omega
        · have h3 : NB ts x = 0 := NB_zero hs.1 fun u hu => by
            obtain ⟨c', hc, q⟩ := h.lt u hu
            rw [hk] at hc
            cases hc
            omega
          omega
theorem tot_nn : ∀ {ts : List Trn}, (∀ t ∈ ts, OkTr t) → ∀ n, Tot ts = some n → 0 ≤ n
  | [], _, n, e => by cases e; exact Int.le_refl _
  | t :: ts, h, n, e => by
    cases hk : t.2.2 with
    | none =>
      have e2 : Tot (t :: ts) = none := by
        show (match t.2.2 with | none => none | some c => addO c (Tot ts)) = _
        rw [hk]
      rw [e2] at e
      cases e
    | some c =>
      have e2 : Tot (t :: ts) = addO c (Tot ts) := by
        show (match t.2.2 with | none => none | some c => addO c (Tot ts)) = _
        rw [hk]
      rw [e2] at e
      cases ht : Tot ts with
      | none => rw [ht] at e; cases e
      | some m =>
        rw [ht] at e
        have z' : c + m = n := Option.some.inj e
        have := tot_nn (fun u hu => h u (List.mem_cons_of_mem _ hu)) m ht
        have := (h t (List.mem_cons_self ..)).2.2 c hk
        omega
theorem At_none : ∀ {ts : List Trn}, (∀ t ∈ ts, OkTr t) → ∀ {i : Int}, 0 ≤ i → (At ts i = none ↔ ∃ n, Tot ts = some n ∧ n ≤ i)
  | [], _, i, i0 => ⟨fun _ => ⟨0, rfl, i0⟩, fun _ => rfl⟩
  | t :: ts, h, i, i0 => by
    cases hk : t.2.2 with
    | none =>
      have e' : At (t :: ts) i = some (t.1 + i * t.2.1) := by
        show (match t.2.2 with | none => some (t.1 + i * t.2.1) | some c => if i < c then some (t.1 + i * t.2.1) else At ts (i - c)) = _
        rw [hk]
      have e2 : Tot (t :: ts) = none := by
        show (match t.2.2 with | none => none | some c => addO c (Tot ts)) = _
        rw [hk]
      rw [e', e2]
      exact ⟨fun z => (by cases z), fun ⟨n, z, _⟩ => (by cases z)⟩
    | some c =>
      have e' : At (t :: ts) i = if i < c then some (t.1 + i * t.2.1) else At ts (i - c) := by
        show (match t.2.2 with | none => some (t.1 + i * t.2.1) | some c => if i < c then some (t.1 + i * t.2.1) else At ts (i - c)) = _
        rw [hk]
      have e2 : Tot (t :: ts) = addO c (Tot ts) := by
        show (match t.2.2 with | none => none | some c => addO c (Tot ts)) = _
        rw [hk]
      have tn : ∀ n, Tot ts = some n → 0 ≤ n := tot_nn fun u hu => h u (List.mem_cons_of_mem _ hu)
      rw [e', e2]
      by_cases hi : i < c
      · rw [if_pos hi]
        refine ⟨fun z => (by cases z), fun ⟨n, z, hn⟩ => ?_⟩
        cases ht : Tot ts with
        | none => rw [ht] at z; cases z
        | some m =>
          rw [ht] at z
          have := tn m ht
          have z' : c + m = n := Option.some.inj z
          omega
      · rw [if_neg hi]
        have ih := At_none (ts := ts) (fun u hu => h u (List.mem_cons_of_mem _ hu)) (i := i - c) (by omega)
        rw [ih]
        constructor
        · rintro ⟨n, e, hn⟩
          exact ⟨c + n, by rw [e]; rfl, by omega⟩
        · rintro ⟨n, e, hn⟩
          cases ht : Tot ts with
          | none => rw [ht] at e; cases e
          | some m =>
            rw [ht] at e
            have z' : c + m = n := Option.some.inj e
            exact ⟨m, rfl, by omega⟩
theorem NB_tot : ∀ {ts : List Trn}, (∀ t ∈ ts, OkTr t) → ∀ {n : Int}, Tot ts = some n → ∀ x, NB ts x ≤ n
  | [], _, n, e, x => by cases e; exact Int.le_refl _
  | t :: ts, h, n, e, x => by
    cases hk : t.2.2 with
    | none =>
      have e2 : Tot (t :: ts) = none := by
        show (match t.2.2 with | none => none | some c => addO c (Tot ts)) = _
        rw [hk]
      rw [e2] at e
      cases e
    | some c =>
      have e2 : Tot (t :: ts) = addO c (Tot ts) := by
        show (match t.2.2 with | none => none | some c => addO c (Tot ts)) = _
        rw [hk]
      rw [e2] at e
      cases ht : Tot ts with
      | none => rw [ht] at e; cases e
      | some m =>
        rw [ht] at e
        have z' : c + m = n := Option.some.inj e
        have h1 := nbT_le (x := x) hk
        have h2 := NB_tot (fun u hu => h u (List.mem_cons_of_mem _ hu)) ht x
        show nbT t x + NB ts x ≤ n
        omega
theorem nbT_step {t : Trn} (h : OkTr t) (x : Int) : nbT t (x + 1) ≤ nbT t x + 1 := by
  obtain ⟨s, p, k⟩ := t
  have hp : 1 ≤ p := h.2.1
  have h1 : cl (x + 1 - s) p ≤ cl (x - s) p + 1 := by
    refine (cl_le (by omega)).mpr ?_
    have h2 : x - s ≤ cl (x - s) p * p := (cl_le (by omega)).mp (Int.le_refl _)
    rw [Int.add_mul, Int.one_mul]
    omega
  show minO (stepsUp (x + 1 - s) p) k ≤ minO (stepsUp (x - s) p) k + 1
  rw [stepsUp_cl, stepsUp_cl]
  cases k with
  | none =>
    show (if cl (x + 1 - s) p > 0 then cl (x + 1 - s) p else 0) ≤ (if cl (x - s) p > 0 then cl (x - s) p else 0) + 1
    split <;> split <;> omega
  | some c =>
    show (if c < (if cl (x + 1 - s) p > 0 then cl (x + 1 - s) p else 0) then c else (if cl (x + 1 - s) p > 0 then cl (x + 1 - s) p else 0)) ≤ (if c < (if cl (x - s) p > 0 then cl (x - s) p else 0) then c else (if cl (x - s) p > 0 then cl (x - s) p else 0)) + 1
    repeat' split
    all_goals omega
theorem NB_step : ∀ {ts : List Trn}, Srt ts → ∀ x, NB ts (x + 1) ≤ NB ts x + 1
  | [], _, x => by show (0 : Int) ≤ 0 + 1; omega
  | t :: ts, h, x => by
    have ht := h.head
    have hs := h.tail
    have st := nbT_step ht x
    show nbT t (x + 1) + NB ts (x + 1) ≤ nbT t x + NB ts x + 1
    cases hk : t.2.2 with
    | none =>
      have nt : ts = [] := by
        cases ts with
        | nil => rfl
        | cons u us =>
          obtain ⟨c, hc, _⟩ := h.lt u (List.mem_cons_self ..)
          rw [hk] at hc
          cases hc
      subst nt
      show nbT t (x + 1) + 0 ≤ nbT t x + 0 + 1
      omega
    | some c =>
      by_cases hl : t.1 + (c - 1) * t.2.1 < x
      · have h1 := nbT_all ht hk hl
        have h2 := nbT_all ht hk (show t.1 + (c - 1) * t.2.1 < x + 1 by omega)
        have h3 := NB_step hs x
        omega
      · have z : ∀ y, y ≤ x + 1 → NB ts y = 0 := fun y hy => NB_zero hs.1 fun u hu => by
          obtain ⟨c', hc, q⟩ := h.lt u hu
          rw [hk] at hc
          cases hc
          omega
        have h1 := z x (by omega)
        have h2 := z (x + 1) (Int.le_refl _)
        omega
/-- the i-th time is told by what is before x -/
theorem At_iff {ts : List Trn} (h : Srt ts) {i y : Int} (i0 : 0 ≤ i) : At ts i = some y ↔ NB ts y = i ∧ NB ts (y + 1) = i + 1 := by
  have one : ∀ {z}, At ts i = some z → NB ts z = i ∧ NB ts (z + 1) = i + 1 := fun {z} e => by
    have h1 := At_lt h i0 e z
    have h2 := At_lt h i0 e (z + 1)
    have h3 := NB_step h z
    omega
  refine ⟨one, fun ⟨e1, e2⟩ => ?_⟩
  cases q : At ts i with
  | none =>
    obtain ⟨n, e3, e4⟩ := (At_none h.1 i0).mp q
    have := NB_tot h.1 e3 (y + 1)
    omega
  | some w =>
    have h3 := At_lt h i0 q y
    have h4 := At_lt h i0 q (y + 1)
    congr 1
    omega
/-- trains with the same counts have the same times -/
theorem At_same {ts us : List Trn} (h : Srt ts) (h' : Srt us) (e : ∀ x, NB ts x = NB us x) {i : Int} (i0 : 0 ≤ i) : At ts i = At us i := by
  cases q : At ts i with
  | some y =>
    obtain ⟨e1, e2⟩ := (At_iff h i0).mp q
    exact ((At_iff h' i0).mpr ⟨by rw [← e]; exact e1, by rw [← e]; exact e2⟩).symm
  | none =>
    cases q2 : At us i with
    | none => rfl
    | some y =>
      obtain ⟨e1, e2⟩ := (At_iff h' i0).mp q2
      rw [(At_iff h i0).mpr ⟨by rw [e]; exact e1, by rw [e]; exact e2⟩] at q
      cases q
/-! ### rows in the heap -/
/-! ### breakers and rows -/
abbrev Tri := Int × Int × Int
def TriV (t : Tri) : List V := [.int t.1, .int t.2.1, .int t.2.2]
def BrAt (H : Hp) (x : V) (t : Tri) : Prop := ∃ a, x = .ref a ∧ H a = some (.tup (TriV t))
def OkT (t : Tri) : Prop := 1 ≤ t.1 ∧ t.1 ≤ 1000000000000 ∧ 1 ≤ t.2.1 ∧ t.2.1 ≤ 1000000000000000000000000000000 ∧ 1 ≤ t.2.2 ∧ t.2.2 ≤ 1000000000000
abbrev Brs (H : Hp) (xs : List V) (ts : List Tri) : Prop := Paired (BrAt H) xs ts
theorem BrAt.nl {H H' : Hp} (k : NL H H') {x : V} {t : Tri} (h : BrAt H x t) : BrAt H' x t := by
  obtain ⟨a, e, h⟩ := h
  exact ⟨a, e, k _ _ h fun _ z => nomatch z⟩
theorem Brs.nl {H H' : Hp} (k : NL H H') {xs : List V} {ts : List Tri} (h : Brs H xs ts) : Brs H' xs ts := L2.Paired.mapP h fun _ _ z => z.nl k
theorem Brs.len {H : Hp} : ∀ {xs : List V} {ts : List Tri}, Brs H xs ts → xs.length = ts.length
  | _, _, .nil => rfl
  | _, _, .cons _ t => congrArg Nat.succ (Brs.len t)
theorem Brs.get {H : Hp} : ∀ {xs : List V} {ts : List Tri} {i : Nat} {x : V}, Brs H xs ts → xs[i]? = some x → ∃ t, ts[i]? = some t ∧ BrAt H x t
  | _, _, _, _, .nil, e => by simp at e
  | _, _, 0, _, .cons r _, e => by simp at e; subst e; exact ⟨_, rfl, r⟩
  | _, _, i + 1, x, .cons _ t, e => by
    obtain ⟨u, h1, h2⟩ := Brs.get (i := i) (x := x) t (by simpa using e)
    exact ⟨u, by simpa using h1, h2⟩
theorem Brs.app {H : Hp} : ∀ {xs ys : List V} {ts us : List Tri}, Brs H xs ts → Brs H ys us → Brs H (xs ++ ys) (ts ++ us)
  | _, _, _, _, .nil, s => s
  | _, _, _, _, .cons r t, s => .cons r (Brs.app t s)
theorem Brs.rev {H : Hp} : ∀ {xs : List V} {ts : List Tri}, Brs H xs ts → Brs H xs.reverse ts.reverse
  | _, _, .nil => .nil
  | _, _, .cons r t => by
    rw [List.reverse_cons, List.reverse_cons]
    exact Brs.app (Brs.rev t) (.cons r .nil)
theorem Brs.take {H : Hp} : ∀ {xs : List V} {ts : List Tri} (n : Nat), Brs H xs ts → Brs H (xs.take n) (ts.take n)
  | _, _, 0, _ => .nil
  | _, _, _ + 1, .nil => .nil
  | _, _, n + 1, .cons r t => .cons r (Brs.take n t)
theorem Brs.drop {H : Hp} : ∀ {xs : List V} {ts : List Tri} (n : Nat), Brs H xs ts → Brs H (xs.drop n) (ts.drop n)
  | _, _, 0, r => r
  | _, _, _ + 1, .nil => .nil
  | _, _, n + 1, .cons _ t => Brs.drop n t
/-! the attributes of a row, as __init__ stores them -/
theorem k1 : ¬ (("breakers" : Str) = "step") := by decide +kernel
theorem k2 : ¬ (("breakers" : Str) = "phase") := by decide +kernel
theorem k3 : ¬ (("step" : Str) = "phase") := by decide +kernel
def rowF (T : Addr) (st ph : Int) : List (Str × V) := putF "phase" (.int ph) (putF "step" (.int st) (putF "breakers" (.ref T) []))
theorem rowF_b (T : Addr) (st ph : Int) : (rowF T st ph).lookup ("breakers" : Str) = some (.ref T) := by
  unfold rowF
  rw [lookup_putF, if_neg k2, lookup_putF, if_neg k1, lookup_putF, if_pos rfl]
theorem rowF_s (T : Addr) (st ph : Int) : (rowF T st ph).lookup ("step" : Str) = some (.int st) := by
  unfold rowF
  rw [lookup_putF, if_neg k3, lookup_putF, if_pos rfl]
theorem rowF_p (T : Addr) (st ph : Int) : (rowF T st ph).lookup ("phase" : Str) = some (.int ph) := by
  unfold rowF
  rw [lookup_putF, if_pos rfl]
theorem rowF_no (T : Addr) (st ph : Int) {m : Str} (h1 : ¬ m = "phase") (h2 : ¬ m = "step") (h3 : ¬ m = "breakers") : (rowF T st ph).lookup m = none := by
  unfold rowF
  rw [lookup_putF, if_neg h1, lookup_putF, if_neg h2, lookup_putF, if_neg h3]
  all_goals rfl
/-- a Row stands at p -/
structure RowAt (C : Addr) (H : Hp) (p T : Addr) (xs : List V) (ts : List Tri) (st ph : Int) : Prop where
  ob : ∃ dx, H p = some (.ins C dx (rowF T st ph))
  tp : H T = some (.tup xs)
  br : Brs H xs ts
  ok : ∀ t ∈ ts, OkT t
  ln : ts.length ≤ 12
  s0 : 1 ≤ st
  s1 : st ≤ 1000000000000000000000000000000
  p0 : 0 ≤ ph
  p1 : ph ≤ 1000000000000000000000000000000
theorem RowAt.nl {C : Addr} {H H' : Hp} {p T : Addr} {xs : List V} {ts : List Tri} {st ph : Int} (R : RowAt C H p T xs ts st ph) (k : NL H H') : RowAt C H' p T xs ts st ph := by
  obtain ⟨dx, h⟩ := R.ob
  exact ⟨⟨dx, k _ _ h fun _ z => nomatch z⟩, k _ _ R.tp fun _ z => (nomatch z), R.br.nl k, R.ok, R.ln, R.s0, R.s1, R.p0, R.p1⟩
/-! ### promises -/
def spIsBr : Sp := fun vs H Q _ => ∃ x t, vs = [x] ∧ BrAt H x t ∧ OkT t ∧ Q (.bl true) H
def spRChk : Sp := fun vs H Q _ => ∃ a xs ts pt, vs = [.ref a, .str pt] ∧ H a = some (.lst xs) ∧ Brs H xs ts ∧ (∀ t ∈ ts, OkT t) ∧ ts.length ≤ 12 ∧ ∀ H', Same H H' → Q .non H'
def spRStep : Sp := fun vs H Q _ => ∃ st : Int, vs = [.int st] ∧ 1 ≤ st ∧ st ≤ 1000000000000000000000000000000 ∧ Q .non H
def spRInit (C : Addr) : Sp := fun vs H Q _ => ∃ p a st ph xs ts dx, vs = [.ref p, .ref a, .int st, .int ph] ∧ H p = some (.ins C dx []) ∧ H a = some (.lst xs) ∧ Brs H xs ts ∧ (∀ t ∈ ts, OkT t) ∧ ts.length ≤ 12 ∧
  (1 ≤ st ∧ st ≤ 1000000000000000000000000000000 ∧ 0 ≤ ph ∧ ph ≤ 1000000000000000000000000000000) ∧ ∀ T H', RowAt C H' p T xs ts st ph → Kp p H H' → Q .non H'
def spRBl (C : Addr) : Sp := fun vs H Q _ => ∃ p T xs ts st ph, vs = [.ref p] ∧ RowAt C H p T xs ts st ph ∧ ∀ l H', H l = none → H' = upd H l (.lst xs) → Q (.ref l) H'
def spRSt (C : Addr) : Sp := fun vs H Q _ => ∃ p T xs ts st ph, vs = [.ref p] ∧ RowAt C H p T xs ts st ph ∧ Q (.int st) H
def spRPh (C : Addr) : Sp := fun vs H Q _ => ∃ p T xs ts st ph, vs = [.ref p] ∧ RowAt C H p T xs ts st ph ∧ Q (.int ph) H
def spRLen (C : Addr) : Sp := fun vs H Q _ => ∃ p T xs ts st ph, vs = [.ref p] ∧ RowAt C H p T xs ts st ph ∧ Q (.int xs.length) H
def spRGet (C : Addr) : Sp := fun vs H Q _ => ∃ p T xs ts st ph i x, vs = [.ref p, .int i] ∧ RowAt C H p T xs ts st ph ∧ 0 ≤ i ∧ atI xs i = some x ∧ i < xs.length ∧ Q x H
def spRCon (C : Addr) : Sp := fun vs H Q _ => ∃ p T xs ts st ph x n, vs = [.ref p, x] ∧ RowAt C H p T xs ts st ph ∧ Kd H x n ∧ Q (.bl (isI x && (decide (ph ≤ toI x) && decide ((toI x - ph) % st = 0)))) H
def spRRt (C : Addr) : Sp := fun vs H Q _ => ∃ p T xs ts st ph i, vs = [.ref p, .int i] ∧ RowAt C H p T xs ts st ph ∧ 0 ≤ i ∧ i ≤ BB ∧ Q (.int (ph + i * st)) H
def spRFr (C : Addr) : Sp := fun vs H Q _ => ∃ p T xs ts st ph i, vs = [.ref p, .int i] ∧ RowAt C H p T xs ts st ph ∧ 0 ≤ i ∧ Q (.int (stepsUp (i - ph) st)) H
theorem row_made {C : Addr} {H : Hp} {Q : Addr → Hp → Prop} {a : Addr} {st ph : Int} {xs : List V} {ts : List Tri} (ha : H a = some (.lst xs)) (hb : Brs H xs ts) (ho : ∀ t ∈ ts, OkT t) (hl : ts.length ≤ 12)
    (bd : 1 ≤ st ∧ st ≤ 1000000000000000000000000000000 ∧ 0 ≤ ph ∧ ph ≤ 1000000000000000000000000000000) (k : ∀ p T H', RowAt C H' p T xs ts st ph → Same H H' → H p = none → Q p H') :
    ∀ x dx, H x = none → H dx = none → dx ≠ x → spRInit C [.ref x, .ref a, .int st, .int ph] (upd (upd H dx (.own x)) x (.ins C dx [])) (fun v H3 => v = .non ∧ Q x H3) E0 := by
  intro x dx hx hd hne
  have s0 : Same H (upd (upd H dx (.own x)) x (.ins C dx [])) := fun b o e => by
    rw [upd_ne (ne_of_none e hx), upd_ne (ne_of_none e hd)]
    exact e
  refine ⟨x, a, st, ph, xs, ts, dx, rfl, upd_same, s0 _ _ ha, hb.nl (NL.of s0), ho, hl, bd, fun T H' R kp => ⟨rfl, k x T H' R (fun b o e => kp b o (ne_of_none e hx) (s0 b o e)) hx⟩⟩
abbrev RDat := List Tri × Int × Int
/-- what == is asked of -/
inductive EqOf (C : Addr) (H : Hp) (d : RDat) : V → Bool → Prop where
  | row {q U : Addr} {ys : List V} {us : List Tri} {st ph : Int} (R : RowAt C H q U ys us st ph) : EqOf C H d (.ref q) (decide (d = (us, st, ph)))
  | non : EqOf C H d .non false
  | lst {a : Addr} {xs : List V} (e : H a = some (.lst xs)) : EqOf C H d (.ref a) false
  | tup {a : Addr} {xs : List V} (e : H a = some (.tup xs)) : EqOf C H d (.ref a) false
theorem EqOf.nl {C : Addr} {H H' : Hp} {d : RDat} {v : V} {b : Bool} (h : EqOf C H d v b) (k : Same H H') : EqOf C H' d v b := by
  cases h with
  | row R => exact .row (R.nl (NL.of k))
  | non => exact .non
  | lst e => exact .lst (k _ _ e)
  | tup e => exact .tup (k _ _ e)
/-- breakers as data -/
def triD (t : Tri) : PyData := .tuple [.int t.1, .int t.2.1, .int t.2.2]
theorem Brs.dp {K : PySem.W.Frag} {H : Hp} : ∀ {xs : List V} {ts : List Tri}, Brs H xs ts → DpAll K H xs (ts.map triD)
  | _, _, .nil => .nil
  | _, _, .cons ⟨a, e, h⟩ t => by
    subst e
    exact .cons (.tup (SqT.of h) (.cons (.int _) (.cons (.int _) (.cons (.int _) .nil)))) (Brs.dp t)
theorem triD_eq (t u : Tri) : PyData.eqv (triD t) (triD u) = decide (t = u) := by
  obtain ⟨a, b, c⟩ := t
  obtain ⟨a', b', c'⟩ := u
  simp only [triD, PyData.eqv, PyData.eqvAll, Bool.and_true]
  rw [Bool.eq_iff_iff]
  simp [Prod.ext_iff]
theorem triDs_eq : ∀ ts us : List Tri, PyData.eqvAll (ts.map triD) (us.map triD) = decide (ts = us)
  | [], [] => by simp [PyData.eqvAll]
  | [], _ :: _ => by simp [PyData.eqvAll]
  | _ :: _, [] => by simp [PyData.eqvAll]
  | t :: ts, u :: us => by
    rw [List.map_cons, List.map_cons, PyData.eqvAll, triD_eq, triDs_eq ts us, Bool.eq_iff_iff]
    simp
theorem canAll : ∀ ts : List Tri, PyData.canLayAll0 (ts.map triD) = true
  | [] => by simp [PyData.canLayAll0]
  | t :: ts => by
    rw [List.map_cons, PyData.canLayAll0, canAll ts]
    simp [triD, PyData.canLay0, PyData.canLayAll0]
theorem depAll : ∀ ts : List Tri, PyData.depthAll (ts.map triD) ≤ 10
  | [] => by simp [PyData.depthAll]
  | t :: ts => by
    have := depAll ts
    rw [List.map_cons, PyData.depthAll]
    have h2 : (triD t).depth ≤ 10 := by simp [triD, PyData.depth, PyData.depthAll]
    omega
theorem shT (ts : List Tri) : SeqAt.shaped (.tuple (ts.map triD)) = true := by
  refine Bool.and_eq_true_iff.mpr ⟨?_, decide_eq_true ?_⟩
  · rw [PyData.canLay0]
    exact canAll ts
  · have := depAll ts
    rw [PyData.depth]
    omega

theorem wide200 {i j : Int} (h1 : i.natAbs < 2 ^ 200) (h2 : j.natAbs < 2 ^ 200) : CMulW i j := wide_mul h1 h2 (by decide) (by decide) (by decide)
theorem lt200 {i : Int} (h0 : 0 ≤ i) (h : i ≤ 1000000000000000000000000000000) : i.natAbs < 2 ^ 200 := Nat.lt_of_le_of_lt (show i.natAbs ≤ 1000000000000000000000000000000 by omega) (by decide)
theorem log200 {i : Int} (h0 : 1 ≤ i) (h : i ≤ 1000000000000000000000000000000) : i.natAbs.log2 < 9000 := (wide_div (by omega : 0 < i) (lt200 (by omega) h) (by decide) (by decide) (i := 0)).2
theorem st_bb {s : Int} (h : s ≤ 1000000000000000000000000000000) : s ≤ BB := Int.le_trans h (Int.le_trans (PB_of (n := 100) (by decide +kernel)) (PB_le (by decide)))
theorem k6_pos {P : Prop} {q : Prop} [Decidable P] [Decidable q] (h : P) (h' : q) : (decide P && decide q) = true := by rw [decide_eq_true h, decide_eq_true h']; rfl
section
variable {P : Program} {w : World} {K : PySem.W.Frag} {mg : Str → Option Value} {base : Heap} {L : LA}
abbrev N_isbreaker : List Str := ["value", "failures", "wait", "successes"]
theorem sc_isbreaker : FnScope N_isbreaker ["value"] (defScope st_is_breaker) := ⟨rfl, rfl, rfl, by decide +kernel, rfl, by decide +kernel, by decide +kernel⟩
theorem fn_isbreaker (T : LX K mg L) {fd : FuncData} (F : Fun K "is_breaker" "is_breaker" st_is_breaker L.f_is_breaker fd) : FnOk P w K mg base CX0 3 L.f_is_breaker fd ["value"] (spIsBr) := by
  have G_iswithin := ok_iswithin (P := P) (w := w) (base := base) T
  obtain ⟨tk_MOST_COUNT, c_MOST_COUNT⟩ := T.n_MOST_COUNT
  obtain ⟨tk_MOST_TIME, c_MOST_TIME⟩ := T.n_MOST_TIME
  have nd := sc_isbreaker.nd
  refine F.ok sc_isbreaker (fun vs H Q E h => ?_) (fun cdv A outer S H vs Q E hr h => ?_)
  · obtain ⟨x, t, rfl, _⟩ := h
    rfl
  · obtain ⟨x, t, rfl, ⟨a, rfl, ha⟩, ⟨h1, h2, h3, h4, h5, h6⟩, k⟩ := h
    refine ⟨_, (pss_cons (ps_if (PW.pt (pw_or (pt_not (pt_val (pe_callB call_isi (by rfl) T.b_isinstance (by decide +kernel) (pa_cons (pv 0) (pa_cons (pe_bltn (by rfl) T.b_tuple (by decide +kernel : bootBuiltins "tuple" = some (.type "tuple")) (v := .ty "tuple") rfl) pa_nil))))) (pw_or1 (pt_cmpR op_ne (pe_callB call_len_seq (by rfl) T.b_len PySem.boot_len (pa_cons (pv 0) pa_nil)) pe_int (nomark _))))) (pss_one (ps_ret pe_bl)) pss_nil)
       (pss_cons (ps_asg (pv 0) (pg_tup rfl (pgs_cons (pg_name (i := 1) nd rfl (Or.inl rfl)) (pgs_cons (pg_name (i := 2) nd rfl (Or.inl rfl)) (pgs_cons (pg_name (i := 3) nd rfl (Or.inl rfl)) pgs_nil)))))
       (pss_one (ps_ret (pe_and (pe_c G_iswithin (hr.mono (by decide)) rfl (pa_cons (pv 1) (pa_cons pe_int (pa_cons (pe_gI c_MOST_COUNT) pa_nil)))) (pe_and (pe_c G_iswithin (hr.mono (by decide)) rfl (pa_cons (pv 2) (pa_cons pe_int (pa_cons (pe_gI c_MOST_TIME) pa_nil)))) (pe_one (pe_c G_iswithin (hr.mono (by decide)) rfl (pa_cons (pv 3) (pa_cons pe_int (pa_cons (pe_gI c_MOST_COUNT) pa_nil))))))))))), ?_⟩
    refine ⟨_, rfl, _, .ty "tuple", _, _, _, rfl, .ty "tuple", (Kd.tup ha).ty, (Kd.tup ha).kit "tuple" _ (.inr ⟨by decide, by decide, rfl⟩), _, rfl, iteF ?_⟩
    refine ⟨_, rfl, a, _, rfl, .inr (SqT.of ha), rfl, _, rfl, iteF ?_⟩
    refine ⟨_, rfl, a, _, rfl, SqT.of ha, rfl, _, _, rfl, _, _, rfl, _, _, rfl, rfl, ?_⟩
    refine ⟨_, rfl, _, _, _, _, rfl, .int _, _, rfl, ?_⟩
    have e1 : (decide ((1 : Int) ≤ t.1) && decide (t.1 ≤ 1000000000000)) = true := k6_pos h1 h2
    have e2 : (decide ((1 : Int) ≤ t.2.1) && decide (t.2.1 ≤ 1000000000000000000000000000000)) = true := k6_pos h3 h4
    have e3 : (decide ((1 : Int) ≤ t.2.2) && decide (t.2.2 ≤ 1000000000000)) = true := k6_pos h5 h6
    show if (decide ((1 : Int) ≤ t.1) && decide (t.1 ≤ 1000000000000)) = true then _ else _
    rw [e1]
    refine iteT ?_
    refine ⟨_, rfl, _, _, _, _, rfl, .int _, _, rfl, ?_⟩
    show if (decide ((1 : Int) ≤ t.2.1) && decide (t.2.1 ≤ 1000000000000000000000000000000)) = true then _ else _
    rw [e2]
    refine iteT ?_
    refine ⟨_, rfl, _, _, _, _, rfl, .int _, ?_⟩
    show Q (.bl (decide ((1 : Int) ≤ t.2.2) && decide (t.2.2 ≤ 1000000000000))) H
    rw [e3]
    exact k
theorem ok_isbreaker (T : LX K mg L) : Cal P w K mg base "is_breaker" 3 L.f_is_breaker ["value"] (spIsBr) := T.d_is_breaker.cal fun fd F => fn_isbreaker T F
end
/-! ### states of breakers, and data of them -/
abbrev StD := Str × Int
def StAt (H : Hp) (x : V) (s : StD) : Prop := ∃ a, x = .ref a ∧ H a = some (.tup [.str s.1, .int s.2])
abbrev Sts (H : Hp) (xs : List V) (ss : List StD) : Prop := Paired (StAt H) xs ss
theorem StAt.nl {H H' : Hp} (k : NL H H') {x : V} {d : StD} (h : StAt H x d) : StAt H' x d := by
  obtain ⟨a, e, h⟩ := h
  exact ⟨a, e, k _ _ h fun _ z => nomatch z⟩
theorem Sts.nl {H H' : Hp} (k : NL H H') {xs : List V} {ss : List StD} (h : Sts H xs ss) : Sts H' xs ss := L2.Paired.mapP h fun _ _ z => z.nl k
theorem paired_len {α β : Type} {F : α → β → Prop} : ∀ {xs : List α} {ys : List β}, Paired F xs ys → xs.length = ys.length
  | _, _, .nil => rfl
  | _, _, .cons _ p => by rw [List.length_cons, List.length_cons, paired_len p]
theorem paired_get {α β : Type} {F : α → β → Prop} : ∀ {xs : List α} {ys : List β} {i : Nat} {x : α}, Paired F xs ys → xs[i]? = some x → ∃ y, ys[i]? = some y ∧ F x y
  | _, _, i, x, .nil, e => by cases e
  | _, _, 0, x, .cons h _, e => by cases e; exact ⟨_, rfl, h⟩
  | _, _, i + 1, x, .cons _ p, e => paired_get (i := i) p e
theorem paired_get2 {α β : Type} {F : α → β → Prop} : ∀ {xs : List α} {ys : List β} {i : Nat} {y : β}, Paired F xs ys → ys[i]? = some y → ∃ x, xs[i]? = some x ∧ F x y
  | _, _, i, x, .nil, e => by cases e
  | _, _, 0, x, .cons h _, e => by cases e; exact ⟨_, rfl, h⟩
  | _, _, i + 1, x, .cons _ p, e => paired_get2 (i := i) p e
theorem paired_app {α β : Type} {F : α → β → Prop} : ∀ {xs us : List α} {ys vs : List β}, Paired F xs ys → Paired F us vs → Paired F (xs ++ us) (ys ++ vs)
  | _, _, _, _, .nil, q => q
  | _, _, _, _, .cons h p, q => .cons h (paired_app p q)
theorem StAt.same {H H' : Hp} (s : Same H H') {x : V} {d : StD} (h : StAt H x d) : StAt H' x d := by
  obtain ⟨a, e, h⟩ := h
  exact ⟨a, e, s _ _ h⟩
theorem Sts.same {H H' : Hp} (s : Same H H') {xs : List V} {ss : List StD} (h : Sts H xs ss) : Sts H' xs ss := L2.Paired.mapP h fun _ _ z => z.same s
/-- the breaker passes a request at t -/
def psB (b : Tri) (s : StD) (t : Int) : Prop := s.1 = "open" → b.2.1 ≤ t - s.2
def hfS (s : StD) : StD := if s.1 = "open" then ("half", 0) else s
def okS (b : Tri) (s : StD) : StD := if (hfS s).1 = "half" ∧ (hfS s).2 + 1 < b.2.2 then ("half", (hfS s).2 + 1) else ("closed", 0)
def badS (b : Tri) (s : StD) (t : Int) : StD := if (hfS s).1 = "closed" ∧ (hfS s).2 + 1 < b.1 then ("closed", (hfS s).2 + 1) else ("open", t)
theorem sC_O : ¬ (("closed" : Str) = "open") := by decide +kernel
theorem sH_O : ¬ (("half" : Str) = "open") := by decide +kernel
theorem sO_C : ¬ (("open" : Str) = "closed") := by decide +kernel
theorem sH_C : ¬ (("half" : Str) = "closed") := by decide +kernel
theorem sC_H : ¬ (("closed" : Str) = "half") := by decide +kernel
theorem sO_H : ¬ (("open" : Str) = "half") := by decide +kernel
theorem hf_closed (n : Int) : hfS (("closed" : Str), n) = (("closed" : Str), n) := if_neg sC_O
theorem hf_half (n : Int) : hfS (("half" : Str), n) = (("half" : Str), n) := if_neg sH_O
theorem hf_open (n : Int) : hfS (("open" : Str), n) = (("half" : Str), 0) := if_pos rfl
/-- what is told of a request that k of n breakers pass -/
def outV (n k : Nat) (inS : Bool) : List V := if k < n then [.str "rejected", .int k] else if inS then [.str "failed"] else [.str "served"]
def okW (s : StD) : Prop := s.1 = "closed" ∨ s.1 = "open" ∨ s.1 = "half"
def stD (s : StD) : PyData := .tuple [.str s.1, .int s.2]
theorem Sts.dp {K : PySem.W.Frag} {H : Hp} : ∀ {xs : List V} {ss : List StD}, Sts H xs ss → DpAll K H xs (ss.map stD)
  | _, _, .nil => .nil
  | _, _, .cons ⟨a, e, h⟩ t => by
    subst e
    exact .cons (.tup (SqT.of h) (.cons (.str _) (.cons (.int _) .nil))) (Sts.dp t)
theorem stD_eq (s u : StD) : PyData.eqv (stD s) (stD u) = decide (s = u) := by
  obtain ⟨a, b⟩ := s
  obtain ⟨a', b'⟩ := u
  simp only [stD, PyData.eqv, PyData.eqvAll, Bool.and_true]
  rw [Bool.eq_iff_iff]
  simp [Prod.ext_iff]
theorem stDs_eq : ∀ ss us : List StD, PyData.eqvAll (ss.map stD) (us.map stD) = decide (ss = us)
  | [], [] => by simp [PyData.eqvAll]
  | [], _ :: _ => by simp [PyData.eqvAll]
  | _ :: _, [] => by simp [PyData.eqvAll]
  | t :: ts, u :: us => by
    rw [List.map_cons, List.map_cons, PyData.eqvAll, stD_eq, stDs_eq ts us, Bool.eq_iff_iff]
    simp
theorem sok_W {s : StD} (h : okW s) : PyData.strOk s.1 = true := by
  obtain ⟨a, b⟩ := s
  rcases h with h | h | h
  · have h : a = "closed" := h
    subst h
    show PyData.strOk "closed" = true
    decide +kernel
  · have h : a = "open" := h
    subst h
    show PyData.strOk "open" = true
    decide +kernel
  · have h : a = "half" := h
    subst h
    show PyData.strOk "half" = true
    decide +kernel
theorem canSts : ∀ {ss : List StD}, (∀ s ∈ ss, okW s) → PyData.canLayAll0 (ss.map stD) = true
  | [], _ => by simp [PyData.canLayAll0]
  | t :: ts, h => by
    rw [List.map_cons, PyData.canLayAll0, canSts fun s hs => h s (List.mem_cons_of_mem _ hs)]
    simp [stD, PyData.canLay0, PyData.canLayAll0, sok_W (h t (List.mem_cons_self ..))]
theorem depSts : ∀ ss : List StD, PyData.depthAll (ss.map stD) ≤ 10
  | [] => by simp [PyData.depthAll]
  | t :: ts => by
    have := depSts ts
    rw [List.map_cons, PyData.depthAll]
    have h2 : (stD t).depth ≤ 10 := by simp [stD, PyData.depth, PyData.depthAll]
    omega
theorem shSts {ss : List StD} (h : ∀ s ∈ ss, okW s) : SeqAt.shaped (.list (ss.map stD)) = true := by
  refine Bool.and_eq_true_iff.mpr ⟨?_, decide_eq_true ?_⟩
  · rw [PyData.canLay0]
    exact canSts h
  · have := depSts ss
    rw [PyData.depth]
    omega
theorem Sts.dpl {K : PySem.W.Frag} {H : Hp} {l : Addr} {ys : List V} {ss : List StD} (h : H l = some (.lst ys)) (s : Sts H ys ss) : Dp K H (.ref l) (.list (ss.map stD)) := .lst (SqL.of h) s.dp
theorem eqSts (ss us : List StD) : PyData.eqv (.list (ss.map stD)) (.list (us.map stD)) = decide (ss = us) := by
  rw [PyData.eqv]
  exact stDs_eq ss us
/-! ### lists of ints as data; what the law asks of told times -/
def intsD (ns : List Int) : PyData := .list (ns.map PyData.int)
theorem ints_dp {K : PySem.W.Frag} {H : Hp} : ∀ ns : List Int, DpAll K H (ns.map V.int) (ns.map PyData.int)
  | [] => .nil
  | n :: ns => .cons (.int n) (ints_dp ns)
theorem canInts : ∀ ns : List Int, PyData.canLayAll0 (ns.map PyData.int) = true
  | [] => by simp [PyData.canLayAll0]
  | n :: ns => by rw [List.map_cons, PyData.canLayAll0, canInts ns]; simp [PyData.canLay0]
theorem depInts : ∀ ns : List Int, PyData.depthAll (ns.map PyData.int) ≤ 10
  | [] => by simp [PyData.depthAll]
  | n :: ns => by
    have := depInts ns
    rw [List.map_cons, PyData.depthAll]
    have h2 : (PyData.int n).depth ≤ 10 := by simp [PyData.depth]
    omega
theorem shInts (ns : List Int) : SeqAt.shaped (intsD ns) = true := by
  refine Bool.and_eq_true_iff.mpr ⟨?_, decide_eq_true ?_⟩
  · unfold intsD
    rw [PyData.canLay0]
    exact canInts ns
  · have := depInts ns
    unfold intsD
    rw [PyData.depth]
    omega
theorem eqInts1 : ∀ ns ms : List Int, PyData.eqvAll (ns.map PyData.int) (ms.map PyData.int) = decide (ns = ms)
  | [], [] => by simp [PyData.eqvAll]
  | [], _ :: _ => by simp [PyData.eqvAll]
  | _ :: _, [] => by simp [PyData.eqvAll]
  | n :: ns, m :: ms => by
    rw [List.map_cons, List.map_cons, PyData.eqvAll, eqInts1 ns ms, Bool.eq_iff_iff]
    simp [PyData.eqv]
theorem eqInts (ns ms : List Int) : PyData.eqv (intsD ns) (intsD ms) = decide (ns = ms) := by
  unfold intsD
  rw [PyData.eqv]
  exact eqInts1 ns ms
theorem Dp.ints {K : PySem.W.Frag} {H : Hp} {a : Addr} {ns : List Int} (h : H a = some (.lst (ns.map V.int))) : Dp K H (.ref a) (intsD ns) := .lst (SqL.of h) (ints_dp ns)
/-! ### rules inside comprehensions -/
theorem call_lenK {X : Cx} {K : PySem.W.Frag} (h : X.K = K) : CallR X (.builtin "len") (fun xs H Q => ∃ p ys, xs = [.ref p] ∧ (SqL K H p ys ∨ SqT K H p ys) ∧ Q (.int ys.length) H) := h ▸ call_len_seq
theorem call_listK {X : Cx} {K : PySem.W.Frag} (h : X.K = K) : CallR X (.type "list") (fun xs H Q => ∃ p ys, xs = [.ref p] ∧ (SqL K H p ys ∨ SqT K H p ys) ∧ ∀ l, H l = none → Q (.ref l) (upd H l (.lst ys))) := h ▸ call_list_of
theorem op_neDK {X : Cx} {K : PySem.W.Frag} (h : X.K = K) (hu : X.A.units + 64 < cLine) : OpR X (compareOp .NotEq) (rNeD K) := h ▸ op_neD hu
theorem op_eqDK {X : Cx} {K : PySem.W.Frag} (h : X.K = K) (hu : X.A.units + 64 < cLine) : OpR X (compareOp .Eq) (rEqD K) := h ▸ op_eqD hu
theorem op_inK {X : Cx} {K : PySem.W.Frag} (h : X.K = K) : OpR X (compareOp CmpOp.In) (rIn K false) := h ▸ op_in_seq
theorem op_notInK {X : Cx} {K : PySem.W.Frag} (h : X.K = K) : OpR X (compareOp CmpOp.NotIn) (rIn K true) := h ▸ op_notIn_seq
/-! ### list.count of strings -/
def eqs (k : Str) (v : Value) : Bool := match v with
  | .str n _ => n == k
  | _ => false
def rCntS (K : PySem.W.Frag) : V → List V → Hp → VK → Prop := fun x xs H Q => ∃ (p : Addr) (ss : List Str) (k : Str), x = .ref p ∧ xs = [.str k] ∧ SqL K H p (ss.map V.str) ∧ Q (.int (ss.countP (fun y => decide (y = k)) : Nat)) H
theorem eqs_at {k : Str} {t : Tok} {A : Around} {s : Shared} : ∀ {ss : List Str} {us : List Value}, Vals (ss.map V.str) us → ∀ y ∈ us, SeqAt.EqAt A s y (.str k t) (eqs k y)
  | [], us, r => by
    rw [List.map_nil] at r
    cases r
    exact fun y hy => nomatch hy
  | n :: ss, us, r => by
    rw [List.map_cons] at r
    cases r with
    | cons r1 r2 =>
      obtain ⟨t', rfl⟩ := r1
      intro y hy
      rcases List.mem_cons.mp hy with q | q
      · rw [q]
        exact SeqAt.EqAt.str_str n t' k t
      · exact eqs_at r2 y q
theorem eqs_count {k : Str} : ∀ {ss : List Str} {us : List Value}, Vals (ss.map V.str) us → us.countP (eqs k) = ss.countP fun y => decide (y = k)
  | [], us, r => by
    rw [List.map_nil] at r
    cases r
    rfl
  | n :: ss, us, r => by
    rw [List.map_cons] at r
    cases r with
    | cons r1 r2 =>
      obtain ⟨t', rfl⟩ := r1
      have ih := eqs_count (k := k) r2
      rw [List.countP_cons, List.countP_cons, ih]
      rfl
theorem mt_scount {X : Cx} : MtR X "list.count" (rCntS X.K) := by
  intro pins s σ H x xs v us Q I rx rxs h
  obtain ⟨p, ns, k, rfl, rfl, hs, q⟩ := h
  cases rx
  obtain ⟨u, rfl, ru⟩ := rxs.one
  obtain ⟨t, rfl⟩ := ru
  obtain ⟨its, rv, ⟨⟨cls, dd, data, sl⟩, n, ho, hc, hdn, hd⟩, hlen⟩ := I.list hs
  simp only at hc hd
  subst hc hd
  refine call_meets PySem.F.slot_list_count ⟨_, ho, rfl⟩ PySem.F.entry_list_count (PySem.F.args_list_count_2 _ _)
    (SeqAt.list_countAt p its.toArray n dd sl (.str k t) (eqs k)) ⟨ho, fun y hy => eqs_at rv y (by simpa using hy), ?_⟩
  have ec : its.toArray.toList.countP (eqs k) = ns.countP fun y => decide (y = k) := eqs_count rv
  refine ⟨.int (ns.countP (fun y => decide (y = k)) : Nat), H, I.tok _, ⟨s.toks, ?_⟩, q⟩
  show Value.int ((its.toArray.toList.countP (eqs k) : Nat) : Int) s.toks = Value.int ((ns.countP (fun y => decide (y = k)) : Nat) : Int) s.toks
  rw [ec]
/-- a comprehension over enumerate -/
theorem lc_enum {K : PySem.W.Frag} {a : Addr} {xs : List V} {g : TG} {tt : TT} {te : TE} {vs : List Nat} {σ : L2.St} {H1 : Hp} {D : Addr} {Qd : Hp → Prop} (Pv : Nat → Hp → Prop) (h0 : Pv 0 (upd H1 D (.lst []))) (hl : ∀ i H, Pv i H → SqL K H a xs)
    (hs : ∀ (i : Nat) (x : V) (T : Addr) (H : Hp), xs[i]? = some x → Pv i H → H T = none → g (.ref T) (wipe σ vs) (upd H T (.tup [.int (i : Nat), x])) fun σ2 H2 => wipe σ2 vs = wipe σ vs ∧ tt σ2 H2 fun b H3 =>
      if b = true then te σ2 H3 fun y H4 => ∃ acc, H4 D = some (.lst acc) ∧ acc.length < sizeLine ∧ Pv (i + 1) (upd H4 D (.lst (acc ++ [y]))) else Pv (i + 1) H3) (hd : ∀ H, Pv xs.length H → Qd H) :
    ∃ W : Nat → Nat → Hp → Prop, (∃ m, W 0 m (upd H1 D (.lst []))) ∧ ∀ i m H, W i m H → ((Ite K a).stop i H ∧ Qd H) ∨ ((Ite K a).go i H ∧ ∃ Nx : Hp → Prop, (∀ H', Nx H' → ∃ m', m' < m ∧ W (i + 1) m' H') ∧ ∀ x H', (Ite K a).yld i H x H' → g x (wipe σ vs) H' fun σ2 H2 => wipe σ2 vs = wipe σ vs ∧ tt σ2 H2 fun b H3 =>
        if b = true then te σ2 H3 fun y H4 => ∃ acc, H4 D = some (.lst acc) ∧ acc.length < sizeLine ∧ Nx (upd H4 D (.lst (acc ++ [y]))) else Nx H3) := by
  refine ⟨fun i m H => m = xs.length - i ∧ i ≤ xs.length ∧ Pv i H, ⟨xs.length, by omega, Nat.zero_le _, h0⟩, ?_⟩
  rintro i m H ⟨rfl, hi, p⟩
  have q := hl i H p
  by_cases hlt : i < xs.length
  · refine .inr ⟨⟨xs, xs[i], q, List.getElem?_eq_getElem hlt⟩, Pv (i + 1), fun H' p' => ⟨xs.length - (i + 1), by omega, rfl, hlt, p'⟩, fun v H' y => ?_⟩
    obtain ⟨T, x', rfl, hT, rfl, f⟩ := y
    exact hs i x' T H (f xs q) p hT
  · have e : i = xs.length := by omega
    subst e
    exact .inl ⟨⟨xs, q, Nat.le_refl _⟩, hd H p⟩
theorem op_powW {X : Cx} : OpR X (binaryOp .Pow) (rI (fun i j => 0 ≤ j ∧ (Builtin.Int.intBits i : Int) * j ≤ 2 ^ 27) fun i j => .int (i ^ j.toNat)) := opI fun _ _ _ _ _ _ _ hc q => PyProof.Rows.pow_int hc.1 hc.2 q
/-! ### zip of a tuple and a list -/
section
open PySem.Builtin.SmallTypes
/-- what next() walks: an iterator over a sequence -/
structure Wk (prog : Program) (w : World) where
  it : Heap → Addr → Addr → Nat → Prop
  sq : Heap → Addr → Array Value → Prop
  itx : ∀ {g g' : Heap} {a b l : Addr} {n : Nat}, it g a l n → Heap.ExtBut b g g' → a ≠ b → it g' a l n
  sqx : ∀ {g g' : Heap} {a b : Addr} {xs : Array Value}, sq g a xs → Heap.ExtBut b g g' → a ≠ b → sq g' a xs
  ita : ∀ {g g' : Heap} {a l : Addr} {n : Nat}, it g a l n → (∀ o, g.get? a = some o → g'.get? a = some o) → it g' a l n
  ito : ∀ {g : Heap} {a l : Addr} {n : Nat}, it g a l n → ∃ o, g.get? a = some o ∧ ∃ f, o.data = .fields f
  nxt : ∀ {A : Around} {E : Value → Shared → Prop} {s : Shared} {a l : Addr} {n : Nat} {xs : Array Value} {x : Value} {Q : Value → Shared → Prop}, it s.heap a l n → sq s.heap l xs → xs[n]? = some x →
    (∀ g, it g a l (n + 1) → Heap.SameBut a s.heap g → Q x { s with heap := g }) → wpAny (model prog w) A (nextOf (.ref a)) Q E s
  fin : ∀ {A : Around} {E : Value → Shared → Prop} {s : Shared} {a l : Addr} {n : Nat} {xs : Array Value} {Q : Value → Shared → Prop}, A.handled = none → it s.heap a l n → sq s.heap l xs → xs[n]? = none →
    (∀ g e, Heap.ExtBut a s.heap g → (∃ o, g.get? e = some o ∧ o.cls = .type "StopIteration") → E (.ref e) { s with heap := g }) → wpAny (model prog w) A (nextOf (.ref a)) Q E s
def wkL (prog : Program) (w : World) : Wk prog w where
  it := Heap.IsListIter
  sq := Heap.IsList
  itx := fun x h n => x.extBut h n
  sqx := fun x h n => x.extBut h n
  ita := fun x e => x.at e
  ito := fun x => by obtain ⟨o, e, _, d⟩ := x; exact ⟨o, e, _, d⟩
  nxt := fun a b c d => wpAny_nextOf_list_item a b c d
  fin := fun a b c d e => wpAny_nextOf_list_end a b c d e
def wkT (prog : Program) (w : World) : Wk prog w where
  it := Heap.IsTupleIter
  sq := Heap.IsTuple
  itx := fun x h n => x.extBut h n
  sqx := fun x h n => x.extBut h n
  ita := fun x e => x.at e
  ito := fun x => by obtain ⟨o, e, _, d⟩ := x; exact ⟨o, e, _, d⟩
  nxt := fun a b c d => RZ.nextOf_tuple_item a b c d
  fin := fun a b c d e => RZ.nextOf_tuple_end a b c d e
section
variable {prog : Program} {w : World} {A : Around} {E : Value → Shared → Prop} {s : Shared} (U V : Wk prog w)
/-- the kept of a step -/
def Kz (z T i j : Addr) (g g' : Heap) : Prop := ∀ c o, c ≠ z → c ≠ T → c ≠ i → c ≠ j → g.get? c = some o → g'.get? c = some o
theorem zw_item {z T R i j a b : Addr} {m n : Nat} {xs ys : Array Value} {x y p q : Value} {Q : Value → Shared → Prop} (D : ZipApart z T R i j a b) (hz : IsZip s.heap z T R .none) (hT : IsPair s.heap T (.ref i) (.ref j)) (hR : IsPair s.heap R p q)
    (hi : U.it s.heap i a m) (hj : V.it s.heap j b n) (ha : U.sq s.heap a xs) (hb : V.sq s.heap b ys) (ex : xs[m]? = some x) (ey : ys[n]? = some y)
    (k : ∀ g, IsZip g z T R (rawInt s.heap.objs.size) → IsPair g R x y → U.it g i a (m + 1) → V.it g j b (n + 1) → IsPair g s.heap.objs.size x y → g.objs.size = s.heap.objs.size + 1 → Kz z R i j s.heap g → Q (.ref s.heap.objs.size) { s with heap := g }) :
    wpAny (model prog w) A (Builtin.«zip.__next__» ⟨[.ref z], []⟩) (fun r s' => ∃ v, r = .done (.ret v) ∧ Q v s') E s := by
  show wpAny _ _ (field (.ref z) 2 >>= fun _ => _) _ _ _
  refine wpAny_bind (wpAny_field hz rfl (x := .bool false) rfl (show wpAny _ _ (field (.ref z) 3 >>= fun _ => _) _ _ _ from ?_))
  refine wpAny_bind (wpAny_field hz rfl (x := .ref T) rfl (wpAny_bind (wpAny_seqItems hT rfl (show wpAny _ _ (ownedTupleIsFree (.ref z) >>= fun _ => _) _ _ _ from wpAny_bind ?_))))
  unfold Builtin.SmallTypes.ownedTupleIsFree
  refine wpAny_bind (wpAny_field hz rfl (x := .none) rfl (wpAny_pure ?_)); simp only [if_true]
  refine wpAny_bind (wpAny_rule (wpAny_bind (wpAny_field hz rfl (x := .ref R) rfl (wpAny_bind (wpAny_setField_rec hz (by simp) fun g1 z1 s1 => ?_)))))
  replace z1 : IsZip g1 z T R .ellipsis := z1
  refine wpAny_bind ?_; simp only [List.zipIdx_cons, List.zipIdx_nil, List.forIn_cons, List.forIn_nil]
  refine wpAny_bind (wpAny_bind (wpAny_onRaise (show wpAny _ _ (nextOf (.ref i) >>= fun _ => _) _ _ _ from ?_)))
  refine wpAny_bind (U.nxt (U.itx hi s1.extBut D.i1z) (U.sqx ha s1.extBut D.l1z) ex fun g2 i2 s2 => wpAny_pure ?_)
  have R2 : IsPair g2 R p q := s2.extBut _ _ D.TOi1 (s1.extBut _ _ D.TOz hR)
  refine wpAny_bind (wpAny_seqItems R2 rfl (wpAny_bind (wpAny_updateSeq_pair R2 fun g3 R3 s3 => wpAny_bind (wpAny_letGo (wpAny_pure ?_)))))
  replace R3 : IsPair g3 R x q := R3
  refine wpAny_bind (wpAny_bind (wpAny_onRaise (show wpAny _ _ (nextOf (.ref j) >>= fun _ => _) _ _ _ from ?_)))
  refine wpAny_bind (V.nxt (V.itx (V.itx (V.itx hj s1.extBut D.i2z) s2.extBut D.i12.symm) s3.extBut D.TOi2.symm) (V.sqx (V.sqx (V.sqx hb s1.extBut D.l2z) s2.extBut D.l2i1) s3.extBut D.l2TO) ey fun g4 j4 s4 => wpAny_pure ?_)
  have R4 : IsPair g4 R x q := s4.extBut _ _ D.TOi2 R3
  refine wpAny_bind (wpAny_seqItems R4 rfl (wpAny_bind (wpAny_updateSeq_pair R4 fun g5 R5 s5 => wpAny_bind (wpAny_letGo (wpAny_pure (wpAny_pure ?_))))))
  replace R5 : IsPair g5 R x y := R5
  refine wpAny_bind (wpAny_seqItems R5 rfl (wpAny_bind (wpAny_newTuple ?_)))
  have e5 : g5.objs.size = s.heap.objs.size := by rw [s5.1, s4.1, s3.1, s2.1, s1.1]
  have z5 : IsZip g5 z T R .ellipsis := s5.extBut _ _ D.TOz.symm (s4.extBut _ _ D.i2z.symm (s3.extBut _ _ D.TOz.symm (s2.extBut _ _ D.i1z.symm z1)))
  have k5 : Kz z R i j s.heap g5 := fun c o c1 c2 c3 c4 e => s5.extBut _ _ c2 (s4.extBut _ _ c4 (s3.extBut _ _ c2 (s2.extBut _ _ c3 (s1.extBut _ _ c1 e))))
  have i5 : U.it g5 i a (m + 1) := U.itx (U.itx (U.itx i2 s3.extBut D.TOi1.symm) s4.extBut D.i12) s5.extBut D.TOi1.symm
  have j5 : V.it g5 j b (n + 1) := V.itx j4 s5.extBut D.TOi2.symm
  show wpAny _ _ (ownedTupleHandOut (.ref z) (.ref g5.objs.size) >>= fun _ => _) _ _ _
  refine wpAny_bind ?_; unfold Builtin.SmallTypes.ownedTupleHandOut
  have z6 : IsZip (g5.push { cls := .type "tuple", data := .seq #[x, y] }) z T R .ellipsis := Heap.get?_push_of_some _ z5
  refine wpAny_bind (wpAny_setField_rec z6 (by simp) fun g7 z7 s7 => ?_)
  replace z7 : IsZip g7 z T R (rawInt g5.objs.size) := z7
  refine wpAny_setField_rec z7 (by simp) fun g8 z8 s8 => ?_
  replace z8 : IsZip g8 z T R (rawInt g5.objs.size) := z8
  have up : ∀ c o, c ≠ z → g5.get? c = some o → g8.get? c = some o := fun c o c1 e => s8.extBut _ _ c1 (s7.extBut _ _ c1 (Heap.get?_push_of_some _ e))
  have T8 : IsPair g8 g5.objs.size x y := s8.extBut _ _ (Nat.ne_of_gt (Heap.lt_size z5)) (s7.extBut _ _ (Nat.ne_of_gt (Heap.lt_size z5)) (Heap.get?_push_size _ rfl))
  have e8 : g8.objs.size = g5.objs.size + 1 := by rw [s8.1, s7.1, Heap.size_push]
  rw [e5] at z8 T8 e8
  refine wpAny_pure ⟨_, rfl, (show Q (.ref g5.objs.size) _ from ?_)⟩
  rw [e5]
  exact k g8 z8 (up _ _ D.TOz R5) (U.ita i5 fun o e => up _ o D.i1z e) (V.ita j5 fun o e => up _ o D.i2z e) T8 e8 fun c o c1 c2 c3 c4 e => up c o c1 (k5 c o c1 c2 c3 c4 e)
theorem zw_fin {z T R i j a b : Addr} {m n : Nat} {xs ys : Array Value} {p q : Value} {Q : Fin → Shared → Prop} (hh : A.handled = none) (D : ZipApart z T R i j a b) (hz : IsZip s.heap z T R .none) (hT : IsPair s.heap T (.ref i) (.ref j)) (hR : IsPair s.heap R p q)
    (hi : U.it s.heap i a m) (hj : V.it s.heap j b n) (ha : U.sq s.heap a xs) (hb : V.sq s.heap b ys) (en : xs[m]? = none ∨ ys[n]? = none)
    (k : ∀ g e, Kz z R i j s.heap g → (∃ o, g.get? e = some o ∧ o.cls = .type "StopIteration") → E (.ref e) { s with heap := g }) :
    wpAny (model prog w) A (Builtin.«zip.__next__» ⟨[.ref z], []⟩) Q E s := by
  show wpAny _ _ (field (.ref z) 2 >>= fun _ => _) _ _ _
  refine wpAny_bind (wpAny_field hz rfl (x := .bool false) rfl (show wpAny _ _ (field (.ref z) 3 >>= fun _ => _) _ _ _ from ?_))
  refine wpAny_bind (wpAny_field hz rfl (x := .ref T) rfl (wpAny_bind (wpAny_seqItems hT rfl (show wpAny _ _ (ownedTupleIsFree (.ref z) >>= fun _ => _) _ _ _ from wpAny_bind ?_))))
  unfold Builtin.SmallTypes.ownedTupleIsFree
  refine wpAny_bind (wpAny_field hz rfl (x := .none) rfl (wpAny_pure ?_)); simp only [if_true]
  refine wpAny_bind (wpAny_rule (wpAny_bind (wpAny_field hz rfl (x := .ref R) rfl (wpAny_bind (wpAny_setField_rec hz (by simp) fun g1 z1 s1 => ?_)))))
  replace z1 : IsZip g1 z T R .ellipsis := z1
  refine wpAny_bind ?_; simp only [List.zipIdx_cons, List.zipIdx_nil, List.forIn_cons, List.forIn_nil]
  refine wpAny_bind (wpAny_bind (wpAny_onRaise (show wpAny _ _ (nextOf (.ref i) >>= fun _ => _) _ _ _ from ?_)))
  cases ex : xs[m]? with
  | none =>
    refine wpAny_bind (U.fin hh (U.itx hi s1.extBut D.i1z) (U.sqx ha s1.extBut D.l1z) ex fun g2 e s2 he => ?_)
    obtain ⟨oe, h1, h2⟩ := he
    have z2 : IsZip g2 z T R .ellipsis := s2 _ _ D.i1z.symm z1
    have ne : e ≠ z := fun c => by subst c; rw [z2] at h1; cases h1; simp at h2
    exact wpAny_setField_rec z2 (by simp) fun g3 _ s3 => k g3 e (fun c o c1 _ c3 _ r => s3.extBut _ _ c1 (s2 _ _ c3 (s1.extBut _ _ c1 r))) ⟨oe, s3.extBut _ _ ne h1, h2⟩
  | some x =>
    have ey : ys[n]? = none := by rcases en with h | h; (rw [ex] at h; cases h); exact h
    refine wpAny_bind (U.nxt (U.itx hi s1.extBut D.i1z) (U.sqx ha s1.extBut D.l1z) ex fun g2 i2 s2 => wpAny_pure ?_)
    have R2 : IsPair g2 R p q := s2.extBut _ _ D.TOi1 (s1.extBut _ _ D.TOz hR)
    refine wpAny_bind (wpAny_seqItems R2 rfl (wpAny_bind (wpAny_updateSeq_pair R2 fun g3 R3 s3 => wpAny_bind (wpAny_letGo (wpAny_pure ?_)))))
    refine wpAny_bind (wpAny_bind (wpAny_onRaise (show wpAny _ _ (nextOf (.ref j) >>= fun _ => _) _ _ _ from ?_)))
    refine wpAny_bind (V.fin hh (V.itx (V.itx (V.itx hj s1.extBut D.i2z) s2.extBut D.i12.symm) s3.extBut D.TOi2.symm) (V.sqx (V.sqx (V.sqx hb s1.extBut D.l2z) s2.extBut D.l2i1) s3.extBut D.l2TO) ey fun g4 e s4 he => ?_)
    obtain ⟨oe, h1, h2⟩ := he
    have z4 : IsZip g4 z T R .ellipsis := s4 _ _ D.i2z.symm (s3.extBut _ _ D.TOz.symm (s2.extBut _ _ D.i1z.symm z1))
    have ne : e ≠ z := fun c => by subst c; rw [z4] at h1; cases h1; simp at h2
    exact wpAny_setField_rec z4 (by simp) fun g5 _ s5 => k g5 e (fun c o c1 c2 c3 c4 r => s5.extBut _ _ c1 (s4 _ _ c4 (s3.extBut _ _ c2 (s2.extBut _ _ c3 (s1.extBut _ _ c1 r))))) ⟨oe, s5.extBut _ _ ne h1, h2⟩
theorem zw_next {z T R i j a b : Addr} {m n : Nat} {xs ys : Array Value} {x y p q : Value} {Q : Option Value → Shared → Prop} (D : ZipApart z T R i j a b) (hz : IsZip s.heap z T R .none) (hT : IsPair s.heap T (.ref i) (.ref j)) (hR : IsPair s.heap R p q)
    (hi : U.it s.heap i a m) (hj : V.it s.heap j b n) (ha : U.sq s.heap a xs) (hb : V.sq s.heap b ys) (ex : xs[m]? = some x) (ey : ys[n]? = some y)
    (k : ∀ g, IsZip g z T R (rawInt s.heap.objs.size) → IsPair g R x y → U.it g i a (m + 1) → V.it g j b (n + 1) → IsPair g s.heap.objs.size x y → g.objs.size = s.heap.objs.size + 1 → Kz z R i j s.heap g → Q (some (.ref s.heap.objs.size)) { s with heap := g }) :
    wpAny (model prog w) A (pyNext (.ref z)) Q E s := by
  have hT' : s.TypeIs (.ref z) "zip" := ⟨_, hz, rfl⟩
  unfold pyNext
  exact wpAny_bind (wpAny_attempt (wpAny_callSpecial?_slot (name := Str.ofString "__next__") hT' F.slot_zip_next (wpAny_call_entry F.slot_zip_next hT' F.entry_zip_next
    (zw_item U V D hz hT hR hi hj ha hb ex ey fun g a1 a2 a3 a4 a5 a6 a7 => wpAny_pure (k g a1 a2 a3 a4 a5 a6 a7)) (F.args_zip_next_1 _))))
theorem zw_done {z T R i j a b : Addr} {m n : Nat} {xs ys : Array Value} {p q : Value} {Q : Option Value → Shared → Prop} (hh : A.handled = none) (D : ZipApart z T R i j a b) (hz : IsZip s.heap z T R .none) (hT : IsPair s.heap T (.ref i) (.ref j)) (hR : IsPair s.heap R p q)
    (hi : U.it s.heap i a m) (hj : V.it s.heap j b n) (ha : U.sq s.heap a xs) (hb : V.sq s.heap b ys) (en : xs[m]? = none ∨ ys[n]? = none) (k : ∀ g, Kz z R i j s.heap g → Q none { s with heap := g }) : wpAny (model prog w) A (pyNext (.ref z)) Q E s := by
  have hT' : s.TypeIs (.ref z) "zip" := ⟨_, hz, rfl⟩
  unfold pyNext
  refine wpAny_bind (wpAny_attempt (wpAny_callSpecial?_slot (name := Str.ofString "__next__") hT' F.slot_zip_next (wpAny_call_entry F.slot_zip_next hT' F.entry_zip_next (zw_fin U V hh D hz hT hR hi hj ha hb en fun g e hk he => ?_) (F.args_zip_next_1 _))))
  obtain ⟨o, ho, hc⟩ := he
  exact wpAny_bind (wpAny_isInstance (T := "StopIteration") (b := true) ⟨o, ho, hc⟩ isSubtype_stop (wpAny_pure (k _ hk)))
end
abbrev zmA (h : Heap) (a : Addr) : Heap := h.push { cls := .type "tuple_iterator", data := .fields #[.ref a, .int 0 0] }
abbrev zmB (h : Heap) (a b : Addr) : Heap := (zmA h a).push { cls := .type "list_iterator", data := .fields #[.ref b, .int 0 0] }
abbrev zmC (h : Heap) (a b : Addr) : Heap := (zmB h a b).push { cls := .type "tuple", data := .seq #[.ref h.objs.size, .ref (zmA h a).objs.size] }
abbrev zmD (h : Heap) (a b : Addr) : Heap := (zmC h a b).push { cls := .type "tuple", data := .seq #[.none, .none] }
abbrev zmE (h : Heap) (a b : Addr) : Heap := (zmD h a b).push { cls := .type "zip", data := .fields #[.none, .bool false, .bool false, .ref (zmB h a b).objs.size, .ref (zmC h a b).objs.size] }
theorem zm_new (a b : Addr) (xs ys : Array Value) :
    Meets (Builtin.«zip.__new__» ⟨[.type "zip", .ref a, .ref b], []⟩) (fun _ R s => s.heap.IsTuple a xs ∧ s.heap.IsList b ys ∧ R (.ok (.ret (.ref (zmD s.heap a b).objs.size))) { s with heap := zmE s.heap a b }) :=
  .of_wp fun prog w A R s h => by
    obtain ⟨hp, g, d, tk, os⟩ := s; obtain ⟨h1, h2, h⟩ := h
    have hsub := sub_zip
    have h3 : Heap.IsTuple (Shared.heap ⟨hp, g, d, tk, os⟩) a xs := h1
    have h4 : Heap.IsList (Shared.heap ⟨hp.push { cls := .type "tuple_iterator", data := .fields #[.ref a, .int 0 0] }, g, d, tk, os⟩) b ys := Heap.IsList.push h2 _
    wp_walk using wpAny_pyIter_tuple h3, wpAny_pyIter_list h4
    exact ⟨_, rfl, h⟩
theorem call_zipM {prog : Program} {w : World} {A : Around} {E : Value → Shared → Prop} {s : Shared} {a b : Addr} {xs ys : Array Value} {Q : Value → Shared → Prop} (h1 : s.heap.IsTuple a xs) (h2 : s.heap.IsList b ys)
    (k : ∀ g, IsZip g (s.heap.objs.size + 4) (s.heap.objs.size + 2) (s.heap.objs.size + 3) .none → IsPair g (s.heap.objs.size + 2) (.ref s.heap.objs.size) (.ref (s.heap.objs.size + 1)) → IsPair g (s.heap.objs.size + 3) .none .none →
      g.IsTupleIter s.heap.objs.size a 0 → g.IsListIter (s.heap.objs.size + 1) b 0 → (∀ c o, s.heap.get? c = some o → g.get? c = some o) → Q (.ref (s.heap.objs.size + 4)) { s with heap := g }) :
    wpAny (model prog w) A (call (.type "zip") [.ref a, .ref b]) Q E s := by
  refine callType_new F.called_zip (by decide) (F.typeCall_zip_2 _ _) (F.newCall_zip_2 _ _) (fun o => F.args_object_init_3 o _ _) F.entry_zip_new (zm_new a b xs ys) ⟨h1, h2, ?_⟩
  have z1 : (zmA s.heap a).objs.size = s.heap.objs.size + 1 := Heap.size_push ..
  have z2 : (zmB s.heap a b).objs.size = s.heap.objs.size + 2 := by rw [Heap.size_push, z1]
  have z3 : (zmC s.heap a b).objs.size = s.heap.objs.size + 3 := by rw [Heap.size_push, z2]
  have z4 : (zmD s.heap a b).objs.size = s.heap.objs.size + 4 := by rw [Heap.size_push, z3]
  have g5 : (zmE s.heap a b).get? (zmD s.heap a b).objs.size = some _ := Heap.get?_push_size _ rfl
  have g4 : (zmE s.heap a b).get? (zmC s.heap a b).objs.size = some _ := Heap.get?_push_of_some _ (Heap.get?_push_size _ rfl)
  have g3 : (zmE s.heap a b).get? (zmB s.heap a b).objs.size = some _ := Heap.get?_push_of_some _ (Heap.get?_push_of_some _ (Heap.get?_push_size _ rfl))
  have g2 : (zmE s.heap a b).get? (zmA s.heap a).objs.size = some _ := Heap.get?_push_of_some _ (Heap.get?_push_of_some _ (Heap.get?_push_of_some _ (Heap.get?_push_size _ rfl)))
  have g1 : (zmE s.heap a b).get? s.heap.objs.size = some _ := Heap.get?_push_of_some _ (Heap.get?_push_of_some _ (Heap.get?_push_of_some _ (Heap.get?_push_of_some _ (Heap.get?_push_size _ rfl))))
  show _ ∧ _
  rw [z2, z3, z4] at g5
  rw [z1, z2] at g3
  rw [z3] at g4
  rw [z1] at g2
  rw [z4]
  exact ⟨⟨_, g5, rfl⟩, k _ g5 g3 g4 ⟨_, g1, rfl, rfl⟩ ⟨_, g2, rfl, rfl⟩ fun c o x => Heap.get?_push_of_some _ (Heap.get?_push_of_some _ (Heap.get?_push_of_some _ (Heap.get?_push_of_some _ (Heap.get?_push_of_some _ x))))⟩
end
section
open PyProof.Rows
/-- the tuple at a and the list at b, item by item in new pairs -/
def ItzM (K : PySem.W.Frag) (a b : Addr) : It :=
  ⟨fun i H => ∃ (xs ys : List V) (x y : V), SqT K H a xs ∧ SqL K H b ys ∧ xs[i]? = some x ∧ ys[i]? = some y,
    fun i H v H' => ∃ T x y, v = .ref T ∧ H T = none ∧ H' = upd H T (.tup [x, y]) ∧ (∀ xs, SqT K H a xs → xs[i]? = some x) ∧ ∀ ys, SqL K H b ys → ys[i]? = some y,
    fun i H => ∃ xs ys : List V, SqT K H a xs ∧ SqL K H b ys ∧ (xs.length ≤ i ∨ ys.length ≤ i)⟩
theorem turn_zipM {P : Program} {w : World} {K : PySem.W.Frag} {elts : List Expr} {kk : Nat} {tpos : Pos} {a b z T R i j : Addr} (D : ZipApart z T R i j a b) :
    Turn P w K (.Tuple elts kk tpos) (ItzM K a b) [z, T, R, i, j] z (fun n h => IsZip h z T R .none ∧ IsPair h T (.ref i) (.ref j) ∧ (∃ x y, IsPair h R x y) ∧ h.IsTupleIter i a n ∧ h.IsListIter j b n) where
  mem := List.mem_cons_self ..
  obj := fun n h st c hc => by
    obtain ⟨hz, hT, ⟨x, y, hR⟩, ⟨o1, e1, _, d1⟩, ⟨o2, e2, _, d2⟩⟩ := st
    simp only [List.mem_cons, List.mem_nil_iff, or_false] at hc
    rcases hc with rfl | rfl | rfl | rfl | rfl
    · exact ⟨_, hz, fun v q => nomatch q⟩
    · exact ⟨_, hT, fun v q => nomatch q⟩
    · exact ⟨_, hR, fun v q => nomatch q⟩
    · exact ⟨o1, e1, fun v q => by rw [d1] at q; cases q⟩
    · exact ⟨o2, e2, fun v q => by rw [d2] at q; cases q⟩
  keep := fun n h h' st k => by
    obtain ⟨hz, hT, ⟨x, y, hR⟩, h1, h2⟩ := st
    exact ⟨k z (by simp) _ hz, k T (by simp) _ hT, ⟨x, y, k R (by simp) _ hR⟩, h1.at fun o q => k i (by simp) o q, h2.at fun o q => k j (by simp) o q⟩
  item := by
    intro X eP ew eK hc n pins s σ H E I hf st hg
    subst eP ew eK
    obtain ⟨hz, hT, ⟨x0, y0, hR⟩, h1, h2⟩ := st
    obtain ⟨xs, ys, x, y, qx, qy, hx, hy⟩ := hg
    obtain ⟨its, rv, p, _⟩ := I.tuple qx
    obtain ⟨its2, rv2, p2, _⟩ := I.list qy
    obtain ⟨u, hu, ru⟩ := rv.get hx
    obtain ⟨u2, hu2, ru2⟩ := rv2.get hy
    have lz : z < s.heap.objs.size := Heap.lt_size hz
    refine zw_next (wkT X.prog X.w) (wkL X.prog X.w) D hz hT hR h1 h2 p p2.isList (x := u) (y := u2) (by simpa using hu) (by simpa using hu2) fun h' z' R' h1' h2' hN hsz hk => ?_
    refine ⟨_, rfl, wpAny_letOwnedTupleGo_zip (s := { s with heap := h' }) z' fun h'' z'' sb => ?_⟩
    have hN2 : h''.get? s.heap.objs.size = some { cls := .type "tuple", data := .seq #[u, u2] } := (sb.2 _ (Nat.ne_of_gt lz)).trans hN
    have new : ObjOk X.prog X.w (upd H s.heap.objs.size (.tup [x, y])) h'' s.heap.objs.size (.tup [x, y]) := ⟨by show 2 ≤ sizeLine; decide, [u, u2], .cons ru (.cons ru2 .nil), ⟨_, hN2, rfl, _, rfl⟩⟩
    have I1 : Inv X pins σ (upd H s.heap.objs.size (.tup [x, y])) { s with heap := h'' } := I.turnedNew (t' := s.toks) (ch := [z, T, R, i, j])
      (fun c o hb q => (sb.2 c (fun r => hb (by simp [r]))).trans (hk c o (fun r => hb (by simp [r])) (fun r => hb (by simp [r])) (fun r => hb (by simp [r])) (fun r => hb (by simp [r])) q)) hf (Nat.le_refl _) new
    refine ⟨.ref s.heap.objs.size, _, I1, rfl, ⟨_, x, y, rfl, I.hok.fresh (Nat.le_refl _), rfl, fun l hl => by rw [I.tuple_inj hl qx]; exact hx, fun l hl => by rw [I.list_inj hl qy]; exact hy⟩, ⟨z'', ?_, ⟨u, u2, ?_⟩, ?_, ?_⟩, fun c hcm => ?_⟩
    · exact (sb.2 _ D.TIz).trans (hk _ _ D.TIz D.TITO D.TIi1 D.TIi2 hT)
    · exact (sb.2 _ D.TOz).trans R'
    · exact (wkT X.prog X.w).ita h1' fun o q => (sb.2 _ D.i1z).trans q
    · exact (wkL X.prog X.w).ita h2' fun o q => (sb.2 _ D.i2z).trans q
    · have lt : c < s.heap.objs.size := by
        have hc2 := hcm
        simp only [List.mem_cons, List.mem_nil_iff, or_false] at hc2
        rcases hc2 with rfl | rfl | rfl | rfl | rfl
        · exact lz
        · exact Heap.lt_size hT
        · exact Heap.lt_size hR
        · obtain ⟨_, e1, _⟩ := h1; exact Heap.lt_size e1
        · obtain ⟨_, e2, _⟩ := h2; exact Heap.lt_size e2
      rw [upd_ne (Nat.ne_of_lt lt)]
      exact (hf c hcm).1
  done := by
    intro X eP ew eK hc n pins s σ H E I hf st hg
    subst eP ew eK
    obtain ⟨hz, hT, ⟨x0, y0, hR⟩, h1, h2⟩ := st
    obtain ⟨xs, ys, qx, qy, hend⟩ := hg
    obtain ⟨its, rv, p, _⟩ := I.tuple qx
    obtain ⟨its2, rv2, p2, _⟩ := I.list qy
    have l1 := rv.length
    have l2 := rv2.length
    have he : its.toArray[n]? = none ∨ its2.toArray[n]? = none := by
      rcases hend with q | q
      · left; simp; omega
      · right; simp; omega
    exact zw_done (wkT X.prog X.w) (wkL X.prog X.w) (I.ok.hd hc) D hz hT hR h1 h2 p p2.isList he fun h' hk => ⟨rfl, I.turnedL (t' := s.toks) (ch := [z, T, R, i, j])
      (fun c o hb q => hk c o (fun r => hb (by simp [r])) (fun r => hb (by simp [r])) (fun r => hb (by simp [r])) (fun r => hb (by simp [r])) q) hf⟩
  self := fun A n s Q E st h => wpAny_pyIter_zip st.1 h
def iZipM (K : PySem.W.Frag) (ta : TA) : TI := fun σ H R => ta σ H fun vs H1 => ∃ a b xs ys, vs = [.ref a, .ref b] ∧ SqT K H1 a xs ∧ SqL K H1 b ys ∧ R (ItzM K a b) H1
theorem pi_zipM {X : Cx} {e e2 : Expr} {ta : TA} {p pos tpos : Pos} {elts : List Expr} {kk : Nat} (hg : Gl X "zip") (hm : X.mg "zip" = none) (ha : PA X [e, e2] ta)
    (hs : starEach [e, e2] X.env = (false, eval e X.env) :: starEach [e2] X.env := by rfl) (hpl : (backTo pos (starEach [e2] X.env)).any (·.1) = false := by rfl) : PI X (.Tuple elts kk tpos) (.Call (.Name "zip" p) [e, e2] [] pos) (iZipM X.K ta) := by
  refine ⟨fun pins s σ H R I w0 => ?_⟩
  refine Call_ (ld_blt I hg hm PyProof.Rows.boot_zip (PyProof.Rows.callWith_type1 (thn (ha.run pos pins s σ H _ I w0) fun us s1 ⟨vs, H1, I1, r1, q1⟩ => ?_) hs hpl))
  obtain ⟨a, b, xs, ys, ex, qx, qy, q⟩ := q1
  subst ex
  cases r1 with
  | cons r rr =>
    cases rr with
    | cons r' rr =>
      cases rr; cases r; cases r'
      obtain ⟨its, rv, p1, _⟩ := I1.tuple qx
      obtain ⟨its2, rv2, p2, _⟩ := I1.list qy
      obtain ⟨o1, ho1, _⟩ := id p1
      have fr : ∀ c, c ∈ [s1.heap.objs.size + 4, s1.heap.objs.size + 2, s1.heap.objs.size + 3, s1.heap.objs.size, s1.heap.objs.size + 1] → FpOk X pins H1 c := fun c hcm => by
        have e' : c = s1.heap.objs.size + 4 ∨ c = s1.heap.objs.size + 2 ∨ c = s1.heap.objs.size + 3 ∨ c = s1.heap.objs.size ∨ c = s1.heap.objs.size + 1 := by simpa using hcm
        have le : s1.heap.objs.size ≤ c := by
          rcases e' with c | c | c | c | c
          · rw [c]; exact Nat.le_add_right _ _
          · rw [c]; exact Nat.le_add_right _ _
          · rw [c]; exact Nat.le_add_right _ _
          · rw [c]; exact Nat.le_refl _
          · rw [c]; exact Nat.le_add_right _ _
        exact I1.fpOk le (I1.hok.fresh le)
      refine call_zipM (show s1.heap.IsTuple a its.toArray from p1) p2.isList fun h' hz hT hR h1 h2 hk => wpAny_pyIter_zip hz ?_
      have I2 : Inv X pins σ H1 { s1 with heap := h' } := I1.kept (t' := s1.toks) hk
      exact ⟨s1.heap.objs.size + 4, [s1.heap.objs.size + 4, s1.heap.objs.size + 2, s1.heap.objs.size + 3, s1.heap.objs.size, s1.heap.objs.size + 1], _, _, H1, rfl, I2, turn_zipM (PySem.W.ktu_apart s1.heap.objs.size a b (Heap.lt_size ho1) p2.lt), ⟨hz, hT, ⟨_, _, hR⟩, h1, h2⟩, fr, q⟩
/-- a comprehension over zip of a tuple and a list -/
theorem lc_zipM {K : PySem.W.Frag} {a b : Addr} {xs ys : List V} {g : TG} {tt : TT} {te : TE} {vs : List Nat} {σ : L2.St} {H1 : Hp} {D : Addr} {Qd : Hp → Prop} (hlen : xs.length ≤ ys.length) (Pv : Nat → Hp → Prop) (h0 : Pv 0 (upd H1 D (.lst []))) (hl : ∀ i H, Pv i H → SqT K H a xs ∧ SqL K H b ys)
    (hs : ∀ (i : Nat) (x y : V) (T : Addr) (H : Hp), xs[i]? = some x → ys[i]? = some y → Pv i H → H T = none → g (.ref T) (wipe σ vs) (upd H T (.tup [x, y])) fun σ2 H2 => wipe σ2 vs = wipe σ vs ∧ tt σ2 H2 fun b H3 =>
      if b = true then te σ2 H3 fun y H4 => ∃ acc, H4 D = some (.lst acc) ∧ acc.length < sizeLine ∧ Pv (i + 1) (upd H4 D (.lst (acc ++ [y]))) else Pv (i + 1) H3) (hd : ∀ H, Pv xs.length H → Qd H) :
    ∃ W : Nat → Nat → Hp → Prop, (∃ m, W 0 m (upd H1 D (.lst []))) ∧ ∀ i m H, W i m H → ((ItzM K a b).stop i H ∧ Qd H) ∨ ((ItzM K a b).go i H ∧ ∃ Nx : Hp → Prop, (∀ H', Nx H' → ∃ m', m' < m ∧ W (i + 1) m' H') ∧ ∀ x H', (ItzM K a b).yld i H x H' → g x (wipe σ vs) H' fun σ2 H2 => wipe σ2 vs = wipe σ vs ∧ tt σ2 H2 fun b H3 =>
        if b = true then te σ2 H3 fun y H4 => ∃ acc, H4 D = some (.lst acc) ∧ acc.length < sizeLine ∧ Nx (upd H4 D (.lst (acc ++ [y]))) else Nx H3) := by
  refine ⟨fun i m H => m = xs.length - i ∧ i ≤ xs.length ∧ Pv i H, ⟨xs.length, by omega, Nat.zero_le _, h0⟩, ?_⟩
  rintro i m H ⟨rfl, hi, p⟩
  obtain ⟨qx, qy⟩ := hl i H p
  by_cases c : i < xs.length
  · have hx : xs[i]? = some xs[i] := List.getElem?_eq_getElem c
    have hy : ys[i]? = some ys[i] := List.getElem?_eq_getElem (by omega)
    refine .inr ⟨⟨xs, ys, _, _, qx, qy, hx, hy⟩, Pv (i + 1), fun H' p' => ⟨xs.length - (i + 1), by omega, rfl, c, p'⟩, fun v H' yl => ?_⟩
    obtain ⟨T, x', y', rfl, hT, rfl, f1, f2⟩ := yl
    exact hs i x' y' T H (f1 xs qx) (f2 ys qy) p hT
  · have e : i = xs.length := by omega
    subst e
    exact .inl ⟨⟨xs, ys, qx, qy, .inl (Nat.le_refl _)⟩, hd H p⟩
end
/-! ### list.count over data -/
def rCntD (K : PySem.W.Frag) : V → List V → Hp → VK → Prop := fun x xs H Q => ∃ (p : Addr) (ys : List V) (ds : List PyData) (y : V) (d : PyData), x = .ref p ∧ xs = [y] ∧ SqL K H p ys ∧ DpAll K H ys ds ∧ Dp K H y d ∧ PyData.plainAll ds = true ∧ d.plain = true ∧ d.depth ≤ 10 ∧ Q (.int (ds.countP (fun e => PyData.eqv e d) : Nat)) H
theorem mt_dcount {X : Cx} (hu : X.A.units + 64 < cLine) : MtR X "list.count" (rCntD X.K) := by
  intro pins s σ H x xs v us Q I rx rxs h
  obtain ⟨p, ys, ds, y, d, rfl, rfl, hs, hd, hy, p1, p2, dl, q⟩ := h
  cases rx
  obtain ⟨u, rfl, ru⟩ := rxs.one
  obtain ⟨its, rv, hl, hlen⟩ := I.list hs
  obtain ⟨as, r1⟩ := Dp.readsAll I ds _ its hd rv
  obtain ⟨bs, r2⟩ := Dp.reads I d y u hy ru
  refine SeqAt.count_list_data hl.isList r1 r2 p1 p2 (by omega) ?_
  exact ⟨.int _, H, I.tok _, ⟨s.toks, rfl⟩, q⟩
theorem call_tupK {X : Cx} {K : PySem.W.Frag} (h : X.K = K) : CallR X (.type "tuple") (fun xs H Q => ∃ p ys, xs = [V.ref p] ∧ ((SqL K H p ys ∧ ∀ l : Addr, H l = none → Q (.ref l) (upd H l (.tup ys))) ∨ SqT K H p ys ∧ Q (.ref p) H)) := h ▸ call_tuple_of
/-! ### defs that may raise -/
/-- a def that may raise, called by its name -/
structure CalX (P : Program) (w : World) (K : PySem.W.Frag) (mg : Str → Option Value) (base : Heap) (x : Str) (k : Nat) (f : Addr) (ps : List Str) (sp : Sp) : Prop where
  ex : ∃ fd, FnOk P w K mg base (L2.CX P w) k f fd ps sp ∧ Binds K fd ps []
  g : mg x = some (.ref f)
  kp : PySem.W.keepIn K (.ref f) = true
theorem Dfn.calX {P : Program} {w : World} {K : PySem.W.Frag} {mg : Str → Option Value} {base : Heap} {x : Str} {st : Stmt} {f : Addr} {ps : List Str} {k : Nat} {sp : Sp} (D : Dfn K mg x st f ps) (h : ∀ fd, Fun K x x st f fd → FnOk P w K mg base (L2.CX P w) k f fd ps sp) : CalX P w K mg base x k f ps sp := by
  obtain ⟨fd, F, b⟩ := D.ex
  exact ⟨⟨fd, h fd F, b⟩, D.g, F.kp⟩
theorem pe_cX {X : Cx} {x : Str} {k : Nat} {f : Addr} {ps : List Str} {sp : Sp} {t : TA} {e : Expr} {es : List Expr} {p pos : Pos} {E : L2.St → XK} (c : CalX X.prog X.w X.K X.mg X.base x k f ps sp) (hr : Room k X.A) (hg : Gl X x) (hx : ∀ σ, L2.PassesAt (L2.CX X.prog X.w) X σ (E σ))
    (ha : PA X (e :: es) t) (hdb : (x == ("__debug__" : Str)) = false := by decide) (he : starEach (e :: es) X.env = (false, eval e X.env) :: starEach es X.env := by rfl) (hpl : (backTo pos (starEach es X.env)).any (·.1) = false := by rfl) :
    PE X (.Call (.Name x p) (e :: es) [] pos) (L2.tCallS sp E t) := by
  obtain ⟨fd, F, b⟩ := c.ex
  exact L2.pe_callS F hr hg c.g c.kp b hx ha hdb he hpl
/-- the making of an error with one field -/
def spEI1 (C : Addr) (f : Str) : Sp := fun vs H Q _ => ∃ a v, vs = [.ref a, v] ∧ H a = some (L2.exo a C none) ∧ ∀ dx, H dx = none → dx ≠ a → Q .non (upd (upd H dx (L2.exd dx [(f, v)])) a (L2.exo a C (some dx)))
theorem raise1 {C : Addr} {f : Str} {v : V} {H : Hp} {Q E : XK} (k : ∀ d H', H' d = some (.xd [(f, v)]) → Same H H' → Q (.ref C) (some d) H') : ∀ a, H a = none → spEI1 C f [.ref a, v] (upd H a (L2.exo a C none))
    (fun u H2 => u = .non ∧ ∃ (d : Addr) (fs : List (Str × V)), H2 a = some (L2.exo a C (some d)) ∧ H2 d = some (L2.exd d fs) ∧ H d = none ∧ Q (.ref C) (some d) (upd (L2.del H2 a) d (.xd fs))) E := fun a na => by
  refine ⟨a, v, rfl, upd_same, fun dx nx ne => ⟨rfl, dx, [(f, v)], upd_same, by rw [upd_ne ne, upd_same], by rwa [upd_ne ne] at nx, k dx _ upd_same fun b o e => ?_⟩⟩
  rw [upd_ne ne] at nx
  have ba : b ≠ a := ne_of_none e na
  have bd : b ≠ dx := ne_of_none e nx
  rw [upd_ne bd, L2.del_ne ba, upd_ne ba, upd_ne bd, upd_ne ba]
  exact e
/-- in a suite the term may not speak of the suite's own context -/
theorem ix_listK {X : Cx} {K : PySem.W.Frag} (hK : X.K = K) : IxR X (rIxL K) := by
  subst hK
  exact ix_list
theorem mt_dcountK {X : Cx} {K : PySem.W.Frag} (hK : X.K = K) (hu : X.A.units + 64 < cLine) : MtR X "list.count" (rCntD K) := by
  subst hK
  exact mt_dcount hu
/-! ### a suite that is told of any error of the text -/
def rIsZ (K : PySem.W.Frag) (a : Addr) (cls : Value) (d : Option Addr) : List V → Hp → VK → Prop := fun xs H Q => ∃ D dd : Addr, cls = .ref D ∧ d = some dd ∧ IsC K D ∧ rIsX K D a dd xs H Q
theorem call_isZ {X : Cx} {K : PySem.W.Frag} {a : Addr} {cls : Value} {d : Option Addr} {oe : Obj} {pn : List (Addr × Obj)} (hK : X.K = K) (hz : L2.Zc cls d oe) (hf : ∃ vs, oe.data = .fields vs) : CallR (X.suite a ((a, oe) :: pn)) (.builtin "isinstance") (rIsZ K a cls d) := by
  subst hK
  rintro pins s σ H xs us Q I r ⟨D, dd, rfl, rfl, T, h⟩
  exact call_isX T hz hf pins s σ H xs us Q I r h
def rIsTZ (K : PySem.W.Frag) (a : Addr) (cls : Value) (d : Option Addr) : List V → Hp → VK → Prop := fun xs H Q => ∃ D : Addr, IsC K D ∧ rIsT K D a cls d xs H Q
theorem call_isTZ {X : Cx} {K : PySem.W.Frag} {a : Addr} {cls : Value} {d : Option Addr} {oe : Obj} {pn : List (Addr × Obj)} (hK : X.K = K) (hz : L2.Zc cls d oe) (hf : ∃ vs, oe.data = .fields vs) : CallR (X.suite a ((a, oe) :: pn)) (.builtin "isinstance") (rIsTZ K a cls d) := by
  subst hK
  rintro pins s σ H xs us Q I r ⟨D, T, h⟩
  exact call_isT T hz hf pins s σ H xs us Q I r h
def tXfZ (K : PySem.W.Frag) (a : Addr) (cls : Value) (d : Option Addr) (f : Str) (te : TE) : TE := fun σ H Q => ∃ C : Addr, L2.XfC K C ∧ PySem.W.findIn K (.ref C) f = some none ∧ L2.tXf a cls d C f te σ H Q
theorem pe_xfZ {X : Cx} {K : PySem.W.Frag} {a : Addr} {oe : Obj} {cls : Value} {d : Option Addr} {pn : List (Addr × Obj)} {e : Expr} {te : TE} {pos : Pos} {n : Str} (hK : X.K = K) (hz : L2.Zc cls d oe) (hf : ∃ vs, oe.data = .fields vs) (he : PE (X.suite a ((a, oe) :: pn)) e te) (hb : attributeBase e n X.env (eval e X.env) = eval e X.env := by rfl) :
    PE (X.suite a ((a, oe) :: pn)) (.Attribute e n pos) (tXfZ K a cls d n te) := by
  subst hK
  refine ⟨fun pins s σ H Q I ⟨C, T, no, h⟩ => ?_⟩
  exact (L2.pe_xf T no hz hf he hb).run pins s σ H Q I h
/-- a method of a builtin, the term over a K of its own -/
theorem pe_bmK {X : Cx} {K : PySem.W.Frag} {o e : Expr} {es : List Expr} {to : TE} {t : TA} {name : Str} {apos cpos : Pos} {T id : String} {r : V → List V → Hp → VK → Prop} (hK : X.K = K) (pa : PlainAttrs T) (slot : Slot T name id) (hty : typeOf (.builtin id) = pure (.type "method_descriptor")) (hm : L2.MtR X id r) (ho : PE X o to) (ha : PA X (e :: es) t)
    (hbase : attributeBase o name X.env (eval o X.env) = eval o X.env := by rfl)
    (hfew : ((backTo cpos (starEach (e :: es) X.env)).all (fun x => !x.1) && (backToKw cpos (keywordEach [] X.env)).all (fun x => x.1.isSome) && decide ((e :: es).length + ([] : List Keyword).length + (if ([] : List Keyword).isEmpty then 0 else 1) < 30)) = true := by rfl)
    (hline : (apos.endLine == cpos.line) = true := by rfl) (hs : starEach (e :: es) X.env = (false, eval e X.env) :: starEach es X.env := by rfl) (hplain : (backTo cpos (starEach es X.env)).any (·.1) = false := by rfl) :
    PE X (.Call (.Attribute o name apos) (e :: es) [] cpos) (L2.tBM K T r to t) := by
  subst hK
  exact pe_bm pa slot hty hm ho ha hbase hfew hline hs hplain
theorem clsIn_of {K : PySem.W.Frag} {B : Addr} (h : PySem.W.hasDictIn K B = true) : (PySem.W.clsIn K B).isSome = true := by
  obtain ⟨cd, hc, _⟩ := PySem.W.any_some h
  rw [hc] <;> rfl
/-- whether the error D is a B -/
theorem kit_of {K : PySem.W.Frag} {D B : Addr} {b : Bool} (xB : L2.XfC K B) (tB : PySem.W.typeIn K (.ref B) = some (.type "type")) (sd : PySem.W.subIn K (.ref D) (.ref D) = some true) (s : PySem.W.subIn K (.ref D) (.ref B) = some b) : PySem.W.kitOne K (.ref D) (.ref B) = some b := by
  unfold PySem.W.kitOne
  by_cases e : D = B
  · subst e
    rw [sd] at s
    rw [if_pos (beq_self_eq_true _)]
    exact s
  · rw [if_neg (by simpa using e)]
    have e2 : ((PySem.W.clsIn K B).isSome && PySem.W.typeIn K (.ref B) == some (.type "type")) = true := by rw [clsIn_of xB.hdC, tB] <;> rfl
    show (if ((PySem.W.clsIn K B).isSome && PySem.W.typeIn K (.ref B) == some (.type "type")) = true then PySem.W.subIn K (.ref D) (.ref B) else none) = some b
    rw [if_pos e2]
    exact s
theorem kit_ar {K : PySem.W.Frag} {D : Addr} {b : Bool} {x : String} (hm : PySem.W.kitMeta x = true) (s : PySem.W.subIn K (.ref D) (.type x) = some b) : PySem.W.kitOne K (.ref D) (.type x) = some b := by
  unfold PySem.W.kitOne
  rw [if_neg (by intro z; exact absurd (beq_iff_eq.mp z) (by intro q; cases q))]
  show (if PySem.W.kitMeta x = true then PySem.W.subIn K (.ref D) (.type x) else none) = some b
  rw [if_pos hm]
  exact s
/-- the text of repr, of what has a plain one -/
inductive ReprV : V → Str → Prop
  | int (i : Int) (h : i.natAbs.log2 < 1920) : ReprV (.int i) (toString i : String)
  | non : ReprV .non "None"
  | bl (b : Bool) : ReprV (.bl b) (if b then "True" else "False")
  | str (x : Str) (h : (reprText x).length ≤ sizeLine) : ReprV (.str x) (reprText x)
theorem call_reprP {X : Cx} : CallR X (.builtin "repr") (fun xs H Q => ∃ v s, xs = [v] ∧ ReprV v s ∧ Q (.str s) H) := by
  rintro pins s σ H xs us Q I r ⟨v, x, rfl, h, q⟩
  match us, r with
  | [_], .cons rx .nil =>
    cases h with
    | int i h =>
      obtain ⟨t, rfl⟩ := rx
      exact PySem.P.repr_of_int h ⟨.str _, H, I.tok _, ⟨_, rfl⟩, q⟩
    | non =>
      cases rx
      exact PySem.P.repr_of_none ⟨.str _, H, I.tok _, ⟨_, rfl⟩, q⟩
    | bl b =>
      cases rx
      cases b <;> exact PySem.P.repr_of_bool ⟨.str _, H, I.tok _, ⟨_, rfl⟩, q⟩
    | str x h =>
      obtain ⟨t, rfl⟩ := rx
      exact PySem.P.repr_of_str ⟨.str _, H, I.tok _, ⟨_, rfl⟩, q⟩ h
theorem exm_of {K : PySem.W.Frag} {D B : Addr} {b : Bool} (xB : L2.XfC K B) (tB : PySem.W.typeIn K (.ref B) = some (.type "type")) (s : PySem.W.subIn K (.ref D) (.ref B) = some b) : PySem.W.exmOne K (.ref D) (.ref B) = some b := by
  unfold PySem.W.exmOne
  rw [if_pos (by rw [xB.exC] <;> rfl)]
  have e2 : ((PySem.W.clsIn K B).isSome && PySem.W.typeIn K (.ref B) == some (.type "type")) = true := by rw [clsIn_of xB.hdC, tB] <;> rfl
  show (if ((PySem.W.clsIn K B).isSome && PySem.W.typeIn K (.ref B) == some (.type "type")) = true then PySem.W.subIn K (.ref D) (.ref B) else none) = some b
  rw [if_pos e2]
  exact s
/-! ### defs in which lambdas are made -/
theorem DfnT.cal {P : Program} {w : World} {K : PySem.W.Frag} {mg : Str → Option Value} {base : Heap} {x : Str} {st : Stmt} {f c : Addr} {ps : List Str} {k : Nat} {sp : Sp} (D : DfnT K mg x st f c ps) (h : ∀ fd, FunT K x x st f c fd → FnOk P w K mg base CX0 k f fd ps sp) : Cal P w K mg base x k f ps sp := by
  obtain ⟨fd, F, b⟩ := D.ex
  exact ⟨⟨fd, h fd F, b⟩, D.g, F.kp⟩
/-- x(lambda: body), x a def of the text -/
theorem pe_lamc {X : Cx} {T : List (Addr × Str)} {TT : (XK → Hp → VK → Prop) → Hp → VK → Prop} {x a : Str} {g c P : Addr} {k : Nat} {st : Stmt} {Ng : List Str} {params : Arguments} {body : Expr} {scope : Scope} {t : XK → TE} {p lpos pos : Pos} (D : Dfn X.K X.mg x st g [a]) (Sg : FnScope Ng [a] (defScope st)) (hNg : Ng[0]? = some a) (hva : L2.Vis (defScope st) a)
    (hG : ∀ cdv : Value, LamX.GivesTo X Ng x (defScope st) g cdv (defBody st) a (X.env.qual ++ "<lambda>") TT) (TB : LamX.TabB X.base X.mg c P) (hcode : X.env.code = .ref c) (hmT : (P, X.env.qual ++ "<lambda>") ∈ T) (hu : ∀ p ∈ T, p.1 = P → p.2 = X.env.qual ++ "<lambda>") (hr : Room (k + 2) X.A) (Ls : LamX.LamS X.env.scope scope) (hdef : defaultsOf params X.env = ([], []))
    (hbind : ∀ (q : Str) (cl : List (Str × Addr)) (pm cv ctv : Value), bindArgs (PySem.W.kla_fn "<lambda>" q params body scope cl pm cv ctv) ⟨[], []⟩ = pure [])
    (hbody : ∀ (A : Around) (outer : List Env) (s : Shared) (H : Hp) (E : XK) (f c' : Addr), Room k (A.deeper (LamX.lamEnv X scope s.heap.objs.size f c')) → PE (LamX.lamCx X A outer s H E scope f c') body (t E))
    (hg : Gl X x := by rfl) (hdb : (x == ("__debug__" : Str)) = false := by decide) (hd : (a == ("__debug__" : Str)) = false := by decide) (hcd : (a == ("__classdict__" : Str)) = false := by decide) :
    PE X (.Call (.Name x p) [.Lambda params body scope lpos] [] pos) (LamX.tLam T TT t) := by
  obtain ⟨fd, F, b⟩ := D.ex
  obtain ⟨oc, od, kV, doc, pm, an, cdv, ct, osl, rfl, lk, hc⟩ := F.ex
  exact LamX.pe_lamcall hg D.g F.kp lk hc b Sg hNg hva (hG cdv) TB hcode hmT hu hr Ls hdef hbind hbody hdb hd hcd
/-- what stays of a heap over calls that make lambdas -/
theorem ExtN.lst {H H' : Hp} (e : LamX.ExtN H H') {a : Addr} {xs : List V} (h : H a = some (.lst xs)) : H' a = some (.lst xs) := e _ _ h fun _ z => nomatch z
theorem mk_dfnT {K : PySem.W.Frag} {h : Heap} {mg : Str → Option Value} {x : Str} {st : Stmt} {f c : Addr} {oc : Value} {od an : Option Addr} {osl : Array (Option Value)} {kV doc pm ct : Value} {ps : List Str} (X : K.In h) (G : h.Ns mainGlobals mg) (g : PySem.W.nsIn K mainGlobals x = some (some (.ref f)))
    (l : K.lookup f = some ⟨oc, od, .func (PySem.W.fnOf x x (defArgs st) (defBody st) (defScope st) .none kV doc pm an (.ref c) ct), osl⟩) (cd : PySem.W.codeIn K (.ref c) x = true) (k : PySem.W.keepIn K (.ref f) = true)
    (hb : ∀ (kV doc pm : Value) (an : Option Addr) (cdv ct : Value) (us : List Value), us.length = ps.length → bindArgs (PySem.W.fnOf x x (defArgs st) (defBody st) (defScope st) .none kV doc pm an cdv ct) ⟨us, []⟩ = pure (ps.zip us)) : DfnT K mg x st f c ps :=
  ⟨⟨_, ⟨⟨oc, od, kV, doc, pm, an, ct, osl, rfl, l, cd⟩, k⟩, .all (hb kV doc pm an (.ref c) ct)⟩, PySem.W.mg_of X G g⟩
/-- what the end knows of a table and its code object -/
def TabE (K : PySem.W.Frag) (h : Heap) (c P : Addr) : Prop := h.get? P = some { cls := .none, data := .fields #[] } ∧ PySem.W.codeHdIn K c P = true ∧ K.lookup P = none
theorem tabE_of {K : PySem.W.Frag} {h : Heap} {c P : Addr} (h1 : h.get? P = some (PySem.W.tabObj #[])) (h2 : PySem.W.codeHdIn K c P = true) (h3 : K.lookup P = none) : TabE K h c P := ⟨h1, h2, h3⟩
/-! ### a op b op c op d, asked as a test -/
def tFour (r r2 r3 : R2) (ta tb tc td : TE) : TT := fun σ H Q => ta σ H fun x H1 => tb σ H1 fun y H2 => r x y H2 fun z H3 => ∃ k : Bool, z = .bl k ∧
  if k = true then (tc σ H3 fun y2 H4 => r2 y y2 H4 fun z2 H5 => ∃ k2 : Bool, z2 = .bl k2 ∧ if k2 = true then (td σ H5 fun y3 H6 => r3 y2 y3 H6 fun z3 H7 => ∃ k3 : Bool, z3 = .bl k3 ∧ Q k3 H7) else Q false H5) else Q false H3
theorem pt_four {X : Cx} {a b c d : Expr} {ta tb tc td : TE} {pos : Pos} {o1 o2 o3 : CmpOp} {r r2 r3 : R2} (h1 : OpR X (compareOp o1) r) (h2 : OpR X (compareOp o2) r2) (h3 : OpR X (compareOp o3) r3) (ha : PE X a ta) (hb : PE X b tb) (hc : PE X c tc) (hd : PE X d td)
    (hm : lastMarks [o1, o2, o3] [b, c, d] = false := by with_unfolding_all rfl) : PT X (.Compare a [o1, o2, o3] [b, c, d] pos) (tFour r r2 r3 ta tb tc td) := by
  constructor
  intro pins s0 σ H Q I0 w0
  refine PyProof.Rows.isTrue_chain ?_ hm
  refine thn (ha.run pins s0 σ H _ I0 w0) ?_
  rintro v sa ⟨x, Ha, Ia, rx, wa⟩
  refine PyProof.Rows.test_link ?_
  refine thn (hb.run pins sa σ Ha _ Ia wa) ?_
  rintro u sb ⟨y, Hb, Ib, ry, wb⟩
  refine thn (h1 pins sb σ Hb x y v u _ Ib rx ry wb) ?_
  rintro e1 sc ⟨z, Hc, Ic, rz, k, rfl, wc⟩
  cases rz
  refine wpAny_truthy_bool ?_
  cases k with
  | false => exact iteF ⟨Hc, Ic, wc⟩
  | true =>
    refine iteT (PyProof.Rows.test_link ?_)
    refine thn (hc.run pins sc σ Hc _ Ic wc) ?_
    rintro u2 sd ⟨y2, Hd, Id, ry2, wd⟩
    refine thn (h2 pins sd σ Hd y y2 u u2 _ Id ry ry2 wd) ?_
    rintro e2 se ⟨z2, He, Ie, rz2, k2, rfl, we⟩
    cases rz2
    refine wpAny_truthy_bool ?_
    cases k2 with
    | false => exact iteF ⟨He, Ie, we⟩
    | true =>
      refine iteT (PyProof.Rows.test_last ?_)
      refine thn (hd.run pins se σ He _ Ie we) ?_
      rintro u3 sf ⟨y3, Hf, If, ry3, wf⟩
      refine thn (h3 pins sf σ Hf y2 y3 u2 u3 _ If ry2 ry3 wf) ?_
      rintro e3 sg ⟨z3, Hg, Ig, rz3, k3, rfl, wg⟩
      cases rz3
      exact wpAny_truthy_bool ⟨Hg, Ig, wg⟩
/-! ### the making of errors -/
def spEI2 (C : Addr) (f g : Str) : Sp := fun vs H Q _ => ∃ a v u, vs = [.ref a, v, u] ∧ H a = some (L2.exo a C none) ∧ ∀ dx, H dx = none → dx ≠ a → Q .non (upd (upd (upd H dx (L2.exd dx [(f, v)])) a (L2.exo a C (some dx))) dx (L2.exd dx [(g, u), (f, v)]))
section
variable {P : Program} {w : World} {K : PySem.W.Frag} {mg : Str → Option Value} {base : Heap} {L : LA}
abbrev N_InvalidRowinit : List Str := ["self", "part", "at"]
theorem sc_InvalidRowinit : FnScope N_InvalidRowinit ["self", "part", "at"] (defScope st_InvalidRow_init) := ⟨rfl, rfl, rfl, by decide +kernel, rfl, by decide +kernel, by decide +kernel⟩
theorem fn_InvalidRowinit (T : LX K mg L) {fd : FuncData} (F : Fun K "__init__" "InvalidRow.__init__" st_InvalidRow_init L.i_InvalidRow fd) : FnOk P w K mg base CX0 1 L.i_InvalidRow fd ["self", "part", "at"] (spEI2 L.e_InvalidRow "part" "at") := by
  have nd := sc_InvalidRowinit.nd
  refine F.ok sc_InvalidRowinit (fun vs H Q E h => ?_) (fun cdv A outer S H vs Q E hr h => ?_)
  · obtain ⟨a, v, v2, rfl, _⟩ := h
    rfl
  · obtain ⟨a, v, v2, rfl, ha, k⟩ := h
    refine ⟨_, (pss_cons (ps_ae (pv 0) (pv 1))
       (pss_one (ps_ae (pv 0) (pv 2)))), ?_⟩
    exact ⟨_, rfl, _, rfl, a, L.e_InvalidRow, rfl, T.ae_InvalidRow, T.ne_InvalidRow_part, .inl ⟨ha, fun dx nx ne => ⟨_, rfl, _, rfl, a, L.e_InvalidRow, rfl, T.ae_InvalidRow, T.ne_InvalidRow_at, .inr ⟨dx, _, upd_same, by rw [upd_ne ne, upd_same], (by show 1 ≤ 900; decide), k dx nx ne⟩⟩⟩⟩
end
theorem mk_InvalidRow {X : Cx} {L : LA} (T : LX X.K X.mg L) (hr : Room 2 X.A) {e e2 : Expr} {ta : TA} {p pos : Pos} (hg : Gl X "InvalidRow") (ha : PA X [e, e2] ta)
    (he : starEach (e :: [e2]) X.env = (false, eval e X.env) :: starEach [e2] X.env := by rfl) (hpl : (backTo pos (starEach [e2] X.env)).any (·.1) = false := by rfl) :
    L2.PMk X (.Call (.Name "InvalidRow" p) [e, e2] [] pos) (L2.tMkO L.e_InvalidRow (spEI2 L.e_InvalidRow "part" "at") [] ta) := by
  obtain ⟨fd, F, b⟩ := T.in_InvalidRow
  exact pmk_ae T.ae_InvalidRow T.hi_InvalidRow T.ti_InvalidRow (fn_InvalidRowinit T F) hr b .nil pass0 hg T.ge_InvalidRow ha (by decide) he hpl
section
variable {P : Program} {w : World} {K : PySem.W.Frag} {mg : Str → Option Value} {base : Heap} {L : LA}
abbrev N_InvalidTimeinit : List Str := ["self", "time"]
theorem sc_InvalidTimeinit : FnScope N_InvalidTimeinit ["self", "time"] (defScope st_InvalidTime_init) := ⟨rfl, rfl, rfl, by decide +kernel, rfl, by decide +kernel, by decide +kernel⟩
theorem fn_InvalidTimeinit (T : LX K mg L) {fd : FuncData} (F : Fun K "__init__" "InvalidTime.__init__" st_InvalidTime_init L.i_InvalidTime fd) : FnOk P w K mg base CX0 1 L.i_InvalidTime fd ["self", "time"] (spEI1 L.e_InvalidTime "time") := by
  have nd := sc_InvalidTimeinit.nd
  refine F.ok sc_InvalidTimeinit (fun vs H Q E h => ?_) (fun cdv A outer S H vs Q E hr h => ?_)
  · obtain ⟨a, v, rfl, _⟩ := h
    rfl
  · obtain ⟨a, v, rfl, ha, k⟩ := h
    refine ⟨_, (pss_one (ps_ae (pv 0) (pv 1))), ?_⟩
    exact ⟨_, rfl, _, rfl, a, L.e_InvalidTime, rfl, T.ae_InvalidTime, T.ne_InvalidTime_time, .inl ⟨ha, fun dx nx ne => k dx nx ne⟩⟩
end
theorem mk_InvalidTime {X : Cx} {L : LA} (T : LX X.K X.mg L) (hr : Room 2 X.A) {e : Expr} {ta : TA} {p pos : Pos} (hg : Gl X "InvalidTime") (ha : PA X [e] ta)
    (he : starEach (e :: []) X.env = (false, eval e X.env) :: starEach [] X.env := by rfl) (hpl : (backTo pos (starEach [] X.env)).any (·.1) = false := by rfl) :
    L2.PMk X (.Call (.Name "InvalidTime" p) [e] [] pos) (L2.tMkO L.e_InvalidTime (spEI1 L.e_InvalidTime "time") [] ta) := by
  obtain ⟨fd, F, b⟩ := T.in_InvalidTime
  exact pmk_ae T.ae_InvalidTime T.hi_InvalidTime T.ti_InvalidTime (fn_InvalidTimeinit T F) hr b .nil pass0 hg T.ge_InvalidTime ha (by decide) he hpl
section
variable {P : Program} {w : World} {K : PySem.W.Frag} {mg : Str → Option Value} {base : Heap} {L : LA}
abbrev N_InvalidLoginit : List Str := ["self", "at"]
theorem sc_InvalidLoginit : FnScope N_InvalidLoginit ["self", "at"] (defScope st_InvalidLog_init) := ⟨rfl, rfl, rfl, by decide +kernel, rfl, by decide +kernel, by decide +kernel⟩
theorem fn_InvalidLoginit (T : LX K mg L) {fd : FuncData} (F : Fun K "__init__" "InvalidLog.__init__" st_InvalidLog_init L.i_InvalidLog fd) : FnOk P w K mg base CX0 1 L.i_InvalidLog fd ["self", "at"] (spEI1 L.e_InvalidLog "at") := by
  have nd := sc_InvalidLoginit.nd
  refine F.ok sc_InvalidLoginit (fun vs H Q E h => ?_) (fun cdv A outer S H vs Q E hr h => ?_)
  · obtain ⟨a, v, rfl, _⟩ := h
    rfl
  · obtain ⟨a, v, rfl, ha, k⟩ := h
    refine ⟨_, (pss_one (ps_ae (pv 0) (pv 1))), ?_⟩
    exact ⟨_, rfl, _, rfl, a, L.e_InvalidLog, rfl, T.ae_InvalidLog, T.ne_InvalidLog_at, .inl ⟨ha, fun dx nx ne => k dx nx ne⟩⟩
end
theorem mk_InvalidLog {X : Cx} {L : LA} (T : LX X.K X.mg L) (hr : Room 2 X.A) {e : Expr} {ta : TA} {p pos : Pos} (hg : Gl X "InvalidLog") (ha : PA X [e] ta)
    (he : starEach (e :: []) X.env = (false, eval e X.env) :: starEach [] X.env := by rfl) (hpl : (backTo pos (starEach [] X.env)).any (·.1) = false := by rfl) :
    L2.PMk X (.Call (.Name "InvalidLog" p) [e] [] pos) (L2.tMkO L.e_InvalidLog (spEI1 L.e_InvalidLog "at") [] ta) := by
  obtain ⟨fd, F, b⟩ := T.in_InvalidLog
  exact pmk_ae T.ae_InvalidLog T.hi_InvalidLog T.ti_InvalidLog (fn_InvalidLoginit T F) hr b .nil pass0 hg T.ge_InvalidLog ha (by decide) he hpl

/-! ### repr of plain lists, tuples and of the empty dict, whatever the guards are -/
theorem codeAny_guards {M : Model} {A : Around} {c : Code} {R : Result → Shared → Prop} {s : Shared} (h : ∀ g, codeAny M { A with guards := some g } c R s) : codeAny M A c R s := fun Γ p hc hb =>
  h (guardsOf Γ.below) Γ p hc ⟨hb.1, hb.2.1, hb.2.2.1, fun g' e => by cases e; rfl, hb.2.2.2.2⟩
def listGF (self : Value) : Code × Pos → Bool := fun
  | (.builtin "list.__repr__.loop" ⟨v :: _, _⟩, _) => Builtin.List.listSameRef v self
  | _ => false
theorem listGF_cons (self : Value) (id : String) (v : Value) (rest : List Value) (kw : List (Str × Value)) (p : Pos) : listGF self (.builtin id ⟨v :: rest, kw⟩, p) = (decide (id = "list.__repr__.loop") && Builtin.List.listSameRef v self) := by
  by_cases h : id = "list.__repr__.loop"
  · subst h
    simp [listGF]
  · unfold listGF
    split
    · simp_all
    · simp [h]
theorem listGF_nil (self : Value) (id : String) (kw : List (Str × Value)) (p : Pos) : listGF self (.builtin id ⟨[], kw⟩, p) = false := by
  unfold listGF
  split <;> simp_all
theorem listGF_pos (self : Value) (c : Code) (p : Pos) : listGF self (c, p) = listGF self (c, default) := by
  cases c with
  | builtin id args =>
    obtain ⟨pos, kw⟩ := args
    cases pos with
    | nil => rw [listGF_nil, listGF_nil]
    | cons v rest => rw [listGF_cons, listGF_cons]
  | _ => rfl
theorem listGF_off (self : Value) (c : Code) (p : Pos) (hc : c.isGuard = false) : listGF self (c, p) = false := by
  cases c with
  | builtin id args =>
    obtain ⟨pos, kw⟩ := args
    cases pos with
    | nil => exact listGF_nil _ _ _ _
    | cons v rest =>
      simp [Code.isGuard, guardIds] at hc
      rw [listGF_cons]
      simp [hc]
  | _ => rfl
def listHit (g : List Code) (a : Addr) : Bool := g.any fun c => listGF (.ref a) (c, default)
def tupHit (g : List Code) (a : Addr) : Bool := g.any fun c => tupGuardF (.ref a) (c, default)
def dictHit (g : List Code) (a : Addr) : Bool := g.any fun c => dictGuardF (.ref a) (c, default)
section
variable {prog : Program} {w : World} {A : Around} {E : Value → Shared → Prop} {s : Shared} {a : Addr} {g : List Code}
theorem own_list_repr {Q : Fin → Shared → Prop} {o : Obj} {x : Value} {l : List Value} {n : Nat} {c : Code} {b : Nat} (hg : A.guards = some g) (hget : s.heap.get? a = some o) (hd : o.data = .seq (x :: l).toArray n)
    (h1 : listHit g a = true → Q (.done (.ret (.str "[...]" s.toks))) { s with toks := s.toks + 1 })
    (h2 : listHit g a = false → wpAny (model prog w) (A.under c) (do again (.builtin "list.__repr__.loop" ⟨[.ref a, rawInt 0, ← newList [], rawInt b], []⟩)) Q E s) :
    wpOwn (model prog w) A c (Builtin.listReprAt b ⟨[.ref a], []⟩) Q E s := by
  intro Γ p hc hb
  have e : Γ.below.any (listGF (.ref a)) = listHit g a := by
    rw [any_eq_guards (listGF_off _) (listGF_pos _), hb.2.2.2.1 g hg]
    rfl
  unfold Builtin.listReprAt
  simp [slotArgs, Builtin.List.listItems, seqItems?, Sem.wp_load_of (h := hget), hd, stack]
  show Sem.wp (model prog w) Γ (if (Γ.below.any (listGF (.ref a))) = true then _ else _) _ _ p s
  rw [e]
  cases q : listHit g a with
  | true =>
    rw [if_pos rfl]
    simp [rule, retStr, ret]
    exact h1 q
  | false =>
    rw [if_neg Bool.false_ne_true]
    exact h2 q Γ p (hc ▸ hb.in)
theorem call_list_flat {Q : Value → Shared → Prop} {oa : Obj} {x : Value} {l : List Value} {na : Nat} {ts : List Str} (hTy : s.TypeIs (.ref a) "list") (hg : A.guards = some g)
    (ha : s.heap.get? a = some oa) (hda : oa.data = .seq (x :: l).toArray na) (hlen : ts.length = (x :: l).toArray.size)
    (hT : ∀ (i : Nat) (y : Value), (x :: l).toArray[i]? = some y → ∃ t, ts[i]? = some t ∧ ReprIs prog w y t)
    (hQ : ∀ h' u tk, (∀ b o, s.heap.get? b = some o → h'.get? b = some o) → Q (.str (if listHit g a then "[...]" else listText ts) u) { s with heap := h', toks := tk })
    (hsz : (listText ts).length ≤ sizeLine) : wpAny (model prog w) A (call (.builtin "list.__repr__") [.ref a]) Q E s := by
  refine wpAny_call (codeAny_call_builtin_own (Code.quiet_builtin _ (by decide +kernel)) F.entry_list_repr (F.slot_list_repr.check _ _ _ _ _ _ _ _ hTy (F.args_list_repr_1 _) (own_list_repr (b := 0) hg ha hda (fun q => ?_) fun q => ?_)))
  · have := hQ s.heap s.toks (s.toks + 1) fun _ _ z => z
    rw [q, if_pos rfl] at this
    exact this
  · have hQ : ∀ h' u tk, (∀ b o, s.heap.get? b = some o → h'.get? b = some o) → Q (.str (listText ts) u) { s with heap := h', toks := tk } := fun h' u tk k => by
      have := hQ h' u tk k
      rw [q, if_neg Bool.false_ne_true] at this
      exact this
    refine wpAny_bind (m := newList []) (wpAny_newObj_type ?_)
    refine wpAny_pure ⟨F.quiet_list_repr_loop _, ?_⟩
    exact codeAny_list_repr_start (P := s.heap.objs.size) (Nat.ne_of_lt (Heap.lt_size ha)) hlen hT (Heap.get?_push_of_some _ ha) hda (Heap.get?_push_size _ rfl) (fun h' u tk k => hQ h' u tk fun b o z => k b o (Nat.ne_of_lt (Heap.lt_size z)) (Heap.get?_push_of_some _ z)) (by omega)
theorem call_tup_flat {Q : Value → Shared → Prop} {o : Obj} {items : Array Value} {n : Nat} {ts : List Str} (hTy : s.TypeIs (.ref a) "tuple") (hg : A.guards = some g) (ha : s.heap.get? a = some o) (hd : o.data = .seq items n) (hT : ReprAll prog w items.toList ts)
    (hQ : ∀ u tk, Q (.str (if tupHit g a then "(...)" else tupleText ts) u) { s with toks := tk }) (hsz : (tupleText ts).length ≤ sizeLine) : wpAny (model prog w) A (call (.builtin "tuple.__repr__") [.ref a]) Q E s := by
  refine wpAny_call (codeAny_call_builtin_own (Code.quiet_builtin _ (by decide +kernel)) F.entry_tuple_repr (F.slot_tuple_repr.check _ _ _ _ _ _ _ _ hTy (F.args_tuple_repr_1 _) ?_))
  show wpOwn _ _ _ (Builtin.tupleReprAt 0 ⟨[.ref a], []⟩) _ _ _
  rw [tuple_repr_tree, tupleReprUnderWay_eq]
  refine wpOwn_bind (wpOwn_stackTailAny hg (tupGuardF_off _) (tupGuardF_pos _) ?_)
  cases q : (g.any fun c => tupGuardF (.ref a) (c, default)) with
  | true =>
    have q : tupHit g a = true := q
    rw [if_pos rfl]
    refine wpOwn_of_wpAny ?_
    have := hQ s.toks (s.toks + 1)
    rw [q, if_pos rfl] at this
    intro Γ p hΓ
    simp [rule, retStr, ret]
    exact this
  | false =>
    have q : tupHit g a = false := q
    rw [if_neg Bool.false_ne_true]
    refine wpOwn_of_wpAny (wpAny_tupleReprRest ha hd hT (fun u tk => ?_) (by omega))
    have := hQ u tk
    rw [q, if_neg Bool.false_ne_true] at this
    exact this
end
theorem call_dict_flat {prog : Program} {w : World} {A : Around} {E : Value → Shared → Prop} {s : Shared} {a : Addr} {g : List Code} {Q : Value → Shared → Prop} {o : Obj} {n : Nat} (hTy : s.TypeIs (.ref a) "dict") (hg : A.guards = some g) (ha : s.heap.get? a = some o) (hd : o.data = .dict #[] n) (hsys : (a == sysModules) = false)
    (hQ : ∀ u tk, Q (.str (if dictHit g a then "{...}" else "{}") u) { s with toks := tk }) : wpAny (model prog w) A (call (.builtin "dict.__repr__") [.ref a]) Q E s := by
  refine wpAny_call (codeAny_call_builtin_own (Code.quiet_builtin _ (by decide +kernel)) F.entry_dict_repr (F.slot_dict_repr.check _ _ _ _ _ _ _ _ hTy (F.args_dict_repr_1 _) ?_))
  show wpOwn _ _ _ (Builtin.dictReprAt 0 ⟨[.ref a], []⟩) _ _ _
  unfold Builtin.dictReprAt
  refine wpOwn_bind (wpOwn_of_wpAny ?_)
  unfold Builtin.Dict.dictSlotNone
  refine wpAny_bind (wpAny_notOrdered_dict hTy ?_)
  show wpAny _ _ (pure (Value.ref a)) _ _ s
  refine wpAny_pure ?_
  rw [dictReprRunning_eq]
  refine wpOwn_bind (wpOwn_stackTailAny hg (dictGuardF_off _) (dictGuardF_pos _) ?_)
  cases q : (g.any fun c => dictGuardF (.ref a) (c, default)) with
  | true =>
    have q : dictHit g a = true := q
    rw [if_pos rfl]
    refine wpOwn_of_wpAny ?_
    have := hQ s.toks (s.toks + 1)
    rw [q, if_pos rfl] at this
    intro Γ p hΓ
    simp [rule, retStr, ret]
    exact this
  | false =>
    have q : dictHit g a = false := q
    rw [if_neg Bool.false_ne_true]
    refine wpOwn_of_wpAny ?_
    show wpAny _ _ (Builtin.Dict.addrOf (.ref a) >>= _) _ _ s
    refine wpAny_bind (wpAny_pure ?_)
    show wpAny _ _ (Builtin.Dict.showsAll a >>= _) _ _ s
    unfold Builtin.Dict.showsAll
    rw [if_neg (by rw [hsys]; exact Bool.false_ne_true)]
    refine wpAny_bind (wpAny_pure ?_)
    refine wpAny_bind (wpAny_dictEpoch ha hd ?_)
    refine wpAny_bind (wpAny_dictEntries ha hd ?_)
    have := hQ s.toks (s.toks + 1)
    rw [q, if_neg Bool.false_ne_true] at this
    intro Γ p hΓ
    simp [rule, retStr, ret]
    exact this
/-! ### repr as a rule of the hand layer -/
inductive ReprG (g : List Code) (H : Hp) : V → Str → Prop
  | plain {v : V} {s : Str} (h : ReprV v s) : ReprG g H v s
  | lst {a : Addr} {x : V} {xs : List V} {ts : List Str} (e : H a = some (.lst (x :: xs))) (h : Paired ReprV (x :: xs) ts) (z : (listText ts).length ≤ sizeLine) : ReprG g H (.ref a) (if listHit g a then "[...]" else listText ts)
  | tup {a : Addr} {xs : List V} {ts : List Str} (e : H a = some (.tup xs)) (h : Paired ReprV xs ts) (z : (tupleText ts).length ≤ sizeLine) : ReprG g H (.ref a) (if tupHit g a then "(...)" else tupleText ts)
  | dic {a : Addr} (e : H a = some (.dK [])) : ReprG g H (.ref a) (if dictHit g a then "{...}" else "{}")
theorem ReprV.one {v : V} {s s' : Str} (h : ReprV v s) (h' : ReprV v s') : s = s' := by
  cases h <;> cases h' <;> rfl
theorem reprs_one {xs : List V} {ts us : List Str} (h : Paired ReprV xs ts) : Paired ReprV xs us → ts = us := by
  induction h generalizing us with
  | nil => intro h'; cases h'; rfl
  | cons a _ ih => intro h'; cases h' with | cons b t => rw [a.one b, ih t]
theorem ReprG.one {g : List Code} {H : Hp} {v : V} {s s' : Str} (h : ReprG g H v s) (h' : ReprG g H v s') : s = s' := by
  cases h with
  | plain h =>
    cases h' with
    | plain h' => exact h.one h'
    | _ => cases h
  | lst e h z =>
    cases h' with
    | plain h' => cases h'
    | lst e' h' z' =>
      rw [e] at e'
      cases e'
      rw [reprs_one h h']
    | tup e' => rw [e] at e'; cases e'
    | dic e' => rw [e] at e'; cases e'
  | tup e h z =>
    cases h' with
    | plain h' => cases h'
    | lst e' => rw [e] at e'; cases e'
    | tup e' h' z' =>
      rw [e] at e'
      cases e'
      rw [reprs_one h h']
    | dic e' => rw [e] at e'; cases e'
  | dic e =>
    cases h' with
    | plain h' => cases h'
    | lst e' => rw [e] at e'; cases e'
    | tup e' => rw [e] at e'; cases e'
    | dic e' => rfl
theorem ReprG.mv {g : List Code} {H H' : Hp} {v : V} {s : Str} (h : ReprG g H v s) (k : ∀ a o, v = .ref a → H a = some o → (∀ ps, o ≠ .tbl ps) → H' a = some o) : ReprG g H' v s := by
  cases h with
  | plain h => exact .plain h
  | lst e h z => exact .lst (k _ _ rfl e fun _ q => nomatch q) h z
  | tup e h z => exact .tup (k _ _ rfl e fun _ q => nomatch q) h z
  | dic e => exact .dic (k _ _ rfl e fun _ q => nomatch q)
theorem ReprV.is {prog : Program} {w : World} {v : V} {s : Str} {u : Value} (h : ReprV v s) (r : RelV v u) : ReprIs prog w u s := by
  cases h with
  | int i h =>
    obtain ⟨t, rfl⟩ := r
    exact ReprIs.int t h
  | non =>
    cases r
    exact ReprIs.none
  | bl b =>
    cases r
    cases b
    · exact ReprIs.bool false
    · exact ReprIs.bool true
  | str x h =>
    obtain ⟨t, rfl⟩ := r
    exact ReprIs.str x t h
theorem reprs_is {prog : Program} {w : World} : ∀ {xs : List V} {ts : List Str} {us : List Value}, Paired ReprV xs ts → Vals xs us → ReprAll prog w us ts
  | _, _, _, .nil, .nil => .nil
  | _, _, _, .cons h t, .cons r rs => .cons (h.is r) (reprs_is t rs)
theorem reprs_len {xs : List V} {ts : List Str} (h : Paired ReprV xs ts) : xs.length = ts.length := by
  induction h with
  | nil => rfl
  | cons _ _ ih => rw [List.length_cons, List.length_cons, ih]
theorem reprs_at {prog : Program} {w : World} : ∀ {us : List Value} {ts : List Str}, ReprAll prog w us ts → ∀ (i : Nat) (y : Value), us[i]? = some y → ∃ t, ts[i]? = some t ∧ ReprIs prog w y t
  | _, _, .nil, i, y, h => by simp at h
  | _, _, .cons h _, 0, y, e => by
    cases e
    exact ⟨_, rfl, h⟩
  | _, _, .cons _ t, i + 1, y, e => reprs_at t i y e
theorem call_reprG {X : Cx} {g : List Code} (hg : X.A.guards = some g) (hu : X.A.units + 64 < cLine) : CallR X (.builtin "repr") (fun xs H Q => ∃ v s, xs = [v] ∧ ReprG g H v s ∧ Q (.str s) H) := by
  rintro pins s σ H xs us Q I r ⟨v, x, rfl, h, q⟩
  cases h with
  | plain h => exact call_reprP pins s σ H [v] us Q I r ⟨v, x, rfl, h, q⟩
  | @lst a y ys ts e h z =>
    match us, r with
    | [_], .cons rx .nil =>
      cases rx
      obtain ⟨_, its, n, rv, ho⟩ := I.hok a _ e
      have hTy : s.TypeIs (.ref a) "list" := ⟨_, ho, rfl⟩
      cases rv with
      | cons r1 rs =>
        have ra := reprs_is (prog := X.prog) (w := X.w) h (.cons r1 rs)
        refine PySem.call_repr_slot (by omega) hTy F.slot_list_repr.toG (call_list_flat hTy hg ho rfl (by rw [← reprs_len h]; simp [rs.length]) (fun i y' hy => reprs_at ra i y' (by simpa using hy)) (fun h' u tk k => ⟨_, _, rfl, ⟨.str _, H, I.kept k, ⟨_, rfl⟩, q⟩⟩) z)
  | @tup a ys ts e h z =>
    match us, r with
    | [_], .cons rx .nil =>
      cases rx
      obtain ⟨_, its, rv, p⟩ := I.hok a _ e
      obtain ⟨⟨tc, tdd, tda, tsl⟩, hto, htc, n, htd⟩ := p
      dsimp only at htc htd
      subst htc htd
      have hTy : s.TypeIs (.ref a) "tuple" := ⟨_, hto, rfl⟩
      exact PySem.call_repr_slot (by omega) hTy F.slot_tuple_repr (call_tup_flat hTy hg hto rfl (by simpa using reprs_is h rv) (fun u tk => ⟨_, _, rfl, ⟨.str _, H, I.kept (t' := tk) fun _ _ z => z, ⟨_, rfl⟩, q⟩⟩) z)
  | @dic a e =>
    match us, r with
    | [_], .cons rx .nil =>
      cases rx
      obtain ⟨_, hsys, kvs, kv, o, es, ep, ho, ex, hd, kk, pr, _⟩ := I.hok a _ e
      cases kv
      have e0 : es = #[] := by
        have : es.toList = [] := by cases hh : es.toList with
          | nil => rfl
          | cons _ _ => rw [hh] at pr; cases pr
        exact Array.toList_eq_nil_iff.mp this
      subst e0
      have hTy : s.TypeIs (.ref a) "dict" := ⟨o, ho, ex.1⟩
      exact PySem.call_repr_slot (by omega) hTy F.slot_dict_repr (call_dict_flat hTy hg ho hd hsys fun u tk => ⟨_, _, rfl, ⟨.str _, H, I.kept (t' := tk) fun _ _ z => z, ⟨_, rfl⟩, q⟩⟩)
/-! ### try with several clauses, some of them naming their error -/
/-- a clause: what it names (a class), the slot of its name if it has one, its suite's reading -/
abbrev ClauseT := Value × Option Nat × (Addr → Value → Option Addr → TS)
def endsX (i : Nat) (D : Ends) : Ends := { nx := fun σ H => D.nx (σ.set i none) H, rt := D.rt, bk := fun σ H => D.bk (σ.set i none) H, ct := fun σ H => D.ct (σ.set i none) H }
/-- what the clauses, one behind another, ask of an error of the body -/
def wMix (K : PySem.W.Frag) (Wout : L2.WX) (D : Ends) : List ClauseT → L2.WX
  | [] => Wout
  | (c, none, ts) :: r => fun cls d σ H => ∃ b, PySem.W.exmOne K cls c = some b ∧ (b = true → ∀ a, H a = none → ts a cls d D σ H) ∧ (b = false → wMix K Wout D r cls d σ H)
  | (c, some i, ts) :: r => fun cls d σ H => ∃ b, PySem.W.exmOne K cls c = some b ∧ (b = true → ∀ a, H a = none → ts a cls d (endsX i D) (σ.set i (some (.ref a))) H) ∧ (b = false → wMix K Wout D r cls d σ H)
inductive ClsOk (X : Cx) : List ExceptHandler → List ClauseT → Prop
  | nil : ClsOk X [] []
  | plain {x : Str} {c : Value} {ts : Addr → Value → Option Addr → TS} {b₀ : Stmt} {suite : List Stmt} {np p2 : Pos} {hds : List ExceptHandler} {l : List ClauseT} (hc : L2.Names X x c)
      (hsu : ∀ (a : Addr) (oe : Obj) (cls : Value) (d : Option Addr) (pn : List (Addr × Obj)), L2.Zc cls d oe → (∃ vs, oe.data = .fields vs) → PSs (X.suite a ((a, oe) :: pn)) (b₀ :: suite) (ts a cls d)) (r : ClsOk X hds l) : ClsOk X (.ExceptHandler (some (.Name x np)) none (b₀ :: suite) p2 :: hds) ((c, none, ts) :: l)
  | named {x n : Str} {c : Value} {i : Nat} {ts : Addr → Value → Option Addr → TS} {b₀ : Stmt} {suite : List Stmt} {np p2 : Pos} {hds : List ExceptHandler} {l : List ClauseT} (hc : L2.Names X x c) (hi : X.N[i]? = some n) (hln : X.env.kindOf n = some .local)
      (hsu : ∀ (a : Addr) (oe : Obj) (cls : Value) (d : Option Addr) (pn : List (Addr × Obj)), L2.Zc cls d oe → (∃ vs, oe.data = .fields vs) → PSs (X.suite a ((a, oe) :: pn)) (b₀ :: suite) (ts a cls d)) (r : ClsOk X hds l) : ClsOk X (.ExceptHandler (some (.Name x np)) (some n) (b₀ :: suite) p2 :: hds) ((c, some i, ts) :: l)
section
variable {X : Cx} {body : List Stmt} {h₀ : ExceptHandler} {hds : List ExceptHandler} {l : List ClauseT} {pos : Pos} {tb : L2.WX → TS} {Wout : L2.WX}
theorem ps_try_mix (stk : X.stack = X.env :: X.outer) (frm : X.env.frame = some X.env.locals) (nd : X.N.Nodup) (tk : L2.Takes X Wout)
    (hbody : ∀ (W : L2.WX) (pn : List (Addr × Obj)) (xe : Value → Shared → Prop), L2.Takes (X.tr pn xe) W → PassesOwn (model X.prog X.w) X.A X.env xe → PSs (X.tr pn xe) body (tb W)) (hcl : ClsOk X (h₀ :: hds) l) :
    PS X (.Try body (h₀ :: hds) [] [] pos) (fun D σ H => tb (wMix X.K Wout D l) D σ H) := by
  refine ⟨fun pins s σ H D I start => ?_⟩
  have good := I.ok
  have frames : X.A.frames = some (X.env :: X.outer) := by rw [good.frames, stk]
  refine wpAny_Try_except ?_
  refine wpAny_mono ((hbody (wMix X.K Wout D l) (X.pn ++ pins) (fun er sA => wpAny (model X.prog X.w) X.A (noteFrame er X.env) (fun _ sB => wpAny (model X.prog X.w) X.A (setFlight er none) (fun _ sC => wpAny (model X.prog X.w) X.A (handleBy er X.env (h₀ :: hds)) (SP X pins D) X.xe sC) X.xe sB) X.xe sA) (fun u sX flying => ?_) PassesOwn.looking).run [] s σ H D (I.toTry _) start) (fun fl sN ended => ?_) (fun er sE out => out)
  rotate_left
  · match fl, ended with
    | .next, ⟨_, _, JN, q⟩ => exact wpAny_execs_nil ⟨_, _, JN.ofTry good, q⟩
    | .brk, ⟨_, _, JN, q⟩ => exact ⟨_, _, JN.ofTry good, q⟩
    | .cont, ⟨_, _, JN, q⟩ => exact ⟨_, _, JN.ofTry good, q⟩
    | .ret _, ⟨_, _, _, JN, r, q⟩ => exact ⟨_, _, _, JN.ofTry good, r, q⟩
  obtain ⟨ea, Bs, sI, pinsI, σI, HI, cls, d, rfl, JI, nbase, upS, skyS, fresh, osE, bareE, wished⟩ := flying
  have J := JI.ofTry good
  have skyX : L2.Sky Bs (X.env :: X.outer) ea (L2.Zc cls d) X.env.locals sX.heap := stk ▸ skyS
  show wpAny (model X.prog X.w) X.A (noteFrame (.ref ea) X.env) _ _ _
  refine L2.Sky.land L2.Zc.steady frames frm skyX fun hL flL upL => ?_
  have JL : Inv X pins σI HI { sX with heap := hL } := J.landed nbase flL.1 (upS.trans upL) osE bareE
  obtain ⟨oL, vL, getL, zL, dataL⟩ := flL.there
  have noFrame : ea ∉ frs (X.env :: X.outer) := fun mem => by
    obtain ⟨_, oM, getM, notFields⟩ := flL.2.2.1.mem mem
    rw [getL] at getM
    exact notFields _ (by cases getM; exact dataL)
  have notLocals : ea ≠ X.env.locals := fun eq => noFrame (List.mem_filterMap.mpr ⟨X.env, List.mem_cons_self, by rw [frm, eq]⟩)
  have notOuter : ea ∉ X.fs := fun mem => let ⟨en, inO, fr⟩ := List.mem_filterMap.mp mem; noFrame (List.mem_filterMap.mpr ⟨en, List.mem_cons_of_mem _ inO, fr⟩)
  have SL := JL.suite getL dataL fresh notLocals notOuter
  have named : ∀ {x : Str} {c : Value} {np : Pos} {Q E : Value → Shared → Prop}, L2.Names X x c → Q c { sX with heap := hL } → wpAny (model X.prog X.w) (X.A.mark (some (.ref ea))) (eval (.Name x np) X.env) Q E { sX with heap := hL } := by
    rintro x c np Q E ⟨glob, dbg, own | ⟨free, boot, notNone⟩⟩ goal
    · exact L2.ld_glob (X := X.suite ea ((ea, oL) :: (X.pn ++ pins))) SL glob own goal dbg
    · exact L2.ld_blt (X := X.suite ea ((ea, oL) :: (X.pn ++ pins))) SL glob free boot goal notNone dbg
  have typed : PySem.W.Looks (model X.prog X.w) hL (typeOf (.ref ea)) cls := fun _ _ _ _ more res => wpAny_typeOf_ref (more _ _ getL) (by rw [zL.1]; exact res)
  have walk : ∀ {hs2 : List ExceptHandler} {l2 : List ClauseT}, ClsOk X hs2 l2 → wMix X.K Wout D l2 cls d σI HI → wpAny (model X.prog X.w) X.A (handleBy (.ref ea) X.env hs2) (SP X pins D) X.xe { sX with heap := hL } := by
    intro hs2 l2 ok2
    induction ok2 with
    | nil =>
      intro wish
      refine wpAny_handleBy_nil ?_
      have flown := flL
      obtain ⟨_, _, _, oF, vF, TF, oT, _, getF, zF, dataF, tbF, _⟩ := flown
      unfold PySem.passOn
      refine wpAny_bind (wpAny_field getF dataF tbF ?_)
      rw [if_neg (by simp : ¬ ((Value.ref TF == Value.none) = true))]
      have up : wpAny (model X.prog X.w) X.A (setFlight (.ref ea) X.env.frame) (fun _ sU => wpAny (model X.prog X.w) X.A (throw (.ref ea) : Sem Flow) (SP X pins D) X.xe sU) X.xe { sX with heap := hL } := by
        rw [frm]
        exact HandSPX.setFlight_upZ flL fun hU heldU upU => wpAny_throw (tk _ _ ⟨ea, Bs, sI, pins, σI, HI, cls, d, rfl, J, nbase, (upS.trans upL).trans upU, .inr (.inr (stk ▸ heldU)), fresh, osE, bareE, wish⟩)
      first
        | exact wpAny_bind up
        | exact wpAny_bind (wpAny_pure (wpAny_bind up))
    | @plain x c ts b₀ suite np p2 hds3 l3 hc hsu r ih =>
      rintro ⟨b, look, yes, no⟩
      refine wpAny_handleBy_cons (codeAny_handlers_test ?_) (fun q => nomatch q)
      refine named hc ((PySem.W.exm_one (M := model X.prog X.w) JL.kIn typed look).here ?_)
      cases b with
      | false => exact ih (no rfl)
      | true =>
        refine codeAny_handlers_suite (HandSPX.lands_againZ flL fun hM flM upM => ?_)
        obtain ⟨oM, vM, getM, zM, dataM⟩ := flM.there
        have JM : Inv X pins σI HI { sX with heap := hM } := J.landed nbase flM.1 ((upS.trans upL).trans upM) osE bareE
        have SM := JM.suite getM dataM fresh notLocals notOuter
        refine wpAny_mono ((hsu ea oM cls d (X.pn ++ pins) zM ⟨_, dataM⟩).run [] _ _ HI _ SM (yes rfl ea fresh)) (fun fl sE done_ => ?_) (fun _ _ z => z.elim)
        match fl, done_ with
        | .next, ⟨_, _, SE, q⟩ => exact ⟨_, _, SE.unsuite good, q⟩
        | .brk, ⟨_, _, SE, q⟩ => exact ⟨_, _, SE.unsuite good, q⟩
        | .cont, ⟨_, _, SE, q⟩ => exact ⟨_, _, SE.unsuite good, q⟩
        | .ret _, ⟨_, _, _, SE, rv, q⟩ => exact ⟨_, _, _, SE.unsuite good, rv, q⟩
    | @named x n c i ts b₀ suite np p2 hds3 l3 hc hi hln hsu r ih =>
      rintro ⟨b, look, yes, no⟩
      refine wpAny_handleBy_cons (codeAny_handlers_test ?_) (fun q => nomatch q)
      refine named hc ((PySem.W.exm_one (M := model X.prog X.w) JL.kIn typed look).here ?_)
      cases b with
      | false => exact ih (no rfl)
      | true =>
        refine codeAny_handlers_suite_as (HandSPX.lands_againZ flL fun hM flM upM => ?_)
        obtain ⟨oM, vM, getM, zM, dataM⟩ := flM.there
        have JM : Inv X pins σI HI { sX with heap := hM } := J.landed nbase flM.1 ((upS.trans upL).trans upM) osE bareE
        have SM := JM.suite getM dataM fresh notLocals notOuter
        refine L2.store_ok (X := X.suite ea ((ea, oM) :: (X.pn ++ pins))) (v := .ref ea) SM nd hi (.inl hln) rfl (fun sB SB => ?_) (.inr hln)
        refine wpAny_mono ((hsu ea oM cls d (X.pn ++ pins) zM ⟨_, dataM⟩).run [] sB _ HI _ SB (yes rfl ea fresh)) (fun fl sE done_ => ?_) (fun _ _ z => z.elim)
        have gone : ∀ {σ6 : L2.St} {H6 : Hp} {Q : Shared → Prop}, Inv (X.suite ea ((ea, oM) :: (X.pn ++ pins))) [] σ6 H6 sE → (∀ sG, Inv X pins (σ6.set i none) H6 sG → Q sG) → wpAny (model X.prog X.w) X.A (do bindName X.env n .none; unbindBehindTheSuite X.env n p2) (fun _ sG => Q sG) X.xe sE :=
          fun SE more => L2.gone_ok (SE.unsuite good) nd hi hln more
        match fl, done_ with
        | .next, ⟨_, _, SE, q⟩ => exact gone SE fun _ JG => ⟨_, _, JG, q⟩
        | .brk, ⟨_, _, SE, q⟩ => exact gone SE fun _ JG => ⟨_, _, JG, q⟩
        | .cont, ⟨_, _, SE, q⟩ => exact gone SE fun _ JG => ⟨_, _, JG, q⟩
        | .ret _, ⟨_, _, _, SE, rv, q⟩ => exact gone SE fun _ JG => ⟨_, _, _, JG, rv, q⟩
  exact walk hcl wished
end
/-! ### defs whose bodies know of the guards around them -/
theorem FunT.okG {P : Program} {w : World} {K : PySem.W.Frag} {mg : Str → Option Value} {base : Heap} {x q : Str} {st : Stmt} {f c : Addr} {fd : FuncData} {N ps : List Str} {k : Nat} {sp : Sp} (F : FunT K x q st f c fd) (S : FnScope N ps (defScope st)) (len : ∀ vs H Q E, sp vs H Q E → vs.length = ps.length)
    (hbody : ∀ (g : List Code) (A : Around) (outer : List Env) (s : Shared) (H : Hp) (vs : List V) (Q : VK) (E : XK), A.guards = some g → Room k (A.deeper (PyProof.Rows.envOfC q (defScope st) s.heap.objs.size f (.ref c))) → sp vs H Q E →
      ∃ t, PSs (cxOf CX0 P w K mg base N q (defScope st) f (.ref c) A outer s H E).nox (defBody st) t ∧ t { nx := fun _ H' => Q .non H', rt := Q } (start N vs) H) : FnOk P w K mg base CX0 (k + 1) f fd ps sp := by
  obtain ⟨oc, od, kV, doc, pm, an, ct, osl, rfl, lk, hcd⟩ := F.ex
  refine ⟨len, fun A outer s H args us vs Q E hr e0 hb r hsp => codeAny_guards fun g => ?_⟩
  refine LamX.run_ofS (A := { A with guards := some g }) lk hcd S (N := N) ⟨hr.hd, hr.dp, hr.un⟩ ⟨e0.frames, e0.mod, e0.bs, e0.bsz, e0.funs, e0.frf, e0.hok, e0.bare⟩ hb r (len _ _ _ _ hsp) fun hr2 => ?_
  obtain ⟨t, h, z⟩ := hbody g { A with guards := some g } outer s H vs Q E rfl hr2 hsp
  exact ⟨t, h.nox, z⟩
theorem Fun.okG {P : Program} {w : World} {K : PySem.W.Frag} {mg : Str → Option Value} {base : Heap} {x q : Str} {st : Stmt} {f : Addr} {fd : FuncData} {N ps : List Str} {k : Nat} {sp : Sp} (F : Fun K x q st f fd) (S : FnScope N ps (defScope st)) (len : ∀ vs H Q E, sp vs H Q E → vs.length = ps.length)
    (hbody : ∀ (cdv : Value) (g : List Code) (A : Around) (outer : List Env) (s : Shared) (H : Hp) (vs : List V) (Q : VK) (E : XK), A.guards = some g → Room k (A.deeper (PyProof.Rows.envOfC q (defScope st) s.heap.objs.size f cdv)) → sp vs H Q E →
      ∃ t, PSs (cxOf CX0 P w K mg base N q (defScope st) f cdv A outer s H E).nox (defBody st) t ∧ t { nx := fun _ H' => Q .non H', rt := Q } (start N vs) H) : FnOk P w K mg base CX0 (k + 1) f fd ps sp := by
  obtain ⟨oc, od, kV, doc, pm, an, cdv, ct, osl, rfl, lk, hcd⟩ := F.ex
  refine ⟨len, fun A outer s H args us vs Q E hr e0 hb r hsp => codeAny_guards fun g => ?_⟩
  refine LamX.run_ofS (A := { A with guards := some g }) lk hcd S (N := N) ⟨hr.hd, hr.dp, hr.un⟩ ⟨e0.frames, e0.mod, e0.bs, e0.bsz, e0.funs, e0.frf, e0.hok, e0.bare⟩ hb r (len _ _ _ _ hsp) fun hr2 => ?_
  obtain ⟨t, h, z⟩ := hbody cdv g { A with guards := some g } outer s H vs Q E rfl hr2 hsp
  exact ⟨t, h.nox, z⟩
theorem deeper_guards {A : Around} {env : Env} {g : List Code} (h : A.guards = some g) : (A.deeper env).guards = some g := h
/-! ### methods and makings that may raise -/
structure MetX (P : Program) (w : World) (K : PySem.W.Frag) (mg : Str → Option Value) (base : Heap) (C : Addr) (m : Str) (k : Nat) (f : Addr) (ps : List Str) (sp : Sp) : Prop where
  ex : ∃ fd, FnOk P w K mg base (L2.CX P w) k f fd ps sp ∧ Binds K fd ps []
  me : Meth K C m f
theorem Mth.metX {P : Program} {w : World} {K : PySem.W.Frag} {mg : Str → Option Value} {base : Heap} {C : Addr} {m q : Str} {st : Stmt} {f : Addr} {ps : List Str} {k : Nat} {sp : Sp} (D : Mth K C m q st f ps) (h : ∀ fd, Fun K m q st f fd → FnOk P w K mg base (L2.CX P w) k f fd ps sp) : MetX P w K mg base C m k f ps sp := by
  obtain ⟨fd, F, b⟩ := D.ex
  exact ⟨⟨fd, h fd F, b⟩, ⟨D.at_, D.fn, F.kp⟩⟩
theorem pass1 {X : Cx} {E : XK} (tk : L2.Takes X fun cls d _ H => E cls d H) : Passes (L2.CX X.prog X.w) X E := fun pins σ H s e s' I c => L2.passAt tk σ pins H s e s' I c
theorem MetX.p_m1 {X : Cx} {C : Addr} {k : Nat} {f : Addr} {ps : List Str} {sp : Sp} {E : XK} {m : Str} {o e : Expr} {es : List Expr} {ta : TE} {t : TA} {apos pos : Pos} {pl : Sem Bool} (c : MetX X.prog X.w X.K X.mg X.base C m k f ps sp) (tk : L2.Takes X fun cls d _ H => E cls d H) (cl : Cls X.K C) (hr : Room k X.A) (he : PE X o ta) (ha : PA X (e :: es) t)
    (hst : starEach (e :: es) X.env = (false, eval e X.env) :: starEach es X.env := by rfl) (hpl : (backTo pos (starEach es X.env)).any (·.1) = false := by rfl)
    (ht : eval (.Call (.Attribute o m apos) (e :: es) [] pos) X.env = (do let ov ← eval o X.env; standAt apos.atName; let (f, first) ← holding [ov] (getMethod ov m pl); callWith pos f first (backTo pos (starEach (e :: es) X.env)) (backToKw pos (keywordEach [] X.env))) := by rfl) :
    PE X (.Call (.Attribute o m apos) (e :: es) [] pos) (tMeth C m sp [] E ta t) := by
  obtain ⟨fd, F, b⟩ := c.ex
  exact pe_meth he cl c.me F hr b .nil (pass1 tk) ha hst hpl ht
theorem raise2 {C : Addr} {f g : Str} {v u : V} {H : Hp} {Q E : XK} (k : ∀ d H', H' d = some (.xd [(g, u), (f, v)]) → Same H H' → Q (.ref C) (some d) H') : ∀ a, H a = none → spEI2 C f g [.ref a, v, u] (upd H a (L2.exo a C none))
    (fun x H2 => x = .non ∧ ∃ (d : Addr) (fs : List (Str × V)), H2 a = some (L2.exo a C (some d)) ∧ H2 d = some (L2.exd d fs) ∧ H d = none ∧ Q (.ref C) (some d) (upd (L2.del H2 a) d (.xd fs))) E := fun a na => by
  refine ⟨a, v, u, rfl, upd_same, fun dx nx ne => ⟨rfl, dx, [(g, u), (f, v)], ?_, upd_same, by rwa [upd_ne ne] at nx, k dx _ upd_same fun b o e => ?_⟩⟩
  · rw [upd_ne (Ne.symm ne), upd_same]
  · rw [upd_ne ne] at nx
    have ba : b ≠ a := ne_of_none e na
    have bd : b ≠ dx := ne_of_none e nx
    rw [upd_ne bd, L2.del_ne ba, upd_ne bd, upd_ne ba, upd_ne bd, upd_ne ba]
    exact e
/-! ### lambdas that are kept, with a default or none -/
namespace LamY
open PySem PySem.Spec PyProof.Rows L2 LamX
abbrev lamOb (X : Cx) (params : Arguments) (body : Expr) (scope : Scope) (dV doc pm : Value) (c' : Addr) (ctv : Value) : Obj := PySem.W.kdv_obj "<lambda>" (X.env.qual ++ "<lambda>") params (.expr body) scope (cloFrom X.env.cells scope.names []) dV doc pm c' ctv
/-- the function object of a lambda stands at f -/
def FunO (o : Obj) : HO := .frz o (.ext fun _ => True)
theorem funO_ne {o : Obj} (ps : Array Value) : FunO o ≠ .tbl ps := fun z => by
  unfold FunO at z
  cases z
/-- a table that tells one code object more -/
def grow (H : Hp) (P c : Addr) (ps : Array Value) (pos : Pos) (q : Str) : Hp := upd (upd H P (.tbl (ps ++ #[rawInt pos.line, rawInt pos.col, .ref c]))) c (CodeO c q)
theorem grow_ext {H : Hp} {P c : Addr} {ps : Array Value} {pos : Pos} {q : Str} (hP : H P = some (.tbl ps)) (nc : H c = none) : ExtN H (grow H P c ps pos q) := by
  intro b o e no
  have bc : b ≠ c := ne_of_none e nc
  have bP : b ≠ P := by
    intro z
    rw [z, hP] at e
    exact no ps (Option.some.inj e).symm
  unfold grow
  rw [upd_ne bc, upd_ne bP, e]
theorem grow_tabs {T : List (Addr × Str)} {H : Hp} {P c : Addr} {ps : Array Value} {pos : Pos} {q : Str} (tabs : Tabs T H) (hP : H P = some (.tbl ps)) (nc : H c = none) (one : ∀ p ∈ T, p.1 = P → p.2 = q) : Tabs T (grow H P c ps pos q) := by
  have Pc : P ≠ c := ne_of_none hP nc
  have ext := grow_ext (pos := pos) (q := q) hP nc
  rintro ⟨P', q'⟩ hp
  obtain ⟨qs, h1, h2, h3⟩ := tabs _ hp
  by_cases eq : P' = P
  · subst eq
    obtain rfl : q' = q := one _ hp rfl
    obtain rfl : ps = qs := by
      have h1 : H P' = some (.tbl qs) := h1
      rw [hP] at h1
      injection h1 with h1
      injection h1
    have two : (ps ++ #[rawInt pos.line, rawInt pos.col, Value.ref c]).toList = ps.toList ++ [rawInt pos.line, rawInt pos.col, .ref c] := by simp
    refine ⟨ps ++ #[rawInt pos.line, rawInt pos.col, .ref c], ?_, ?_, fun at_ cv told => ?_⟩
    · show grow H P' c ps pos q' P' = _
      unfold grow
      rw [upd_ne Pc, upd_same]
    · rw [two]
      exact PySem.TriplesOk_snoc _ _ _ _ h2
    · rw [two] at told
      rcases among_app _ h2 told with old | fresh
      · obtain ⟨d, e1, e2⟩ := h3 at_ cv old
        exact ⟨d, e1, ext _ _ e2 codeO_ne⟩
      · exact ⟨c, fresh, upd_same⟩
  · refine ⟨qs, ?_, h2, fun at_ cv told => ?_⟩
    · show grow H P c ps pos q P' = _
      have h1 : H P' = some (.tbl qs) := h1
      unfold grow
      rw [upd_ne (ne_of_none h1 nc), upd_ne eq, h1]
    · obtain ⟨d, e1, e2⟩ := h3 at_ cv told
      exact ⟨d, e1, ext _ _ e2 codeO_ne⟩
section
variable {X : Cx} {pins : List (Addr × Obj)} {σ : L2.St} {H HZ : Hp} {s s1 : Shared}
/-- an object that is made and known from now on -/
theorem inv_fun {o : Obj} {tk : Nat} (I : Inv X pins σ H s) (nf : o.isFreed = false) : Inv X pins σ (upd H s.heap.objs.size (FunO o)) { s with heap := s.heap.push o, toks := tk } :=
  I.laid (fun _ _ e => Heap.get?_push_of_some _ e) (Nat.le_refl _) ⟨Heap.get?_push_size _ nf, True.intro, ⟨o, Heap.get?_push_size _ nf⟩, fun _ _ _ _ => True.intro⟩
/-- the function object of a written lambda is made -/
theorem lam_keep {T : List (Addr × Str)} {c P : Addr} {params : Arguments} {body : Expr} {scope : Scope} {pos : Pos} {E : Value → Shared → Prop} {Q : Value → Shared → Prop} {dV : Value} (I : Inv X pins σ H s) (TB : TabB X.base X.mg c P) (hcode : X.env.code = .ref c)
    (hm : (P, X.env.qual ++ "<lambda>") ∈ T) (hu : ∀ p ∈ T, p.1 = P → p.2 = X.env.qual ++ "<lambda>") (hT : Tabs T H) (hfree : ∀ y ∈ scope.names, y.2 = .free → ∃ c, X.env.cells.lookup y.1 = some c)
    (h : ∀ (f c' : Addr) (doc pm ctv : Value) (H1 : Hp) (s' : Shared), Inv X pins σ (upd H1 f (FunO (lamOb X params body scope dV doc pm c' ctv))) s' → ExtN H H1 → Tabs T H1 → H1 f = none → H1 c' = some (CodeO c' (X.env.qual ++ "<lambda>")) → Q (.ref f) s') :
    wpAny (model X.prog X.w) X.A (makeTail "<lambda>" (X.env.qual ++ "<lambda>") params (.expr body) scope X.env dV .none .none pos pos.line) Q E s := by
  obtain ⟨ps, hP, triples, told⟩ := hT _ hm
  have builtins := TB.bm.keeps I.bk
  have code := TB.code.keeps I.bk
  have globals := I.mod.glob.keeps I.bk
  have table : s.heap.get? P = some { cls := .none, data := .fields ps } := I.hok P _ hP
  rcases among : codeAmong pos ps.toList with _ | cv
  · refine PySem.W.kdv_makeTail (mg := X.mg) (c := c) (P := P) (ps := ps) (closure_ok hfree) I.ok.glob globals hcode code table triples among TB.gP builtins fun c' ctv doc h' tk keeps above below record told' => ?_
    obtain ⟨_, oc, vs, t, same, isC, fs, nm⟩ := record
    cases same
    have fresh : H c' = none := I.hok.fresh above
    have J := inv_table (t' := tk) (more := #[rawInt pos.line, rawInt pos.col, .ref c']) I hP (fun b o n e => keeps b o n e) told' above ⟨oc, vs, t, isC, fs, nm⟩
    exact h _ c' doc _ ctv (grow H P c' ps pos (X.env.qual ++ "<lambda>")) _ (inv_fun J rfl) (grow_ext hP fresh) (grow_tabs hT hP fresh hu) (J.hok.fresh (Nat.le_refl _)) upd_same
  · obtain ⟨c', rfl, isC⟩ := told pos cv among
    refine PySem.W.kdv_makeTailHit (mg := X.mg) (c := c) (P := P) (ps := ps) (closure_ok hfree) I.ok.glob globals hcode code table triples among builtins fun ctv doc h' tk keeps _ => ?_
    have J : Inv X pins σ H { s with heap := h', toks := tk } := I.kept keeps
    exact h _ c' doc _ ctv H _ (inv_fun J rfl) (ExtN.refl H) hT (J.hok.fresh (Nat.le_refl _)) isC
end
/-- what a written lambda is as a value: no default -/
def tFn0 (X : Cx) (T : List (Addr × Str)) (params : Arguments) (body : Expr) (scope : Scope) : TE := fun _ H Q => Tabs T H ∧ ∀ (f c' : Addr) (doc pm ctv : Value) (H1 : Hp), ExtN H H1 → Tabs T H1 → H1 f = none → H1 c' = some (CodeO c' (X.env.qual ++ "<lambda>")) → Q (.ref f) (upd H1 f (FunO (lamOb X params body scope .none doc pm c' ctv)))
/-- .. one default, a whole number -/
def tFn1 (X : Cx) (T : List (Addr × Str)) (params : Arguments) (body : Expr) (scope : Scope) (i : Int) : TE := fun _ H Q => Tabs T H ∧ ∀ t, H t = none → ∀ (f c' : Addr) (doc pm ctv : Value) (H1 : Hp), ExtN (upd H t (.tup [.int i])) H1 → Tabs T H1 → H1 f = none → H1 c' = some (CodeO c' (X.env.qual ++ "<lambda>")) → Q (.ref f) (upd H1 f (FunO (lamOb X params body scope (.ref t) doc pm c' ctv)))
/-- the lambda's names: captured ones, globals, and own ones that the def has not -/
structure LamS (N : List Str) (sc scope : Scope) : Prop where
  kind : scope.kind = .function
  co : scope.isCoroutine = false
  gen : scope.isGenerator = false
  own : ∀ y ∈ scope.names, y.2 ≠ .cell ∧ (y.2 = .local → y.1 ∉ N)
  free : ∀ y ∈ scope.names, y.2 = .free → sc.names.lookup y.1 = some .cell ∨ sc.names.lookup y.1 = some .free
def lamSB (N : List Str) (sc scope : Scope) : Bool :=
  decide (scope.kind = .function) && !scope.isCoroutine && !scope.isGenerator && scope.names.all fun y => !decide (y.2 = .cell) && (!decide (y.2 = .local) || !N.contains y.1) && (!decide (y.2 = .free) || decide (sc.names.lookup y.1 = some .cell) || decide (sc.names.lookup y.1 = some .free))
theorem lamS_by {N : List Str} {sc scope : Scope} (h : lamSB N sc scope = true) : LamS N sc scope := by
  unfold lamSB at h
  simp only [Bool.and_eq_true, Bool.or_eq_true, Bool.not_eq_true', decide_eq_true_eq, decide_eq_false_iff_not, List.all_eq_true] at h
  obtain ⟨⟨⟨h1, h2⟩, h3⟩, h4⟩ := h
  refine ⟨h1, h2, h3, fun y hy => ⟨(h4 y hy).1.1, fun e m => ?_⟩, fun y hy e => ?_⟩
  · rcases (h4 y hy).1.2 with z | z
    · exact z e
    · rw [List.contains_iff_mem.mpr m] at z
      cases z
  · rcases (h4 y hy).2 with (z | z) | z
    · exact absurd e z
    · exact .inl z
    · exact .inr z
theorem LamS.has {X : Cx} {N : List Str} {scope : Scope} (L : LamS N X.env.scope scope) (ok : X.Ok) : ∀ y ∈ scope.names, y.2 = .free → ∃ c, X.env.cells.lookup y.1 = some c := fun y hy e => by
  rcases L.free y hy e with k | k
  · exact ok.has _ (.inl k)
  · exact ok.has _ (.inr k)
section
variable {X : Cx} {T : List (Addr × Str)} {c P : Addr} {params : Arguments} {body : Expr} {scope : Scope} {pos : Pos}
theorem pe_lam0 (TB : TabB X.base X.mg c P) (hcode : X.env.code = .ref c) (hm : (P, X.env.qual ++ "<lambda>") ∈ T) (hu : ∀ p ∈ T, p.1 = P → p.2 = X.env.qual ++ "<lambda>") (Ls : LamS X.N X.env.scope scope) (hdef : defaultsOf params X.env = ([], [])) : PE X (.Lambda params body scope pos) (tFn0 X T params body scope) := by
  refine ⟨fun pins s σ H Q I h => ?_⟩
  obtain ⟨hT, h⟩ := h
  refine PySem.W.kla_eval hdef ?_
  rw [makeFunction_eq]
  simp only [List.zip_nil_right, List.filterMap_nil, List.isEmpty_nil, if_true, pure_bind]
  exact lam_keep I TB hcode hm hu hT (Ls.has I.ok) fun f c' doc pm ctv H1 s' I1 e1 t1 nf hc => ⟨.ref f, _, I1, rfl, h f c' doc pm ctv H1 e1 t1 nf hc⟩
theorem pe_lam1 {i : Int} {e : Expr} (TB : TabB X.base X.mg c P) (hcode : X.env.code = .ref c) (hm : (P, X.env.qual ++ "<lambda>") ∈ T) (hu : ∀ p ∈ T, p.1 = P → p.2 = X.env.qual ++ "<lambda>") (Ls : LamS X.N X.env.scope scope) (hd : params.defaults = [e]) (hk : params.kw_defaults = []) (he : PE X e (tC (.int i))) : PE X (.Lambda params body scope pos) (tFn1 X T params body scope i) := by
  refine ⟨fun pins s σ H Q I h => ?_⟩
  obtain ⟨hT, h⟩ := h
  refine PySem.W.kdv_lam (by rw [hd]; rfl) hk ?_
  rw [hd]
  refine PySem.W.kdv_all1 (thn (he.run pins s σ H (fun v H1 => v = .int i ∧ H1 = H) I ⟨rfl, rfl⟩) fun u s1 ⟨v, H1, I1, r1, q1⟩ => PySem.W.kdv_all0 ?_)
  obtain ⟨ev, eH⟩ := q1
  subst ev
  rw [eH] at I1
  rw [makeFunction_eq]
  simp only [List.zip_nil_right, List.filterMap_nil, List.isEmpty_nil, List.isEmpty_cons, Bool.false_eq_true, if_false, if_true, pure_bind]
  refine wpAny_bind (wpAny_newTextTuple ?_)
  have hf : H s1.heap.objs.size = none := I1.hok.fresh (Nat.le_refl _)
  have I2 := I1.laid (a := s1.heap.objs.size) (o := .tup [.int i]) (t' := s1.toks) (h' := s1.heap.push { cls := .type "tuple", data := .seq [u].toArray }) (fun b u e => Heap.get?_push_of_some _ e) (Nat.le_refl _) ⟨(by show 1 ≤ sizeLine; decide), [u], .cons r1 .nil, ⟨_, Heap.get?_push_size _ rfl, rfl, _, rfl⟩⟩
  exact lam_keep I2 TB hcode hm hu (hT.ext fun b o e => by rw [upd_ne (ne_of_none e hf)]; exact e) (Ls.has I2.ok) fun f c' doc pm ctv H1 s' I3 e1 t1 nf hc => ⟨.ref f, _, I3, rfl, h _ hf f c' doc pm ctv H1 e1 t1 nf hc⟩
end
/-- what a closure's cells are -/
theorem clo_cells {cells : List (Str × Addr)} {names : List (Str × NameKind)} (fr : ∀ y ∈ names, y.2 = .free → ∃ c, cells.lookup y.1 = some c) {y : Str} {c : Addr} (e : (cloFrom cells names []).lookup y = some c) : cells.lookup y = some c := by
  rcases cloFrom_mem (PySem.mem_of_lookup e) with none_ | ⟨isFree, val⟩
  · cases none_
  · obtain ⟨d, hd⟩ := fr _ isFree rfl
    have hd : cells.lookup y = some d := hd
    rw [hd] at val
    rw [hd, val]
    rfl
theorem clo_has {cells : List (Str × Addr)} {names : List (Str × NameKind)} {y : Str} (h : names.lookup y = some .free) : ∃ c, (cloFrom cells names []).lookup y = some c := mem_lookup (cloFrom_has (cells := cells) (acc := []) (PySem.mem_of_lookup h))
/-- what a lambda captured, at the state of a call -/
structure CapAt (X : Cx) (scope : Scope) (σ : L2.St) (H : Hp) (s : Shared) : Prop where
  inj : ∀ x y c, X.env.cells.lookup x = some c → X.env.cells.lookup y = some c → x = y
  out : ∀ {y c}, (cloFrom X.env.cells scope.names []).lookup y = some c → X.env.cells.lookup y = some c
  cell : ∀ y c, (cloFrom X.env.cells scope.names []).lookup y = some c → H c = none ∧ ∃ v, s.heap.IsCell c v
  loc : ∀ (i : Nat) (y : Str) (v : V), X.N[i]? = some y → σ[i]? = some (some v) → scope.names.lookup y = some .free → ∃ (u : Value) (c : Addr), RelV v u ∧ (cloFrom X.env.cells scope.names []).lookup y = some c ∧ s.heap.IsCell c (some u)
  len : σ.length = X.N.length
theorem CapAt.of {X : Cx} {pins : List (Addr × Obj)} {σ : L2.St} {H : Hp} {s : Shared} {scope : Scope} (I : Inv X pins σ H s) (L : LamS X.N X.env.scope scope) : CapAt X scope σ H s where
  inj := I.ok.inj
  out := fun e => clo_cells (L.has I.ok) e
  cell := fun y c e => by
    have up := clo_cells (L.has I.ok) e
    exact ⟨I.freeC y c up, I.cell y c up⟩
  loc := fun i y v e1 e2 k => by
    have vis : Vis X.env.scope y := (L.free _ (PySem.mem_of_lookup k) rfl).elim (fun k => .inr (.inl k)) (fun k => .inr (.inr k))
    obtain ⟨m, _, look⟩ := I.loc
    obtain ⟨u, r, where_⟩ := look i y v e1 e2 vis
    obtain ⟨d, hd'⟩ := clo_has (cells := X.env.cells) k
    refine ⟨u, d, r, hd', ?_⟩
    have up := clo_cells (L.has I.ok) hd'
    rcases where_ with ⟨isLocal, _⟩ | ⟨_, d', hd2, isCell⟩
    · have isLocal : X.env.scope.names.lookup y = some .local := isLocal
      rcases L.free _ (PySem.mem_of_lookup k) rfl with q | q
      · rw [show X.env.scope.names.lookup y = _ from q] at isLocal
        cases isLocal
      · rw [show X.env.scope.names.lookup y = _ from q] at isLocal
        cases isLocal
    · rw [up] at hd2
      cases hd2
      exact isCell
  len := I.len
section
variable {X : Cx} {pins : List (Addr × Obj)} {σ : L2.St} {H HZ : Hp} {s s1 : Shared}
/-- the lambda's body is entered, its own names bound -/
theorem lam_in {A : Around} {outer stack : List Env} {E : XK} {scope : Scope} {f c' : Addr} {h₁ : Heap} {tk : Nat} {m₁ : Str → Option Value} (C : CapAt X scope σ H s) (L : LamS X.N X.env.scope scope) (e0 : Env0 X.prog X.w X.K X.mg X.base A outer s1 HZ) (hd : A.handled = none)
    (un : Un (frs stack) [] H HZ s.heap s1.heap) (hns : h₁.Ns s1.heap.objs.size m₁) (kp : ∀ b o, s1.heap.get? b = some o → h₁.get? b = some o) :
    Inv (lamCx X A outer s1 HZ E scope f c') [] σ HZ { s1 with heap := h₁, toks := tk } := by
  have noEx : ∀ {b : Addr} {p : Prop}, b ∈ (lamCx X A outer s1 HZ E scope f c').ex → p := fun z => nomatch (show _ ∈ ([] : List Addr) from z)
  have moved : ∀ {c : Addr} {v : Option Value}, H c = none → s.heap.IsCell c v → h₁.IsCell c v := by
    rintro c v free ⟨o, there, isCell⟩
    obtain ⟨sl, there'⟩ := un.any there free (by simp)
    exact ⟨{ o with slots := sl }, kp _ _ there', isCell⟩
  exact {
    ok := {
      mod := e0.mod, kind := L.kind, glob := rfl, blt := rfl, above := Nat.le_refl _
      inj := fun y z c e1 e2 => C.inj y z c (C.out e1) (C.out e2)
      has := fun y hy => by
        have hy : scope.names.lookup y = some .cell ∨ scope.names.lookup y = some .free := hy
        rcases hy with k | k
        · exact absurd rfl (L.own _ (PySem.mem_of_lookup k)).1
        · exact clo_has k
      cab := fun y c z _ => nomatch (show false = true from z)
      hd := fun _ => hd
      frames := Around.frames_deeper e0.frames
      stk := .inr ⟨rfl, rfl⟩
      exf := fun b z => noEx z
      bs := e0.bs, bsz := e0.bsz
      noex := fun b _ _ z => noEx z
      exfs := fun b z => noEx z
      funs := e0.funs, frf := e0.frf }
    os := rfl
    bare := e0.bare
    base := Un.kept kp
    loc := ⟨m₁, hns, fun i y v e1 e2 e3 => by
      have e3 : Vis scope y := e3
      rcases e3 with k | k | k
      · exact absurd (List.mem_of_getElem? e1) ((L.own _ (PySem.mem_of_lookup k)).2 rfl)
      · exact absurd rfl (L.own _ (PySem.mem_of_lookup k)).1
      · obtain ⟨u, d, r, hd', isCell⟩ := C.loc i y v e1 e2 k
        exact ⟨u, r, .inr ⟨.inr k, d, hd', moved (C.cell y d hd').1 isCell⟩⟩⟩
    cell := fun y c e => by
      obtain ⟨free, v, isCell⟩ := C.cell y c e
      exact ⟨v, moved free isCell⟩
    free := e0.hok.fresh (Nat.le_refl _)
    freeC := fun y c e => by
      obtain ⟨free, v, o, there, _⟩ := C.cell y c e
      exact un.free c o there free (by simp)
    pin := fun q hq => nomatch (show q ∈ ([] : List (Addr × Obj)) from hq)
    hok := e0.hok.kept kp
    len := C.len }
end
/-- a lambda of the text: its default, what it asks -/
structure LamK where
  params : Arguments
  body : Expr
  scope : Scope
  dflt : Option Int
  t : XK → TE
def Dfl (o : Option Int) (dV : Value) (H : Hp) : Prop := match o with
  | none => dV = .none
  | some i => ∃ t, dV = .ref t ∧ H t = some (.tup [.int i])
def DflS (o : Option Int) (dV : Value) (h : Heap) : Prop := match o with
  | none => dV = .none
  | some _ => ∃ (t : Addr) (ob : Obj) (n : Nat) (u : Value), dV = .ref t ∧ h.get? t = some ob ∧ ob.data = .seq [u].toArray n
theorem Dfl.ext {o : Option Int} {dV : Value} {H H' : Hp} (h : Dfl o dV H) (k : ExtN H H') : Dfl o dV H' := by
  cases o with
  | none => exact h
  | some i =>
    obtain ⟨t, e1, e2⟩ := h
    exact ⟨t, e1, k _ _ e2 fun _ z => nomatch z⟩
theorem Dfl.tup {o : Option Int} {dV : Value} {H H' : Hp} (h : Dfl o dV H) (k : ∀ b xs, H b = some (.tup xs) → H' b = some (.tup xs)) : Dfl o dV H' := by
  cases o with
  | none => exact h
  | some i =>
    obtain ⟨t, e1, e2⟩ := h
    exact ⟨t, e1, k _ _ e2⟩
theorem vals_one {v : V} {its : List Value} (h : Vals [v] its) : ∃ u, its = [u] := by
  cases h with
  | cons r t =>
    cases t
    exact ⟨_, rfl⟩
/-- its function object stands at f -/
def KeepAt (X : Cx) (L : LamK) (H : Hp) (f c' : Addr) : Prop := ∃ dV doc pm ctv : Value, H f = some (FunO (lamOb X L.params L.body L.scope dV doc pm c' ctv)) ∧ H c' = some (CodeO c' (X.env.qual ++ "<lambda>")) ∧ Dfl L.dflt dV H
theorem KeepAt.ext {X : Cx} {L : LamK} {H H' : Hp} {f c' : Addr} (h : KeepAt X L H f c') (k : ExtN H H') : KeepAt X L H' f c' := by
  obtain ⟨dV, doc, pm, ctv, h1, h2, h3⟩ := h
  exact ⟨dV, doc, pm, ctv, k _ _ h1 funO_ne, k _ _ h2 codeO_ne, h3.ext k⟩
structure LamOk (X : Cx) (k : Nat) (L : LamK) : Prop where
  ls : LamS X.N X.env.scope L.scope
  bind : ∀ (q : Str) (cl : List (Str × Addr)) (dV doc pm cdv ctv : Value) (s : Shared), DflS L.dflt dV s.heap → ∃ binds : List (Str × Value), (∀ y ∈ binds, L.scope.names.lookup y.1 = some .local) ∧ BindsTo s (PySem.W.kdv_fn "<lambda>" q L.params (.expr L.body) L.scope cl dV doc pm cdv ctv) ⟨[], []⟩ binds
  body : ∀ (A : Around) (outer : List Env) (s : Shared) (H : Hp) (E : XK) (f c' : Addr), Room k (A.deeper (lamEnv X L.scope s.heap.objs.size f c')) → PE (lamCx X A outer s H E L.scope f c') L.body (L.t E)
theorem dfl_tup {P : Program} {w : World} {i : Int} {t : Addr} {H : Hp} {h : Heap} (ht : H t = some (.tup [.int i])) (ok : HOk P w H h) : ∃ (ob : Obj) (n : Nat) (u : Value), h.get? t = some ob ∧ ob.data = .seq [u].toArray n := by
  have z : ObjOk P w H h t (.tup [.int i]) := ok t _ ht
  obtain ⟨_, its, vals, isTup⟩ := z
  obtain ⟨u, rfl⟩ := vals_one vals
  obtain ⟨ob, there, _, n, data⟩ := isTup
  exact ⟨ob, n, u, there, data⟩
theorem dfl_s {P : Program} {w : World} {o : Option Int} {dV : Value} {H : Hp} {h : Heap} (d : Dfl o dV H) (ok : HOk P w H h) : DflS o dV h := by
  cases o with
  | none => exact d
  | some i =>
    obtain ⟨t, e, ht⟩ := d
    obtain ⟨ob, n, u, there, data⟩ := dfl_tup ht ok
    exact ⟨t, ob, n, u, e, there, data⟩
section
variable {X : Cx} {pins : List (Addr × Obj)} {σ : L2.St} {H : Hp} {s : Shared}
/-- the kept lambda is called in the def that got it -/
theorem act_keep {CXg : CXT} {Eg : XK} {Ng : List Str} {qg : Str} {sg : Scope} {g f c' : Addr} {cdg : Value} {k i : Nat} {a : Str} {pn : List (Addr × Obj)} {xe : Value → Shared → Prop} {W : WX} {E : XK} {p1 p2 : Pos} {L : LamK}
    (I : Inv X pins σ H s) (ok : LamOk X k L) (at_ : KeepAt X L H f c')
    (tk : Takes ((cxOf CXg X.prog X.w X.K X.mg X.base Ng qg sg g cdg X.A X.stack s H Eg).tr pn xe) W) (hW : ∀ cls d σ' H', E cls d H' → W cls d σ' H') (hr : Room (k + 1) (X.A.deeper (envOfC qg sg s.heap.objs.size g cdg)))
    (hN : Ng[i]? = some a) (hv : Vis sg a) (hd : (a == ("__debug__" : Str)) = false := by decide) (hcd : (a == ("__classdict__" : Str)) = false := by decide) :
    PE ((cxOf CXg X.prog X.w X.K X.mg X.base Ng qg sg g cdg X.A X.stack s H Eg).tr pn xe) (.Call (.Name a p1) [] [] p2)
      (fun σZ HZ Q => σZ[i]? = some (some (.ref f)) ∧ HZ c' = some (CodeO c' (X.env.qual ++ "<lambda>")) ∧ L.t E σ HZ Q) := by
  obtain ⟨dV, doc, pm, ctv, hfun, _, hdf⟩ := at_
  refine ⟨fun pinsZ sZ σZ HZ Q IZ => ?_⟩
  rintro ⟨slot, isCode, asks⟩
  refine wpAny_Call_Name_kw (thn ((pe_var (pos := p1) (i := i) hN hv hd hcd).run pinsZ sZ σZ HZ (fun v H1 => v = .ref f ∧ H1 = HZ) IZ ⟨.ref f, slot, rfl, rfl⟩) fun u s1 got => ?_)
  obtain ⟨_, H1, I1, isRef, rfl, eH⟩ := got
  rw [eH] at I1
  obtain rfl : u = Value.ref f := isRef
  have un : Un (frs X.stack) [] H HZ s.heap s1.heap := I1.base
  have fun1 := un.frzs _ _ _ hfun
  have of1 := (I1.hok f _ fun1).1
  refine PySem.W.callWith_F0 ⟨_, _, _, _, of1⟩ ?_
  have dfl1 : DflS L.dflt dV s1.heap := dfl_s (hdf.tup un.tups) I1.hok
  obtain ⟨⟨oc, vs, t, hoc, hdc, hvc⟩, _, _⟩ := I1.hok c' _ isCode
  have ran : codeAny (model X.prog X.w) (X.A.deeper (envOfC qg sg s.heap.objs.size g cdg)) (.call (.ref f) ⟨[], []⟩) (CR (L2.CX X.prog X.w) (envOfC qg sg s.heap.objs.size g cdg :: X.stack) X.prog X.w HZ s1 Q E) s1 := by
    obtain ⟨binds, locals, bound⟩ := ok.bind (X.env.qual ++ "<lambda>") (cloFrom X.env.cells L.scope.names []) dV doc pm (.ref c') ctv s1 dfl1
    refine PySem.W.kla_callFunE hr.depth of1 rfl ok.ls.co ok.ls.gen rfl ⟨c', oc, vs, t, rfl, hoc, hdc, hvc⟩ (bound _ _ _ _ ?_)
    refine wpAny_newFunctionEnv (fun y hy => (ok.ls.own y hy).1) locals (fun h₁ hns hsb => ⟨I1.nolimit.fresh _ hsb, ?_⟩) ok.ls.kind
    have kp : ∀ b o, s1.heap.get? b = some o → h₁.get? b = some o := fun b o e => hsb.extBut b o (Nat.ne_of_lt (Heap.lt_size e)) (Heap.get?_push_of_some _ e)
    have J := lam_in (A := X.A.deeper (envOfC qg sg s.heap.objs.size g cdg)) (outer := envOfC qg sg s.heap.objs.size g cdg :: X.stack) (E := E) (f := f) (c' := c') (tk := s1.toks + binds.length) (CapAt.of I ok.ls) ok.ls I1.env0 hr.hd un hns kp
    refine PySem.W.kla_codeExpr (wpAny_mono ((ok.body _ _ s1 HZ E f c' (hr.deeper _)).run [] _ _ HZ Q J asks) (fun v s' done_ => ?_) fun e s' out => out)
    obtain ⟨v', H', J', rv, q⟩ := done_
    exact ⟨v', H', J'.os, J'.bare, J'.base, J'.hok, rv, q⟩
  have up : Passes (L2.CX X.prog X.w) ((cxOf CXg X.prog X.w X.K X.mg X.base Ng qg sg g cdg X.A X.stack s H Eg).tr pn xe) E := passes_call tk hW
  refine wpAny_call (codeAny_mono ran fun r s' hq => ?_)
  cases r with
  | error e => exact up pinsZ σZ HZ s1 e s' I1 hq
  | ok fl =>
    cases fl with
    | ret u => exact I1.after hq
    | next => exact False.elim hq
    | brk => exact False.elim hq
    | cont => exact False.elim hq
end
/-- x(e), x a def of the text, e what a kept lambda is -/
def tFnc (X : Cx) (Ok : LamK → Prop) (TT : (XK → Hp → VK → Prop) → Hp → VK → Prop) (t : TA) : TE := fun σ H Q => t σ H fun vs H1 => ∃ (L : LamK) (f c' : Addr), vs = [.ref f] ∧ Ok L ∧ KeepAt X L H1 f c' ∧ TT (fun E H' Q' => L.t E σ H' Q') H1 Q
theorem pe_fnc {X : Cx} {k : Nat} {Ok : LamK → Prop} {TT : (XK → Hp → VK → Prop) → Hp → VK → Prop} {x a : Str} {g : Addr} {st : Stmt} {Ng : List Str} {e : Expr} {t : TA} {p pos : Pos} (D : Dfn X.K X.mg x st g [a]) (Sg : FnScope Ng [a] (defScope st)) (hNg : Ng[0]? = some a) (hva : Vis (defScope st) a)
    (hG : ∀ cdv : Value, GivesTo X Ng x (defScope st) g cdv (defBody st) a (X.env.qual ++ "<lambda>") TT) (hr : Room (k + 2) X.A) (hok : ∀ L, Ok L → LamOk X k L) (ha : PA X [e] t)
    (hst : starEach (e :: []) X.env = (false, eval e X.env) :: starEach [] X.env := by rfl) (hpl : (backTo pos (starEach [] X.env)).any (·.1) = false := by rfl)
    (hg : Gl X x := by rfl) (hdb : (x == ("__debug__" : Str)) = false := by decide) (hd : (a == ("__debug__" : Str)) = false := by decide) (hcd : (a == ("__classdict__" : Str)) = false := by decide) :
    PE X (.Call (.Name x p) [e] [] pos) (tFnc X Ok TT t) := by
  obtain ⟨fd, F, b⟩ := D.ex
  obtain ⟨oc, od, kV, doc, pm, an, cdv, ct, osl, rfl, lk, hc⟩ := F.ex
  refine ⟨fun pins s σ H Q I h => ?_⟩
  refine wpAny_Call_Name_kw (ld_glob I hg D.g ?_ hdb)
  refine PySem.W.callWith_K (h₀ := X.base) I.ok.mod.kin F.kp (thn (ha.run pos pins s σ H _ I h) fun us s1 got => ?_) hst hpl
  obtain ⟨vs, H1, I1, r, L, f, c', rfl, ok, at_, asks⟩ := got
  refine ⟨I1.kIn, ?_⟩
  obtain rfl : us = [Value.ref f] := by
    match us, r with
    | [_], .cons r .nil => rw [show _ = Value.ref f from r]
  have isCode : H1 c' = some (CodeO c' (X.env.qual ++ "<lambda>")) := by
    obtain ⟨_, _, _, _, _, z, _⟩ := at_
    exact z
  have ran : codeAny (model X.prog X.w) X.A (.call (.ref g) ⟨[.ref f], []⟩) (CR C8.CX0 X.stack X.prog X.w H1 s1 Q C8.E0) s1 := by
    refine run_ofS (N := Ng) (ps := [a]) (us := [.ref f]) (vs := [.ref f]) lk hc Sg hr I1.env0 (b s1 [.ref f] I1.kIn rfl) (.cons rfl .nil) rfl fun hr' => ?_
    obtain ⟨t', ht', hq'⟩ := hG cdv f c' s1 H1 Q (fun E H' Q' => L.t E σ H' Q') (fun W pn xe E p1 p2 tk hW => act_keep (i := 0) I1 (hok L ok) at_ tk hW hr' hNg hva hd hcd) isCode asks
    exact ⟨t', ht'.nox, hq'⟩
  refine wpAny_call (codeAny_mono ran fun r s' hq => ?_)
  cases r with
  | error e => exact (show False from hq).elim
  | ok fl =>
    cases fl with
    | ret u => exact I1.after hq
    | next => exact False.elim hq
    | brk => exact False.elim hq
    | cont => exact False.elim hq
/-- a written lambda as a value: what it asks when it is called -/
def tFnL (X : Cx) (k : Nat) (T : List (Addr × Str)) (t : XK → TE) : TE := fun _ H Q => Tabs T H ∧ ∀ (L : LamK) (f c' : Addr) (H2 : Hp), LamOk X k L → L.t = t → ExtN H H2 → Tabs T H2 → KeepAt X L H2 f c' → Q (.ref f) H2
section
variable {X : Cx} {T : List (Addr × Str)} {c P : Addr} {params : Arguments} {body : Expr} {scope : Scope} {pos : Pos} {k : Nat} {t : XK → TE}
theorem pe_lamL0 (TB : TabB X.base X.mg c P) (hcode : X.env.code = .ref c) (hm : (P, X.env.qual ++ "<lambda>") ∈ T) (hu : ∀ p ∈ T, p.1 = P → p.2 = X.env.qual ++ "<lambda>") (Ls : LamS X.N X.env.scope scope) (hdef : defaultsOf params X.env = ([], []))
    (hbind : ∀ (q : Str) (cl : List (Str × Addr)) (doc pm cdv ctv : Value), bindArgs (PySem.W.kdv_fn "<lambda>" q params (.expr body) scope cl .none doc pm cdv ctv) ⟨[], []⟩ = pure [])
    (hbody : ∀ (A : Around) (outer : List Env) (s : Shared) (H : Hp) (E : XK) (f c' : Addr), Room k (A.deeper (lamEnv X scope s.heap.objs.size f c')) → PE (lamCx X A outer s H E scope f c') body (t E)) : PE X (.Lambda params body scope pos) (tFnL X k T t) := by
  refine ⟨fun pins s σ H Q I h => (pe_lam0 TB hcode hm hu Ls hdef).run pins s σ H Q I ?_⟩
  obtain ⟨tabs, h⟩ := h
  refine ⟨tabs, fun f c' doc pm ctv H1 e1 t1 nf isCode => ?_⟩
  have new : ∀ b o, H1 b = some o → upd H1 f (FunO (lamOb X params body scope .none doc pm c' ctv)) b = some o := fun b o e => by
    rw [upd_ne (ne_of_none e nf)]
    exact e
  refine h ⟨params, body, scope, none, t⟩ f c' _ ⟨Ls, fun q cl dV doc pm cdv ctv s d => ?_, hbody⟩ rfl (e1.trans (.of new)) (t1.ext new) ⟨.none, doc, pm, ctv, upd_same, new _ _ isCode, rfl⟩
  have d : dV = .none := d
  subst d
  exact ⟨[], fun y hy => (nomatch hy), .of_eq (hbind q cl doc pm cdv ctv)⟩
theorem pe_lamL1 {i : Int} {e : Expr} {a : Str} (TB : TabB X.base X.mg c P) (hcode : X.env.code = .ref c) (hm : (P, X.env.qual ++ "<lambda>") ∈ T) (hu : ∀ p ∈ T, p.1 = P → p.2 = X.env.qual ++ "<lambda>") (Ls : LamS X.N X.env.scope scope) (hd : params.defaults = [e]) (hk : params.kw_defaults = []) (he : PE X e (tC (.int i)))
    (hloc : scope.names.lookup a = some .local)
    (hbind : ∀ (q : Str) (cl : List (Str × Addr)) (tt : Addr) (ob : Obj) (n : Nat) (u doc pm cdv ctv : Value) (s : Shared), s.heap.get? tt = some ob → ob.data = .seq [u].toArray n → BindsTo s (PySem.W.kdv_fn "<lambda>" q params (.expr body) scope cl (.ref tt) doc pm cdv ctv) ⟨[], []⟩ [(a, u)])
    (hbody : ∀ (A : Around) (outer : List Env) (s : Shared) (H : Hp) (E : XK) (f c' : Addr), Room k (A.deeper (lamEnv X scope s.heap.objs.size f c')) → PE (lamCx X A outer s H E scope f c') body (t E)) : PE X (.Lambda params body scope pos) (tFnL X k T t) := by
  refine ⟨fun pins s σ H Q I h => (pe_lam1 TB hcode hm hu Ls hd hk he).run pins s σ H Q I ?_⟩
  obtain ⟨tabs, h⟩ := h
  refine ⟨tabs, fun tt nt f c' doc pm ctv H1 e1 t1 nf isCode => ?_⟩
  have new : ∀ b o, H1 b = some o → upd H1 f (FunO (lamOb X params body scope (.ref tt) doc pm c' ctv)) b = some o := fun b o e => by
    rw [upd_ne (ne_of_none e nf)]
    exact e
  have e0 : ExtN H (upd H tt (.tup [.int i])) := .of fun b o e => by
    rw [upd_ne (ne_of_none e nt)]
    exact e
  refine h ⟨params, body, scope, some i, t⟩ f c' _ ⟨Ls, fun q cl dV doc pm cdv ctv s d => ?_, hbody⟩ rfl ((e0.trans e1).trans (.of new)) (t1.ext new) ⟨.ref tt, doc, pm, ctv, upd_same, new _ _ isCode, tt, rfl, new _ _ (e1 _ _ upd_same fun _ z => nomatch z)⟩
  obtain ⟨t2, ob, n, u, e, there, data⟩ := d
  subst e
  refine ⟨[(a, u)], fun y hy => ?_, hbind q cl t2 ob n u doc pm cdv ctv s there data⟩
  obtain rfl : y = (a, u) := List.mem_singleton.mp hy
  exact hloc
end
end LamY
/-! ### a comprehension whose element knows the def's state at the block's entry -/
namespace LcK
open PySem PySem.Spec PyProof.Rows L2
/-- the element's promise in the block that is entered at s, H -/
abbrev ElK (X : Cx) (pins : List (Addr × Obj)) (σ : L2.St) (scope : Scope) (elt : Expr) (te : TE) : Prop := ∀ (s : Shared) (H : Hp) (C : Addr) (cl : List (Str × Addr)) (fp : List Addr), Inv X pins σ H s → (∀ b ∈ fp, FpOk X pins H b) → PE (X.blk s H scope (compEnvC scope cl C X.env) fp) elt te
variable {X : Cx}
theorem lc_coreK {pins : List (Addr × Obj)} {sh : Shared} {σ : L2.St} {H : Hp} {Q : VK} {elt tg src : Expr} {tests : List Expr} {scope : Scope} {own : List (Str × Nat)} {pos pos' : Pos} {wi : TI} {g : TG} {tt : TT} {te : TE} {use : Option (Value → Sem Unit)} {Qf : Value → Shared → Prop}
    (calm : X.calm = true) (nd : X.N.Nodup) (I : Inv X pins σ H sh) (hi : PI X tg src wi) (blk : BlkOk X.N X.env.scope scope own)
    (hg : ∀ (s : Shared) (H : Hp) (C : Addr) (cl : List (Str × Addr)) (fp : List Addr), PG (X.blk s H scope (compEnvC scope cl C X.env) fp) tg g)
    (ht : ∀ (s : Shared) (H : Hp) (C : Addr) (cl : List (Str × Addr)) (fp : List Addr), PTs (X.blk s H scope (compEnvC scope cl C X.env) fp) tests tt)
    (he : ElK X pins σ scope elt te) (plain : ∀ x, foldedSetIterable src X.env x = pure x) (ask : tLc wi g tt te (own.map (·.2)) σ H Q)
    (back : ∀ D C s' m H', Inv X pins σ H' s' → Q (.ref D) H' → s'.heap.Ns C m → FpOk X pins H' C → compPost (model X.prog X.w) X.A X.xe use Qf (.ref D) C (.ok .next) s') :
    wpAny (model X.prog X.w) X.A (comprehension (.ListComp elt [⟨tg, src, tests, 0⟩] scope pos) scope X.env pos' (newList []) false (eval src X.env) use) Qf X.xe sh := by
  have closed : ∀ y ∈ scope.names, y.2 = .free → ∃ c, X.env.cells.lookup y.1 = some c := fun y m k => I.ok.has _ (blk.free y m k)
  refine wpAny_comprehension_free (use := use) rfl plain (closure_ok closed) blk.kind (fun y m k => by rw [blk.uniq y m, k]) (thn (hi.run pins sh σ H _ I ask) fun v1 s1 h1 => thn h1 fun v2 s2 h2 => ?_)
  obtain ⟨it, fp, tn, J, Hi, rfl, Ii, T, at0, fpo, q⟩ := h2
  refine wpAny_newObj_type (newEnv_comp ?_) (by show 0 ≤ sizeLine; decide)
  -- the list that grows
  obtain ⟨D, hD⟩ : ∃ D, D = s2.heap.objs.size := ⟨_, rfl⟩
  rw [← hD]
  have fresh : Hi D = none := Ii.hok.fresh (Nat.le_of_eq hD.symm)
  obtain ⟨W, ⟨m0, w0⟩, turn⟩ := q D fresh
  obtain ⟨sl, hsl⟩ : ∃ sl : Shared, sl = { s2 with heap := s2.heap.push { cls := .type "list", data := .seq ([] : List Value).toArray } } := ⟨_, rfl⟩
  have heapl : sl.heap = s2.heap.push { cls := .type "list", data := .seq ([] : List Value).toArray } := by rw [hsl]
  obtain ⟨Hl, hHl⟩ : ∃ Hl, Hl = upd Hi D (.lst []) := ⟨_, rfl⟩
  have Il : Inv X pins σ Hl sl := by
    rw [hsl, hHl]
    exact Ii.laid (t' := s2.toks) (fun b o e => Heap.get?_push_of_some _ e) (Nat.le_of_eq hD.symm) ⟨Nat.zero_le _, [], 0, .nil, by rw [hD]; exact Heap.get?_push_size _ rfl⟩
  have below : ∀ b ∈ fp, b < s2.heap.objs.size := fun b m => by
    obtain ⟨o, e, _⟩ := T.obj _ _ at0 b m
    exact Heap.lt_size e
  have fpl : ∀ b ∈ fp, FpOk X pins Hl b ∧ b < sl.heap.objs.size := fun b m => by
    have lt := below b m
    refine ⟨⟨?_, (fpo b m).2⟩, by rw [heapl, Heap.size_push]; exact Nat.lt_succ_of_lt lt⟩
    rw [hHl, upd_ne (by rw [hD]; exact Nat.ne_of_lt lt)]
    exact (fpo b m).1
  have atl : tn 0 sl.heap := T.keep _ _ _ at0 fun b _ o e => by rw [heapl]; exact Heap.get?_push_of_some _ e
  have Ib := block_start Il blk nd fpl
  have pe := he sl Hl sl.heap.objs.size (cellsFrom (sl.heap.objs.size + 1) scope.names (cloFrom X.env.cells scope.names [])) fp Il fun b m => (fpl b m).1
  have pg := hg sl Hl sl.heap.objs.size (cellsFrom (sl.heap.objs.size + 1) scope.names (cloFrom X.env.cells scope.names [])) fp
  have pt := ht sl Hl sl.heap.objs.size (cellsFrom (sl.heap.objs.size + 1) scope.names (cloFrom X.env.cells scope.names [])) fp
  rw [← hsl]
  show codeAny _ _ (.compStart (.ListComp elt [⟨tg, src, tests, 0⟩] scope pos) 0 (.ref it) (.ref D) (compEnvC scope (cellsFrom (sl.heap.objs.size + 1) scope.names (cloFrom X.env.cells scope.names [])) sl.heap.objs.size X.env)) (compPost (model X.prog X.w) X.A X.xe use Qf (.ref D) sl.heap.objs.size) { sl with heap := pushCells (sl.heap.push { cls := .type "dict", data := .dict #[] }) scope.names }
  have nfp : ∀ b ∈ fp, Hl b = none := fun b m => (fpl b m).1.1
  rw [← hHl] at w0
  obtain ⟨ce, hce⟩ : ∃ ce, ce = compEnvC scope (cellsFrom (sl.heap.objs.size + 1) scope.names (cloFrom X.env.cells scope.names [])) sl.heap.objs.size X.env := ⟨_, rfl⟩
  rw [← hce] at Ib pe pg pt ⊢
  have cel : ce.locals = sl.heap.objs.size := by rw [hce]; rfl
  obtain ⟨sb, hsb⟩ : ∃ sb : Shared, sb = { sl with heap := pushCells (sl.heap.push { cls := .type "dict", data := .dict #[] }) scope.names } := ⟨_, rfl⟩
  rw [← hsb] at Ib ⊢
  have atb : tn 0 sb.heap := T.keep _ _ _ atl fun b _ o e => by rw [hsb]; exact pushCells_keeps _ _ _ _ (Heap.get?_push_of_some _ e)
  have calmB : ∀ {σ' : L2.St} {H' : Hp} {s' : Shared}, Inv (X.blk sl Hl scope ce fp) [] σ' H' s' → (∀ b ∈ fp, H' b = none) → ∀ b ∈ fp, FpOk (X.blk sl Hl scope ce fp) [] H' b := fun {σ' H' s'} J' hn b m =>
    ⟨hn b m, (J'.ok.exf b m).1, J'.ok.exfs b m, .inl m, fun x c e => (J'.ok.exf b m).2 x c e, fun p hp => absurd (show p ∈ ([] : List (Addr × Obj)) ++ [] from hp) (by simp)⟩
  refine codeAny_compStart_list (?_ : codeAny (model X.prog X.w) X.A (.compLoop (.ListComp elt [⟨tg, src, tests, 0⟩] scope pos) 0 (.ref it) (.ref D) ce) (compPost (model X.prog X.w) X.A X.xe use Qf (.ref D) sl.heap.objs.size) sb) (T.self X.A 0 _ _ _ atb ?_)
  all_goals
    refine compLoop_any (fun n s' => ∃ i H', Inv (X.blk sl Hl scope ce fp) [] (wipe σ (own.map (·.2))) H' s' ∧ tn i s'.heap ∧ (∀ b ∈ fp, H' b = none) ∧ W i n H') ?_ m0 ⟨0, Hl, Ib, atb, nfp, w0⟩
    rintro n s5 ⟨i, H5, I5, at5, n5, w5⟩
    rcases turn i n H5 w5 with ⟨stop, qq⟩ | ⟨go, Nx, nxt, step⟩
    · refine thnF (T.done (X.blk sl Hl scope ce fp) rfl rfl rfl calm i [] s5 _ H5 (fun _ _ => False) I5 (calmB I5 n5) at5 stop) fun r s6 ⟨er, I6⟩ => ?_
      subst er
      have I7 : Inv X pins σ H5 s6 := Il.call' (ch := fp) I6.os I6.base I6.hok I6.bare fun b m => ⟨(fpl b m).1.2.2.2.1, (fpl b m).1.2.1, (fpl b m).1.2.2.2.2.1, (fpl b m).1.2.2.2.2.2⟩
      have nC : H5 sl.heap.objs.size = none := cel ▸ I6.free
      obtain ⟨m, hn, _⟩ := I6.loc
      have hn : s6.heap.Ns ce.locals m := hn
      rw [cel] at hn
      exact back D sl.heap.objs.size s6 m H5 I7 qq hn (Il.fpOk (Nat.le_refl _) nC)
    · refine thnF (T.item (X.blk sl Hl scope ce fp) rfl rfl rfl calm i [] s5 _ H5 (fun _ _ => False) I5 (calmB I5 n5) at5 go) fun r s6 ⟨u, er, h6⟩ => ?_
      subst er
      refine thnF h6 fun _ s7 ⟨x, H7, I7, r7, y7, at7, n7⟩ => ?_
      refine thnF (pg.run _ s7 _ H7 x u _ (I7.pinned (calmB I7 n7) (T.obj _ _ at7)) r7 (step x H7 y7)) fun _ s8 ⟨σ8, H8, I8, ew, q8⟩ => ?_
      refine thnF (pt.run _ s8 σ8 H8 _ I8 q8) fun b s9 ⟨H9, I9, q9⟩ => ?_
      have turned : ∀ {s' : Shared} {H' : Hp}, Inv (X.blk sl Hl scope ce fp) ([] ++ pinsAt fp s7.heap) σ8 H' s' → Nx H' → ∃ m, m < n ∧ ∃ i H', Inv (X.blk sl Hl scope ce fp) [] (wipe σ (own.map (·.2))) H' s' ∧ tn i s'.heap ∧ (∀ b ∈ fp, H' b = none) ∧ W i m H' := fun {s' H'} J' nx => by
        obtain ⟨m', lt, w'⟩ := nxt H' nx
        have kept : ∀ b ∈ fp, ∀ o, s7.heap.get? b = some o → s'.heap.get? b = some o ∧ H' b = none := fun b m o e =>
          let z := J'.pin (b, o) (List.mem_append_right _ (List.mem_append_right _ (mem_pinsAt m e)))
          ⟨z.1, z.2.1⟩
        refine ⟨m', lt, i + 1, H', (J'.unpinned (pins := [])).weak (by rw [← ew, wipe_length]) (fun j v e => ?_), T.keep _ _ _ at7 fun b m o e => (kept b m o e).1, fun b m => ?_, w'⟩
        · rw [← ew] at e
          exact (wipe_some e).1
        · obtain ⟨o, e, _⟩ := T.obj _ _ at7 b m
          exact (kept b m o e).2
      cases b with
      | false =>
        simp only [Bool.false_eq_true, if_false] at q9 ⊢
        exact turned I9 q9
      | true =>
        simp only [if_true] at q9 ⊢
        refine thnF (pe.run _ s9 σ8 H9 _ I9 q9) fun z s10 ⟨yv, H10, I10, r10, ac, hD10, hz10, nx⟩ => ?_
        exact app_ok (X := X.blk sl Hl scope ce fp) I10 hD10 hz10 r10 fun s11 I11 => turned I11 nx
/-- .. as a value; what the element asks may go by the def's variables at the entry -/
def tLcK (wi : TI) (g : TG) (tt : TT) (te : L2.St → TE) (vs : List Nat) : TE := fun σ H Q => tLc wi g tt (te σ) vs σ H Q
theorem pe_lcK {elt tg src : Expr} {tests : List Expr} {scope : Scope} {own : List (Str × Nat)} {pos : Pos} {wi : TI} {g : TG} {tt : TT} {te : L2.St → TE} (calm : X.calm = true) (nd : X.N.Nodup) (hi : PI X tg src wi) (blk : BlkOk X.N X.env.scope scope own)
    (hg : ∀ (s : Shared) (H : Hp) (C : Addr) (cl : List (Str × Addr)) (fp : List Addr), PG (X.blk s H scope (compEnvC scope cl C X.env) fp) tg g)
    (ht : ∀ (s : Shared) (H : Hp) (C : Addr) (cl : List (Str × Addr)) (fp : List Addr), PTs (X.blk s H scope (compEnvC scope cl C X.env) fp) tests tt)
    (he : ∀ (pins : List (Addr × Obj)) (σ : L2.St), ElK X pins σ scope elt (te σ)) (plain : ∀ x, foldedSetIterable src X.env x = pure x := by intro _; rfl) : PE X (.ListComp elt [⟨tg, src, tests, 0⟩] scope pos) (tLcK wi g tt te (own.map (·.2))) := by
  refine ⟨fun pins s σ H Q I ask => ?_⟩
  rw [eval_ListComp]
  refine lc_coreK calm nd I hi blk hg ht (he pins σ) plain ask fun D C s' m H' I' q hn f => ⟨m, hn, fun h2 keep => ?_⟩
  obtain ⟨f0, f1, f2, f3, f4, f5⟩ := f
  exact ⟨.ref D, H', I'.turned (t' := s'.toks) (fun b o nb e => (keep.2 b nb).trans e) f0 f1 f3 f4 f5, rfl, q⟩
end LcK
/-! ### kept lambdas called in a comprehension's block -/
namespace LamY
open PySem PySem.Spec PyProof.Rows L2 LamX
/-- what a lambda captured, within a block of its def -/
theorem CapAt.blk {X : Cx} {pins pinsB : List (Addr × Obj)} {σ σB : L2.St} {H H1 : Hp} {s s1 : Shared} {scope bsc : Scope} {ce : Env} {fp : List Addr} (I : Inv X pins σ H s) (hf : ∀ b ∈ fp, FpOk X pins H b) (L : LamS X.N X.env.scope scope) (J : Inv (X.blk s H bsc ce fp) pinsB σB H1 s1) : CapAt X scope σ H1 s1 := by
  have C := CapAt.of I L
  have un : Un (frs X.stack) fp H H1 s.heap s1.heap := J.base
  have off : ∀ {y : Str} {c : Addr}, (cloFrom X.env.cells scope.names []).lookup y = some c → c ∉ fp := fun {y c} e m => (hf c m).2.2.2.2.1 y c (C.out e) rfl
  have moved : ∀ {c : Addr} {v : Option Value}, c ∉ fp → H c = none → s.heap.IsCell c v → s1.heap.IsCell c v := by
    rintro c v nf free ⟨o, there, isCell⟩
    obtain ⟨sl, there'⟩ := un.any there free nf
    exact ⟨{ o with slots := sl }, there', isCell⟩
  exact {
    inj := C.inj, out := C.out, len := C.len
    cell := fun y c e => by
      obtain ⟨free, v, isCell⟩ := C.cell y c e
      obtain ⟨o, there, _⟩ := id isCell
      exact ⟨un.free c o there free (off e), v, moved (off e) free isCell⟩
    loc := fun i y v e1 e2 k => by
      obtain ⟨u, c, r, e, isCell⟩ := C.loc i y v e1 e2 k
      exact ⟨u, c, r, e, moved (off e) (C.cell y c e).1 isCell⟩ }
section
variable {X : Cx} {pinsB : List (Addr × Obj)} {σ σB : L2.St} {H H0 : Hp} {s s0 : Shared} {bsc : Scope} {ce : Env} {fp : List Addr}
/-- the kept lambda is called in the def that got it from the block -/
theorem act_keepB {CXg : CXT} {Eg : XK} {Ng : List Str} {qg : Str} {sg : Scope} {g f c' : Addr} {cdg : Value} {k i : Nat} {a : Str} {pn : List (Addr × Obj)} {xe : Value → Shared → Prop} {W : WX} {E : XK} {p1 p2 : Pos} {L : LamK}
    (I : Inv (X.blk s0 H0 bsc ce fp) pinsB σB H s) (Cp : CapAt X L.scope σ H s) (ok : LamOk X k L) (at_ : KeepAt X L H f c')
    (tk : Takes ((cxOf CXg X.prog X.w X.K X.mg X.base Ng qg sg g cdg X.A (X.blk s0 H0 bsc ce fp).stack s H Eg).tr pn xe) W) (hW : ∀ cls d σ' H', E cls d H' → W cls d σ' H') (hr : Room (k + 1) (X.A.deeper (envOfC qg sg s.heap.objs.size g cdg)))
    (hN : Ng[i]? = some a) (hv : Vis sg a) (hd : (a == ("__debug__" : Str)) = false := by decide) (hcd : (a == ("__classdict__" : Str)) = false := by decide) :
    PE ((cxOf CXg X.prog X.w X.K X.mg X.base Ng qg sg g cdg X.A (X.blk s0 H0 bsc ce fp).stack s H Eg).tr pn xe) (.Call (.Name a p1) [] [] p2)
      (fun σZ HZ Q => σZ[i]? = some (some (.ref f)) ∧ HZ c' = some (CodeO c' (X.env.qual ++ "<lambda>")) ∧ L.t E σ HZ Q) := by
  obtain ⟨dV, doc, pm, ctv, hfun, _, hdf⟩ := at_
  refine ⟨fun pinsZ sZ σZ HZ Q IZ => ?_⟩
  rintro ⟨slot, isCode, asks⟩
  refine wpAny_Call_Name_kw (thn ((pe_var (pos := p1) (i := i) hN hv hd hcd).run pinsZ sZ σZ HZ (fun v H1 => v = .ref f ∧ H1 = HZ) IZ ⟨.ref f, slot, rfl, rfl⟩) fun u s1 got => ?_)
  obtain ⟨_, H1, I1, isRef, rfl, eH⟩ := got
  rw [eH] at I1
  obtain rfl : u = Value.ref f := isRef
  have un : Un (frs (X.blk s0 H0 bsc ce fp).stack) [] H HZ s.heap s1.heap := I1.base
  have fun1 := un.frzs _ _ _ hfun
  have of1 := (I1.hok f _ fun1).1
  refine PySem.W.callWith_F0 ⟨_, _, _, _, of1⟩ ?_
  have dfl1 : DflS L.dflt dV s1.heap := dfl_s (hdf.tup un.tups) I1.hok
  obtain ⟨⟨oc, vs, t, hoc, hdc, hvc⟩, _, _⟩ := I1.hok c' _ isCode
  have ran : codeAny (model X.prog X.w) (X.A.deeper (envOfC qg sg s.heap.objs.size g cdg)) (.call (.ref f) ⟨[], []⟩) (CR (L2.CX X.prog X.w) (envOfC qg sg s.heap.objs.size g cdg :: (X.blk s0 H0 bsc ce fp).stack) X.prog X.w HZ s1 Q E) s1 := by
    obtain ⟨binds, locals, bound⟩ := ok.bind (X.env.qual ++ "<lambda>") (cloFrom X.env.cells L.scope.names []) dV doc pm (.ref c') ctv s1 dfl1
    refine PySem.W.kla_callFunE hr.depth of1 rfl ok.ls.co ok.ls.gen rfl ⟨c', oc, vs, t, rfl, hoc, hdc, hvc⟩ (bound _ _ _ _ ?_)
    refine wpAny_newFunctionEnv (fun y hy => (ok.ls.own y hy).1) locals (fun h₁ hns hsb => ⟨I1.nolimit.fresh _ hsb, ?_⟩) ok.ls.kind
    have kp : ∀ b o, s1.heap.get? b = some o → h₁.get? b = some o := fun b o e => hsb.extBut b o (Nat.ne_of_lt (Heap.lt_size e)) (Heap.get?_push_of_some _ e)
    have J := lam_in (A := X.A.deeper (envOfC qg sg s.heap.objs.size g cdg)) (outer := envOfC qg sg s.heap.objs.size g cdg :: (X.blk s0 H0 bsc ce fp).stack) (E := E) (f := f) (c' := c') (tk := s1.toks + binds.length) Cp ok.ls I1.env0 hr.hd un hns kp
    refine PySem.W.kla_codeExpr (wpAny_mono ((ok.body _ _ s1 HZ E f c' (hr.deeper _)).run [] _ _ HZ Q J asks) (fun v s' done_ => ?_) fun e s' out => out)
    obtain ⟨v', H', J', rv, q⟩ := done_
    exact ⟨v', H', J'.os, J'.bare, J'.base, J'.hok, rv, q⟩
  have up : Passes (L2.CX X.prog X.w) ((cxOf CXg X.prog X.w X.K X.mg X.base Ng qg sg g cdg X.A (X.blk s0 H0 bsc ce fp).stack s H Eg).tr pn xe) E := passes_call tk hW
  refine wpAny_call (codeAny_mono ran fun r s' hq => ?_)
  cases r with
  | error e => exact up pinsZ σZ HZ s1 e s' I1 hq
  | ok fl =>
    cases fl with
    | ret u => exact I1.after hq
    | next => exact False.elim hq
    | brk => exact False.elim hq
    | cont => exact False.elim hq
end
/-- x(e) in a block of X, σ the variables of X at its entry -/
def tFncB (X : Cx) (σ : L2.St) (Ok : LamK → Prop) (TT : (XK → Hp → VK → Prop) → Hp → VK → Prop) (t : TA) : TE := fun σB H Q => t σB H fun vs H1 => ∃ (L : LamK) (f c' : Addr), vs = [.ref f] ∧ Ok L ∧ KeepAt X L H1 f c' ∧ TT (fun E H' Q' => L.t E σ H' Q') H1 Q
theorem pe_fncB {X : Cx} {pins : List (Addr × Obj)} {σ : L2.St} {H0 : Hp} {s0 : Shared} {bsc : Scope} {ce : Env} {fp : List Addr} {k : Nat} {Ok : LamK → Prop} {TT : (XK → Hp → VK → Prop) → Hp → VK → Prop} {x a : Str} {g : Addr} {st : Stmt} {Ng : List Str} {e : Expr} {t : TA} {p pos : Pos}
    (I0 : Inv X pins σ H0 s0) (hf : ∀ b ∈ fp, FpOk X pins H0 b) (D : Dfn X.K X.mg x st g [a]) (Sg : FnScope Ng [a] (defScope st)) (hNg : Ng[0]? = some a) (hva : Vis (defScope st) a)
    (hG : ∀ cdv : Value, GivesTo (X.blk s0 H0 bsc ce fp) Ng x (defScope st) g cdv (defBody st) a (X.env.qual ++ "<lambda>") TT) (hr : Room (k + 2) X.A) (hok : ∀ L, Ok L → LamOk X k L) (ha : PA (X.blk s0 H0 bsc ce fp) [e] t)
    (hg : Gl (X.blk s0 H0 bsc ce fp) x) (hst : starEach (e :: []) (X.blk s0 H0 bsc ce fp).env = (false, eval e (X.blk s0 H0 bsc ce fp).env) :: starEach [] (X.blk s0 H0 bsc ce fp).env := by rfl) (hpl : (backTo pos (starEach [] (X.blk s0 H0 bsc ce fp).env)).any (·.1) = false := by rfl)
    (hdb : (x == ("__debug__" : Str)) = false := by decide) (hd : (a == ("__debug__" : Str)) = false := by decide) (hcd : (a == ("__classdict__" : Str)) = false := by decide) :
    PE (X.blk s0 H0 bsc ce fp) (.Call (.Name x p) [e] [] pos) (tFncB X σ Ok TT t) := by
  obtain ⟨fd, F, b⟩ := D.ex
  obtain ⟨oc, od, kV, doc, pm, an, cdv, ct, osl, rfl, lk, hc⟩ := F.ex
  refine ⟨fun pinsB s σB H Q I h => ?_⟩
  refine wpAny_Call_Name_kw (ld_glob I hg D.g ?_ hdb)
  refine PySem.W.callWith_K (h₀ := X.base) I.ok.mod.kin F.kp (thn (ha.run pos pinsB s σB H _ I h) fun us s1 got => ?_) hst hpl
  obtain ⟨vs, H1, I1, r, L, f, c', rfl, ok, at_, asks⟩ := got
  refine ⟨I1.kIn, ?_⟩
  obtain rfl : us = [Value.ref f] := by
    match us, r with
    | [_], .cons r .nil => rw [show _ = Value.ref f from r]
  have isCode : H1 c' = some (CodeO c' (X.env.qual ++ "<lambda>")) := by
    obtain ⟨_, _, _, _, _, z, _⟩ := at_
    exact z
  have ran : codeAny (model X.prog X.w) X.A (.call (.ref g) ⟨[.ref f], []⟩) (CR C8.CX0 (X.blk s0 H0 bsc ce fp).stack X.prog X.w H1 s1 Q C8.E0) s1 := by
    refine run_ofS (N := Ng) (ps := [a]) (us := [.ref f]) (vs := [.ref f]) lk hc Sg hr I1.env0 (b s1 [.ref f] I1.kIn rfl) (.cons rfl .nil) rfl fun hr' => ?_
    obtain ⟨t', ht', hq'⟩ := hG cdv f c' s1 H1 Q (fun E H' Q' => L.t E σ H' Q') (fun W pn xe E p1 p2 tk hW => act_keepB (i := 0) I1 (CapAt.blk I0 hf (hok L ok).ls I1) (hok L ok) at_ tk hW hr' hNg hva hd hcd) isCode asks
    exact ⟨t', ht'.nox, hq'⟩
  refine wpAny_call (codeAny_mono ran fun r s' hq => ?_)
  cases r with
  | error e => exact (show False from hq).elim
  | ok fl =>
    cases fl with
    | ret u => exact I1.after hq
    | next => exact False.elim hq
    | brk => exact False.elim hq
    | cont => exact False.elim hq
end LamY
/-! ### draws, mixed -/
/-- a source of draws at a: at most n were drawn -/
def Src (H : Hp) (a : Addr) (n : Nat) : Prop := ∃ x y z : Int, H a = some (.lst [.int x, .int y, .int z]) ∧ 0 ≤ x ∧ 0 ≤ z ∧ z ≤ n
theorem Src.mono {H : Hp} {a : Addr} {n m : Nat} (h : Src H a n) (l : n ≤ m) : Src H a m := by
  obtain ⟨x, y, z, e, h1, h2, h3⟩ := h
  exact ⟨x, y, z, e, h1, h2, by omega⟩
theorem Src.same {H H' : Hp} {a : Addr} {n : Nat} (h : Src H a n) (s : Same H H') : Src H' a n := by
  obtain ⟨x, y, z, e, r⟩ := h
  exact ⟨x, y, z, s _ _ e, r⟩
theorem Src.has {H : Hp} {a : Addr} {n : Nat} (h : Src H a n) : ∃ xs, H a = some (.lst xs) := by
  obtain ⟨x, y, z, e, r⟩ := h
  exact ⟨_, e⟩
def spMix : Sp := fun vs H Q _ => ∃ c k, vs = [.int c, .int k] ∧ 0 ≤ k ∧ k ≤ 2000000 ∧ ∀ r, 0 ≤ r → r < 2147483399 → Q (.int r) H
def spWell : Sp := fun vs H Q _ => ∃ c, vs = [.int c] ∧ ∀ a H', H a = none → Same H H' → Src H' a 0 → Q (.ref a) H'
def spNext : Sp := fun vs H Q _ => ∃ (a : Addr) (m : Int) (n : Nat), vs = [.ref a, .int m] ∧ 0 < m ∧ m.natAbs < 2 ^ 1100 ∧ Src H a n ∧ n ≤ 900000 ∧ ∀ (r : Int) H', 0 ≤ r → r < m → Src H' a (n + 1) → Kp a H H' → Q (.int r) H'
def spOne : Sp := fun vs H Q _ => ∃ (a l : Addr) (xs : List V) (n : Nat), vs = [.ref a, .ref l] ∧ a ≠ l ∧ H l = some (.lst xs) ∧ 0 < xs.length ∧ xs.length ≤ 100000 ∧ Src H a n ∧ n ≤ 900000 ∧ ∀ v H', v ∈ xs → Src H' a (n + 1) → Kp a H H' → Q v H'
theorem atI_of {α : Type} {xs : List α} {i : Int} (h0 : 0 ≤ i) (h1 : i < xs.length) : ∃ v, atI xs i = some v ∧ v ∈ xs := by
  have hj : i.toNat < xs.length := by omega
  refine ⟨xs[i.toNat], ?_, List.getElem_mem _⟩
  have e : ((i.toNat : Nat) : Int) = i := by omega
  have := atI_nat (xs := xs) (j := i.toNat) (v := xs[i.toNat]) (List.getElem?_eq_getElem hj)
  rwa [e] at this
section
variable {P : Program} {w : World} {K : PySem.W.Frag} {mg : Str → Option Value} {base : Heap} {L : LA}
abbrev N_wmixed : List Str := ["_law_cell", "_law_k", "_law_figure"]
theorem sc_wmixed : FnScope N_wmixed ["_law_cell", "_law_k"] (defScope st__law_mixed) := ⟨rfl, rfl, rfl, by decide +kernel, rfl, by decide +kernel, by decide +kernel⟩
theorem fn_wmixed (T : LX K mg L) {fd : FuncData} (F : Fun K "_law_mixed" "_law_mixed" st__law_mixed L.f__law_mixed fd) : FnOk P w K mg base CX0 1 L.f__law_mixed fd ["_law_cell", "_law_k"] (spMix) := by
  have nd := sc_wmixed.nd
  refine F.ok sc_wmixed (fun vs H Q E h => ?_) (fun cdv A outer S H vs Q E hr h => ?_)
  · obtain ⟨c, kk, rfl, _⟩ := h
    rfl
  · obtain ⟨c, kk, rfl, k0, k1, k⟩ := h
    refine ⟨_, (pss_cons (ps_set (i := 2) nd rfl (Or.inl rfl) (pe_op op_mod (pe_callTy call_int1 (by rfl) T.b_int (by decide +kernel) (pa_cons (pe_op op_pow (pe_op op_add (pe_op op_add (pe_op op_mod (pe_callTy call_int1 (by rfl) T.b_int (by decide +kernel) (pa_cons (pv 0) pa_nil)) pe_int) (pe_op op_mulW pe_int (pv 1))) pe_int) pe_int) pa_nil)) pe_int))
       (pss_cons (ps_set (i := 2) nd rfl (Or.inl rfl) (pe_op op_mod (pe_callTy call_int1 (by rfl) T.b_int (by decide +kernel) (pa_cons (pe_op op_add (pv 2) (pe_op op_mulW (pe_op op_mod (pe_callTy call_int1 (by rfl) T.b_int (by decide +kernel) (pa_cons (pe_op op_fdivW (pv 0) pe_int) pa_nil)) pe_int) (pe_op op_add (pv 1) pe_int))) pa_nil)) pe_int))
       (pss_cons (ps_set (i := 2) nd rfl (Or.inl rfl) (pe_op op_mod (pe_callTy call_int1 (by rfl) T.b_int (by decide +kernel) (pa_cons (pe_op op_mulW (pv 2) (pe_op op_add (pe_op op_add (pe_op op_fdivW (pv 2) pe_int) pe_int) (pv 1))) pa_nil)) pe_int))
       (pss_one (ps_ret (pe_op op_mod (pe_callTy call_int1 (by rfl) T.b_int (by decide +kernel) (pa_cons (pe_op op_mulW (pv 2) (pe_op op_add (pe_op op_fdivW (pv 2) pe_int) pe_int)) pa_nil)) pe_int)))))), ?_⟩
    have cm1 : CMulW 30011 kk := wide_mul (a := 30) (b := 30) (by decide) (Nat.lt_of_le_of_lt (show kk.natAbs ≤ 2000000 by omega) (by decide)) (by decide) (by decide) (by decide)
    have m0 := Int.emod_nonneg c (show (2147483629 : Int) ≠ 0 by decide)
    have m1 := Int.emod_lt_of_pos c (show (0 : Int) < 2147483629 by decide)
    refine ⟨_, rfl, .inl ⟨_, rfl, _, _, rfl, rfl, (by show (0 : Int) < 2147483629; decide), _, rfl, _, _, rfl, rfl, cm1, _, _, rfl, rfl, _, _, rfl, rfl, _, _, rfl, rfl, ⟨by decide, by decide, ?_⟩, .inl ⟨_, rfl, _, _, rfl, rfl, (by show (0 : Int) < 2147483647; decide), ?_⟩⟩⟩
    · exact Nat.lt_of_le_of_lt (show (c % 2147483629 + 30011 * kk + 7).natAbs ≤ 100000000000 by omega) (by decide)
    have a0 := Int.emod_nonneg ((c % 2147483629 + 30011 * kk + 7) ^ (3 : Int).toNat) (show (2147483647 : Int) ≠ 0 by decide)
    have a1 := Int.emod_lt_of_pos ((c % 2147483629 + 30011 * kk + 7) ^ (3 : Int).toNat) (show (0 : Int) < 2147483647 by decide)
    dsimp only
    generalize (c % 2147483629 + 30011 * kk + 7) ^ (3 : Int).toNat % 2147483647 = f1 at a0 a1 ⊢
    have b0 := Int.emod_nonneg (c / 2147483629) (show (65537 : Int) ≠ 0 by decide)
    have b1 := Int.emod_lt_of_pos (c / 2147483629) (show (0 : Int) < 65537 by decide)
    have cm2 : CMulW (c / 2147483629 % 65537) (kk + 5) := wide_mul (a := 30) (b := 30) (Nat.lt_of_le_of_lt (show (c / 2147483629 % 65537).natAbs ≤ 70000 by omega) (by decide)) (Nat.lt_of_le_of_lt (show (kk + 5).natAbs ≤ 2000005 by omega) (by decide)) (by decide) (by decide) (by decide)
    refine ⟨_, rfl, _, rfl, _, _, rfl, rfl, wide_div (b := 40) (by decide) (by decide) (by decide) (by decide), .inl ⟨_, rfl, _, _, rfl, rfl, (by show (0 : Int) < 65537; decide), _, rfl, _, _, rfl, rfl, _, _, rfl, rfl, cm2, _, _, rfl, rfl, .inl ⟨_, rfl, _, _, rfl, rfl, (by show (0 : Int) < 2147483587; decide), ?_⟩⟩⟩
    have c0 := Int.emod_nonneg (f1 + c / 2147483629 % 65537 * (kk + 5)) (show (2147483587 : Int) ≠ 0 by decide)
    have c1 := Int.emod_lt_of_pos (f1 + c / 2147483629 % 65537 * (kk + 5)) (show (0 : Int) < 2147483587 by decide)
    dsimp only
    generalize (f1 + c / 2147483629 % 65537 * (kk + 5)) % 2147483587 = f2 at c0 c1 ⊢
    have d2 : f2 / 1009 ≤ f2 := Int.ediv_le_self _ c0
    have d3 : 0 ≤ f2 / 1009 := Int.ediv_nonneg c0 (by decide)
    have cm3 : CMulW f2 (f2 / 1009 + 69621 + kk) := wide_mul (a := 40) (b := 40) (Nat.lt_of_le_of_lt (show f2.natAbs ≤ 3000000000 by omega) (by decide)) (Nat.lt_of_le_of_lt (show (f2 / 1009 + 69621 + kk).natAbs ≤ 3000000000 by omega) (by decide)) (by decide) (by decide) (by decide)
    refine ⟨_, rfl, _, rfl, _, _, rfl, rfl, wide_div (b := 40) (by decide) (by decide) (by decide) (by decide), _, _, rfl, rfl, _, rfl, _, _, rfl, rfl, _, _, rfl, rfl, cm3, .inl ⟨_, rfl, _, _, rfl, rfl, (by show (0 : Int) < 2147483563; decide), ?_⟩⟩
    have g0 := Int.emod_nonneg (f2 * (f2 / 1009 + 69621 + kk)) (show (2147483563 : Int) ≠ 0 by decide)
    have g1 := Int.emod_lt_of_pos (f2 * (f2 / 1009 + 69621 + kk)) (show (0 : Int) < 2147483563 by decide)
    dsimp only
    generalize f2 * (f2 / 1009 + 69621 + kk) % 2147483563 = f3 at g0 g1 ⊢
    have h2 : f3 / 2003 ≤ f3 := Int.ediv_le_self _ g0
    have h3 : 0 ≤ f3 / 2003 := Int.ediv_nonneg g0 (by decide)
    have cm4 : CMulW f3 (f3 / 2003 + 40692) := wide_mul (a := 40) (b := 40) (Nat.lt_of_le_of_lt (show f3.natAbs ≤ 3000000000 by omega) (by decide)) (Nat.lt_of_le_of_lt (show (f3 / 2003 + 40692).natAbs ≤ 3000000000 by omega) (by decide)) (by decide) (by decide) (by decide)
    refine ⟨_, rfl, _, rfl, _, _, rfl, rfl, wide_div (b := 40) (by decide) (by decide) (by decide) (by decide), _, _, rfl, rfl, _, _, rfl, rfl, cm4, .inl ⟨_, rfl, _, _, rfl, rfl, (by show (0 : Int) < 2147483399; decide), ?_⟩⟩
    exact k _ (Int.emod_nonneg _ (by decide)) (Int.emod_lt_of_pos _ (by decide))
theorem ok_wmixed (T : LX K mg L) : Cal P w K mg base "_law_mixed" 1 L.f__law_mixed ["_law_cell", "_law_k"] (spMix) := T.d__law_mixed.cal fun fd F => fn_wmixed T F
abbrev N_wwell : List Str := ["_law_cell"]
theorem sc_wwell : FnScope N_wwell ["_law_cell"] (defScope st__law_well) := ⟨rfl, rfl, rfl, by decide +kernel, rfl, by decide +kernel, by decide +kernel⟩
theorem fn_wwell (T : LX K mg L) {fd : FuncData} (F : Fun K "_law_well" "_law_well" st__law_well L.f__law_well fd) : FnOk P w K mg base CX0 1 L.f__law_well fd ["_law_cell"] (spWell) := by
  have nd := sc_wwell.nd
  refine F.ok sc_wwell (fun vs H Q E h => ?_) (fun cdv A outer S H vs Q E hr h => ?_)
  · obtain ⟨c, rfl, _⟩ := h
    rfl
  · obtain ⟨c, rfl, k⟩ := h
    refine ⟨_, (pss_one (ps_ret (pe_lst (pa_cons (pe_op op_mul (pv 0) (pe_callTy call_int1 (by rfl) T.b_int (by decide +kernel) (pa_cons (pe_cmpR op_ge (pv 0) (pe_op op_pow pe_int pe_int) (nomark _)) pa_nil))) (pa_cons (pv 0) (pa_cons pe_int pa_nil)))))), ?_⟩
    refine ⟨_, rfl, _, rfl, _, _, rfl, rfl, ⟨by decide, by decide, by decide⟩, _, _, rfl, rfl, .inr ⟨_, rfl, _, _, rfl, rfl, ?_, ?_⟩⟩
    · refine .inr ?_
      split <;> decide
    · refine ⟨_, rfl, (by show 3 ≤ sizeLine; decide), fun l hl => ?_⟩
      refine k l _ hl (Same.upd hl) ⟨_, _, _, upd_same, ?_, Int.le_refl _, Int.le_refl _⟩
      by_cases hc : (10 : Int) ^ (18 : Int).toNat ≤ c
      · rw [decide_eq_true hc, if_pos rfl, Int.mul_one]
        exact Int.le_trans (by decide) hc
      · rw [decide_eq_false hc, if_neg Bool.false_ne_true, Int.mul_zero]
        exact Int.le_refl _
theorem ok_wwell (T : LX K mg L) : Cal P w K mg base "_law_well" 1 L.f__law_well ["_law_cell"] (spWell) := T.d__law_well.cal fun fd F => fn_wwell T F
abbrev N_wdraw : List Str := ["_law_well_here", "_law_many", "_law_found"]
theorem sc_wdraw : FnScope N_wdraw ["_law_well_here", "_law_many"] (defScope st__law_draw) := ⟨rfl, rfl, rfl, by decide +kernel, rfl, by decide +kernel, by decide +kernel⟩
theorem fn_wdraw (T : LX K mg L) {fd : FuncData} (F : Fun K "_law_draw" "_law_draw" st__law_draw L.f__law_draw fd) : FnOk P w K mg base CX0 2 L.f__law_draw fd ["_law_well_here", "_law_many"] (spNext) := by
  have G_wmixed := ok_wmixed (P := P) (w := w) (base := base) T
  have nd := sc_wdraw.nd
  refine F.ok sc_wdraw (fun vs H Q E h => ?_) (fun cdv A outer S H vs Q E hr h => ?_)
  · obtain ⟨a, m, n, rfl, _⟩ := h
    rfl
  · obtain ⟨a, m, n, rfl, m0, m1, ⟨x, y, z, ha, x0, z0, z1⟩, hn, k⟩ := h
    refine ⟨_, (pss_cons (ps_if (pt_cmpR op_gt (pe_ix (r := rIxL K) ix_list (pv 0) pe_int (fun _ _ => rfl)) pe_int (nomark _)) (pss_cons (ps_set (i := 2) nd rfl (Or.inl rfl) (pe_op op_mod (pe_callTy call_int1 (by rfl) T.b_int (by decide +kernel) (pa_cons (pe_ix (r := rIxL K) ix_list (pv 0) pe_int (fun _ _ => rfl)) pa_nil)) (pv 1)))
       (pss_cons (ps_asg (pe_op op_fdivW (pe_ix (r := rIxL K) ix_list (pv 0) pe_int (fun _ _ => rfl)) (pv 1)) (pg_sub (pv 0) pe_int set_list))
       (pss_one (ps_ret (pv 2))))) pss_nil)
       (pss_cons (ps_asg (pe_op op_add (pe_ix (r := rIxL K) ix_list (pv 0) pe_int (fun _ _ => rfl)) pe_int) (pg_sub (pv 0) pe_int set_list))
       (pss_one (ps_ret (pe_op op_mod (pe_callTy call_int1 (by rfl) T.b_int (by decide +kernel) (pa_cons (pe_c G_wmixed (hr.mono (by decide)) rfl (pa_cons (pe_ix (r := rIxL K) ix_list (pv 0) pe_int (fun _ _ => rfl)) (pa_cons (pe_ix (r := rIxL K) ix_list (pv 0) pe_int (fun _ _ => rfl)) pa_nil))) pa_nil)) (pv 1)))))), ?_⟩
    refine ⟨_, rfl, _, _, _, _, rfl, rfl, SqL.of ha, rfl, _, _, rfl, rfl, _, rfl, ?_⟩
    refine ite2 (fun c => ?_) (fun c => ?_)
    · refine ⟨_, rfl, _, _, _, _, rfl, rfl, SqL.of ha, rfl, .inl ⟨_, rfl, _, rfl, _, _, rfl, rfl, m0, ?_⟩⟩
      refine ⟨_, rfl, _, _, _, _, rfl, rfl, SqL.of ha, rfl, _, rfl, _, _, rfl, rfl, wide_div m0 m1 (by decide) (by decide), ?_⟩
      refine ⟨_, rfl, _, _, _, 0, rfl, rfl, ha, rfl, ?_⟩
      refine ⟨_, rfl, ?_⟩
      exact k _ _ (Int.emod_nonneg _ (by omega)) (Int.emod_lt_of_pos _ m0) ⟨_, _, _, upd_same, Int.ediv_nonneg x0 (by omega), z0, by omega⟩ Kp.upd
    · refine ⟨_, rfl, _, _, _, _, rfl, rfl, SqL.of ha, rfl, _, _, rfl, rfl, ?_⟩
      refine ⟨_, rfl, _, _, _, 2, rfl, rfl, ha, rfl, ?_⟩
      have hA : (upd H a (.lst [.int x, .int y, .int (z + 1)])) a = some (.lst [.int x, .int y, .int (z + 1)]) := upd_same
      refine ⟨_, rfl, _, _, _, _, rfl, rfl, SqL.of hA, rfl, _, rfl, _, _, _, _, rfl, rfl, SqL.of hA, rfl, y, z + 1, rfl, by omega, by omega, fun r r0 r1 => .inl ⟨_, rfl, _, rfl, _, _, rfl, rfl, m0, ?_⟩⟩
      exact k _ _ (Int.emod_nonneg _ (by omega)) (Int.emod_lt_of_pos _ m0) ⟨_, _, _, hA, x0, by omega, by omega⟩ Kp.upd
theorem ok_wdraw (T : LX K mg L) : Cal P w K mg base "_law_draw" 2 L.f__law_draw ["_law_well_here", "_law_many"] (spNext) := T.d__law_draw.cal fun fd F => fn_wdraw T F
end
/-! ### a request at one breaker -/
instance psDec (b : Tri) (s : StD) (t : Int) : Decidable (psB b s t) := by
  unfold psB
  infer_instance
def stpS (b : Tri) (s : StD) (t : Int) (g : Bool) : StD := if g = true then okS b s else badS b s t
theorem okS_closed {b : Tri} {s : StD} (h : s.1 = "closed") : okS b s = (("closed", 0) : StD) := by
  have e : hfS s = s := if_neg (by rw [h]; exact sC_O)
  unfold okS
  rw [e]
  exact if_neg fun q => sC_H (h.symm.trans q.1)
theorem okS_half {b : Tri} {s : StD} (h : s.1 = "half") : okS b s = if s.2 + 1 < b.2.2 then (("half", s.2 + 1) : StD) else ("closed", 0) := by
  have e : hfS s = s := if_neg (by rw [h]; exact sH_O)
  unfold okS
  rw [e]
  by_cases c : s.2 + 1 < b.2.2
  · rw [if_pos c, if_pos ⟨h, c⟩]
  · rw [if_neg c, if_neg fun q => c q.2]
theorem okS_open {b : Tri} {s : StD} (h : s.1 = "open") : okS b s = if 1 < b.2.2 then (("half", 1) : StD) else ("closed", 0) := by
  have e : hfS s = (("half", 0) : StD) := if_pos h
  unfold okS
  rw [e]
  by_cases c : (1 : Int) < b.2.2
  · rw [if_pos c, if_pos ⟨rfl, by show (0 : Int) + 1 < b.2.2; omega⟩]
    rfl
  · rw [if_neg c, if_neg fun q => c (by have q2 : (0 : Int) + 1 < b.2.2 := q.2; omega)]
theorem badS_closed {b : Tri} {s : StD} {t : Int} (h : s.1 = "closed") : badS b s t = if s.2 + 1 < b.1 then (("closed", s.2 + 1) : StD) else ("open", t) := by
  have e : hfS s = s := if_neg (by rw [h]; exact sC_O)
  unfold badS
  rw [e]
  by_cases c : s.2 + 1 < b.1
  · rw [if_pos c, if_pos ⟨h, c⟩]
  · rw [if_neg c, if_neg fun q => c q.2]
theorem badS_other {b : Tri} {s : StD} {t : Int} (h : ¬ s.1 = "closed") : badS b s t = (("open", t) : StD) := by
  unfold badS
  refine if_neg fun q => ?_
  have q1 := q.1
  unfold hfS at q1
  split at q1
  · exact sH_C q1
  · exact h q1
def spPasses : Sp := fun vs H Q _ => ∃ x y b s t, vs = [x, y, .int t] ∧ BrAt H x b ∧ StAt H y s ∧ Q (.bl (decide (psB b s t))) H
def spBehind : Sp := fun vs H Q _ => ∃ x y b s t g, vs = [x, y, .int t, .bl g] ∧ BrAt H x b ∧ StAt H y s ∧ okW s ∧ ∀ c H', H' c = some (.tup [.str (stpS b s t g).1, .int (stpS b s t g).2]) → Same H H' → H c = none → Q (.ref c) H'
section
variable {P : Program} {w : World} {K : PySem.W.Frag} {mg : Str → Option Value} {base : Heap} {L : LA}
abbrev N_passes : List Str := ["breaker", "state", "time"]
theorem sc_passes : FnScope N_passes ["breaker", "state", "time"] (defScope st_passes) := ⟨rfl, rfl, rfl, by decide +kernel, rfl, by decide +kernel, by decide +kernel⟩
theorem fn_passes (T : LX K mg L) {fd : FuncData} (F : Fun K "passes" "passes" st_passes L.f_passes fd) : FnOk P w K mg base CX0 1 L.f_passes fd ["breaker", "state", "time"] (spPasses) := by
  have nd := sc_passes.nd
  refine F.ok sc_passes (fun vs H Q E h => ?_) (fun cdv A outer S H vs Q E hr h => ?_)
  · obtain ⟨x, y, b, s, t, rfl, _⟩ := h
    rfl
  · obtain ⟨x, y, b, s, t, rfl, ⟨ab, rfl, hb⟩, ⟨as, rfl, hs⟩, k⟩ := h
    refine ⟨_, (pss_one (ps_ret (pe_or (pe_cmpR op_ne (pe_ix (r := rIxT K) ix_tup (pv 1) pe_int (fun _ _ => rfl)) pe_str (nomark _)) (pe_one (pe_cmpR op_ge (pe_op op_sub (pv 2) (pe_ix (r := rIxT K) ix_tup (pv 1) pe_int (fun _ _ => rfl))) (pe_ix (r := rIxT K) ix_tup (pv 0) pe_int (fun _ _ => rfl)) (nomark _)))))), ?_⟩
    refine ⟨_, rfl, as, _, 0, .str s.1, rfl, rfl, SqT.of hs, rfl, rfl, _, rfl, ite2 (fun c => ?_) (fun c => ?_)⟩
    · have c' : ¬ s.1 = "open" := fun e => by simp [e] at c
      rw [decide_eq_true (show psB b s t from fun e => absurd e c')] at k
      exact k
    · have c' : s.1 = "open" := by simpa using c
      have e : decide (psB b s t) = decide (b.2.1 ≤ t - s.2) := by
        rw [Bool.eq_iff_iff, decide_eq_true_iff, decide_eq_true_iff]
        exact ⟨fun h => h c', fun h _ => h⟩
      rw [e] at k
      exact ⟨_, rfl, _, rfl, as, _, 1, .int s.2, rfl, rfl, SqT.of hs, rfl, _, _, rfl, rfl, _, rfl, ab, _, 1, .int b.2.1, rfl, rfl, SqT.of hb, rfl, _, _, rfl, rfl, k⟩
theorem ok_passes (T : LX K mg L) : Cal P w K mg base "passes" 1 L.f_passes ["breaker", "state", "time"] (spPasses) := T.d_passes.cal fun fd F => fn_passes T F
abbrev N_statebehind : List Str := ["breaker", "state", "time", "succeeded", "failures", "wait", "successes", "kind", "number", "reached"]
theorem sc_statebehind : FnScope N_statebehind ["breaker", "state", "time", "succeeded"] (defScope st_state_behind) := ⟨rfl, rfl, rfl, by decide +kernel, rfl, by decide +kernel, by decide +kernel⟩
theorem fn_statebehind (T : LX K mg L) {fd : FuncData} (F : Fun K "state_behind" "state_behind" st_state_behind L.f_state_behind fd) : FnOk P w K mg base CX0 1 L.f_state_behind fd ["breaker", "state", "time", "succeeded"] (spBehind) := by
  have nd := sc_statebehind.nd
  refine F.ok sc_statebehind (fun vs H Q E h => ?_) (fun cdv A outer S H vs Q E hr h => ?_)
  · obtain ⟨x, y, b, s, t, g, rfl, _⟩ := h
    rfl
  · obtain ⟨x, y, b, s, t, g, rfl, ⟨ab, rfl, hb⟩, ⟨as, rfl, hs⟩, ok, k⟩ := h
    refine ⟨_, (pss_cons (ps_asg (pv 0) (pg_tup rfl (pgs_cons (pg_name (i := 4) nd rfl (Or.inl rfl)) (pgs_cons (pg_name (i := 5) nd rfl (Or.inl rfl)) (pgs_cons (pg_name (i := 6) nd rfl (Or.inl rfl)) pgs_nil)))))
       (pss_cons (ps_asg (pv 1) (pg_tup rfl (pgs_cons (pg_name (i := 7) nd rfl (Or.inl rfl)) (pgs_cons (pg_name (i := 8) nd rfl (Or.inl rfl)) pgs_nil))))
       (pss_cons (ps_if (PW.pt (pw_and (pt_val (pv 3)) (pw_and1 (pt_cmpR op_ne (pv 7) pe_str (nomark _))))) (pss_cons (ps_set (i := 9) nd rfl (Or.inl rfl) (pe_ifExp (pt_cmpR op_eq (pv 7) pe_str (nomark _)) (pe_op op_add (pv 8) pe_int) pe_int))
       (pss_one (ps_ret (pe_ifExp (pt_cmpR op_lt (pv 9) (pv 6) (nomark _)) (pe_tup (pa_cons pe_str (pa_cons (pv 9) pa_nil))) (pe_tup (pa_cons pe_str (pa_cons pe_int pa_nil))))))) pss_nil)
       (pss_cons (ps_if (pt_val (pv 3)) (pss_one (ps_ret (pe_tup (pa_cons pe_str (pa_cons pe_int pa_nil))))) pss_nil)
       (pss_cons (ps_if (PW.pt (pw_and (pt_cmpR op_eq (pv 7) pe_str (nomark _)) (pw_and1 (pt_cmpR op_lt (pe_op op_add (pv 8) pe_int) (pv 4) (nomark _))))) (pss_one (ps_ret (pe_tup (pa_cons pe_str (pa_cons (pe_op op_add (pv 8) pe_int) pa_nil))))) pss_nil)
       (pss_one (ps_ret (pe_tup (pa_cons pe_str (pa_cons (pv 2) pa_nil)))))))))), ?_⟩
    refine ⟨_, rfl, ab, _, rfl, SqT.of hb, rfl, _, _, rfl, _, _, rfl, _, _, rfl, rfl, ?_⟩
    refine ⟨_, rfl, as, _, rfl, SqT.of hs, rfl, _, _, rfl, _, _, rfl, rfl, ?_⟩
    have fin : ∀ (d : StD), stpS b s t g = d → ∀ p, H p = none → Q (.ref p) (upd H p (.tup [.str d.1, .int d.2])) := fun d e p hp => by
      subst e
      exact k p _ upd_same (Same.upd hp) hp
    clear k
    cases g with
    | true =>
      refine ⟨_, rfl, _, rfl, iteT ⟨_, rfl, rfl, _, rfl, ite2 (fun c => ?_) (fun c => ?_)⟩⟩
      · have c' : ¬ s.1 = "closed" := fun e => by simp [e] at c
        refine ⟨_, rfl, rfl, _, rfl, ite2 (fun h => ?_) (fun h => ?_)⟩
        · have h' : s.1 = "half" := V.str.inj (of_decide_eq_true h)
          refine ⟨_, rfl, _, _, rfl, rfl, _, rfl, _, rfl, _, _, rfl, rfl, _, rfl, ite2 (fun l => ?_) (fun l => ?_)⟩
          · exact ⟨_, rfl, (by show 2 ≤ sizeLine; decide), fin ("half", s.2 + 1) ((okS_half h').trans (if_pos (of_decide_eq_true l)))⟩
          · exact ⟨(by show 2 ≤ sizeLine; decide), fin ("closed", 0) ((okS_half h').trans (if_neg fun q => l (decide_eq_true q)))⟩
        · have h' : ¬ s.1 = "half" := fun e => h (decide_eq_true (congrArg V.str e))
          have o : s.1 = "open" := by
            rcases ok with e | e | e
            · exact absurd e c'
            · exact e
            · exact absurd e h'
          refine ⟨_, rfl, _, rfl, _, _, rfl, rfl, _, rfl, ite2 (fun l => ?_) (fun l => ?_)⟩
          · exact ⟨_, rfl, (by show 2 ≤ sizeLine; decide), fin ("half", 1) ((okS_open o).trans (if_pos (of_decide_eq_true l)))⟩
          · exact ⟨(by show 2 ≤ sizeLine; decide), fin ("closed", 0) ((okS_open o).trans (if_neg fun q => l (decide_eq_true q)))⟩
      · have c' : s.1 = "closed" := by simpa using c
        exact ⟨_, rfl, _, rfl, iteT ⟨(by show 2 ≤ sizeLine; decide), fin ("closed", 0) (okS_closed c')⟩⟩
    | false =>
      refine ⟨_, rfl, _, rfl, iteF ⟨_, rfl, _, rfl, iteF ⟨_, rfl, rfl, _, rfl, ite2 (fun c => ?_) (fun c => ?_)⟩⟩⟩
      · have c' : s.1 = "closed" := V.str.inj (of_decide_eq_true c)
        refine ⟨_, rfl, _, _, rfl, rfl, _, rfl, _, _, rfl, rfl, _, rfl, ite2 (fun l => ?_) (fun l => ?_)⟩
        · exact ⟨_, rfl, _, _, rfl, rfl, (by show 2 ≤ sizeLine; decide), fin ("closed", s.2 + 1) ((badS_closed c').trans (if_pos (of_decide_eq_true l)))⟩
        · exact ⟨_, rfl, (by show 2 ≤ sizeLine; decide), fin ("open", t) ((badS_closed c').trans (if_neg fun q => l (decide_eq_true q)))⟩
      · have c' : ¬ s.1 = "closed" := fun e => c (decide_eq_true (congrArg V.str e))
        refine iteF ⟨_, rfl, (by show 2 ≤ sizeLine; decide), fin ("open", t) (badS_other c')⟩
theorem ok_statebehind (T : LX K mg L) : Cal P w K mg base "state_behind" 1 L.f_state_behind ["breaker", "state", "time", "succeeded"] (spBehind) := T.d_state_behind.cal fun fd F => fn_statebehind T F
end
/-! ### logs of one breaker -/
def nxG (b : Tri) (s : StD) (t : Int) : StD := if psB b s t then badS b s t else s
def stG (b : Tri) (s : StD) (ns : List Int) : StD := ns.foldl (nxG b) s
def lgG (b : Tri) : StD → List Int → List (Int × Bool)
  | _, [] => []
  | s, t :: r => (t, decide (psB b s t)) :: lgG b (nxG b s t) r
theorem stG_app (b : Tri) (s : StD) (xs : List Int) (t : Int) : stG b s (xs ++ [t]) = nxG b (stG b s xs) t := by
  unfold stG
  rw [List.foldl_append]
  rfl
theorem lgG_app (b : Tri) : ∀ (xs : List Int) (s : StD) (t : Int), lgG b s (xs ++ [t]) = lgG b s xs ++ [(t, decide (psB b (stG b s xs) t))]
  | [], _, _ => rfl
  | x :: xs, s, t => by
    show (x, decide (psB b s x)) :: lgG b (nxG b s x) (xs ++ [t]) = _
    rw [lgG_app b xs]
    rfl
theorem lgG_len (b : Tri) : ∀ (xs : List Int) (s : StD), (lgG b s xs).length = xs.length
  | [], _ => rfl
  | x :: xs, s => congrArg Nat.succ (lgG_len b xs _)
theorem bad_W (b : Tri) (s : StD) (t : Int) : okW (badS b s t) := by
  unfold badS
  split
  · exact .inl rfl
  · exact .inr (.inl rfl)
theorem nxG_W {b : Tri} {s : StD} {t : Int} (h : okW s) : okW (nxG b s t) := by
  unfold nxG
  split
  · exact bad_W b s t
  · exact h
/-- what is counted of a breaker that only fails: the failures left, and the time of opening -/
inductive LfR (b : Tri) : StD → Int → V → Prop where
  | cl (n : Int) (n0 : 0 ≤ n) (n1 : n < b.1) : LfR b ("closed", n) (b.1 - n) .non
  | op (t : Int) : LfR b ("open", t) 0 (.int t)
def lfN (b : Tri) (s : StD) (t : Int) : StD := nxG b s t
def LgAt (H : Hp) (x : V) (p : Int × Bool) : Prop := ∃ a, x = .ref a ∧ H a = some (.tup [.int p.1, .bl p.2])
abbrev Lgs (H : Hp) (xs : List V) (ps : List (Int × Bool)) : Prop := Paired (LgAt H) xs ps
theorem Lgs.nl {H H' : Hp} (k : NL H H') {xs : List V} {ps : List (Int × Bool)} (h : Lgs H xs ps) : Lgs H' xs ps := L2.Paired.mapP h fun _ _ ⟨a, e, h⟩ => ⟨a, e, k _ _ h fun _ z => nomatch z⟩
theorem Lgs.same {H H' : Hp} (s : Same H H') {xs : List V} {ps : List (Int × Bool)} (h : Lgs H xs ps) : Lgs H' xs ps := h.nl (NL.of s)
def lgD (p : Int × Bool) : PyData := .tuple [.int p.1, .bool p.2]
theorem Lgs.dp {K : PySem.W.Frag} {H : Hp} : ∀ {xs : List V} {ps : List (Int × Bool)}, Lgs H xs ps → DpAll K H xs (ps.map lgD)
  | _, _, .nil => .nil
  | _, _, .cons ⟨a, e, h⟩ t => by
    subst e
    exact .cons (.tup (SqT.of h) (.cons (.int _) (.cons (.bl _) .nil))) (Lgs.dp t)
theorem Lgs.dpl {K : PySem.W.Frag} {H : Hp} {l : Addr} {ys : List V} {ps : List (Int × Bool)} (h : H l = some (.lst ys)) (s : Lgs H ys ps) : Dp K H (.ref l) (.list (ps.map lgD)) := .lst (SqL.of h) s.dp
theorem lg_can : ∀ ps : List (Int × Bool), PyData.canLayAll0 (ps.map lgD) = true ∧ PyData.depthAll (ps.map lgD) ≤ 10
  | [] => ⟨by simp [PyData.canLayAll0], by simp [PyData.depthAll]⟩
  | p :: ps => by
    obtain ⟨h1, h2⟩ := lg_can ps
    refine ⟨?_, ?_⟩
    · rw [List.map_cons, PyData.canLayAll0, h1]
      simp [lgD, PyData.canLay0, PyData.canLayAll0]
    · rw [List.map_cons, PyData.depthAll]
      have h3 : (lgD p).depth ≤ 10 := by simp [lgD, PyData.depth, PyData.depthAll]
      omega
theorem lg_sh (ps : List (Int × Bool)) : SeqAt.shaped (.list (ps.map lgD)) = true := by
  obtain ⟨h1, h2⟩ := lg_can ps
  refine Bool.and_eq_true_iff.mpr ⟨?_, decide_eq_true ?_⟩
  · rw [PyData.canLay0]
    exact h1
  · rw [PyData.depth]
    omega
theorem lgD_eq (p q : Int × Bool) : PyData.eqv (lgD p) (lgD q) = decide (p = q) := by
  obtain ⟨a, b⟩ := p
  obtain ⟨a', b'⟩ := q
  simp only [lgD, PyData.eqv, PyData.eqvAll, Bool.and_true]
  rw [Bool.eq_iff_iff]
  simp [Prod.ext_iff]
theorem lgDs_eq : ∀ ps qs : List (Int × Bool), PyData.eqvAll (ps.map lgD) (qs.map lgD) = decide (ps = qs)
  | [], [] => by simp [PyData.eqvAll]
  | [], _ :: _ => by simp [PyData.eqvAll]
  | _ :: _, [] => by simp [PyData.eqvAll]
  | p :: ps, q :: qs => by
    rw [List.map_cons, List.map_cons, PyData.eqvAll, lgD_eq, lgDs_eq ps qs, Bool.eq_iff_iff]
    simp
theorem lg_eq (ps qs : List (Int × Bool)) : PyData.eqv (.list (ps.map lgD)) (.list (qs.map lgD)) = decide (ps = qs) := by
  rw [PyData.eqv]
  exact lgDs_eq ps qs
/-- ascending times from a least one on -/
def Asc : Int → List Int → Prop
  | _, [] => True
  | lo, t :: r => lo ≤ t ∧ Asc (t + 1) r
/-- the least time that may follow -/
def lstG : Int → List Int → Int
  | lo, [] => lo
  | _, t :: r => lstG (t + 1) r
theorem asc_take : ∀ {lo : Int} {ns : List Int} {i : Nat} {t : Int}, Asc lo ns → ns[i]? = some t → (lstG lo (ns.take i)) ≤ t := by
  intro lo ns
  induction ns generalizing lo with
  | nil => intro i t h e; cases e
  | cons x r ih =>
    intro i t h e
    cases i with
    | zero => cases e; exact h.1
    | succ i =>
      show lstG (x + 1) (r.take i) ≤ t
      exact ih (i := i) h.2 e
theorem lst_app : ∀ (lo : Int) (ns : List Int) (t : Int), lstG lo (ns ++ [t]) = t + 1
  | _, [], _ => rfl
  | _, x :: r, t => lst_app (x + 1) r t
def spChkT : Sp := fun vs H Q _ => ∃ a ns, vs = [.ref a] ∧ H a = some (.lst (ns.map V.int)) ∧ Asc 0 ns ∧ ns.length ≤ 1000 ∧ ∀ H', Same H H' → Q .non H'
def spLogOf : Sp := fun vs H Q _ => ∃ x b a ns, vs = [x, .ref a] ∧ BrAt H x b ∧ OkT b ∧ H a = some (.lst (ns.map V.int)) ∧ Asc 0 ns ∧ ns.length ≤ 1000 ∧ ∀ l zs H', H' l = some (.lst zs) → Lgs H' zs (lgG b ("closed", 0) ns) → Same H H' → H l = none → Q (.ref l) H'
section
variable {P : Program} {w : World} {K : PySem.W.Frag} {mg : Str → Option Value} {base : Heap} {L : LA}
abbrev N_checktimes : List Str := ["times", "least", "at", "time"]
theorem sc_checktimes : FnScope N_checktimes ["times"] (defScope st_check_times) := ⟨rfl, rfl, rfl, by decide +kernel, rfl, by decide +kernel, by decide +kernel⟩
theorem fn_checktimes (T : LX K mg L) {fd : FuncData} (F : Fun K "check_times" "check_times" st_check_times L.f_check_times fd) : FnOk P w K mg base (L2.CX P w) 3 L.f_check_times fd ["times"] (spChkT) := by
  obtain ⟨tk_MOST_ENTRIES, c_MOST_ENTRIES⟩ := T.n_MOST_ENTRIES
  have G_isatleast := ok_isatleast (P := P) (w := w) (base := base) T
  have nd := sc_checktimes.nd
  refine F.okX sc_checktimes (fun vs H Q E h => ?_) (fun cdv A outer S H vs Q E hr h => ?_)
  · obtain ⟨a, ns, rfl, _⟩ := h
    rfl
  · obtain ⟨a, ns, rfl, ha, asc, hl, k⟩ := h
    refine ⟨_, (pss_cons (ps_if (PW.pt (pw_or (pt_not (pt_val (pe_callB call_isi (by rfl) T.b_isinstance (by decide +kernel) (pa_cons (pv 0) (pa_cons (pe_bltn (by rfl) T.b_list (by decide +kernel : bootBuiltins "list" = some (.type "list")) (v := .ty "list") rfl) pa_nil))))) (pw_or1 (pt_cmpR op_gt (pe_callB call_len_seq (by rfl) T.b_len PySem.boot_len (pa_cons (pv 0) pa_nil)) (pe_gI c_MOST_ENTRIES) (nomark _))))) (pss_one (ps_raise rfl (takes_of rfl rfl rfl rfl) (mk_InvalidLog T (hr.mono (by decide)) rfl (pa_cons (pe_un un_neg pe_int) pa_nil)))) pss_nil)
       (pss_cons (ps_set (i := 1) nd rfl (Or.inl rfl) pe_int)
       (pss_one (ps_for (passes_of rfl) rfl (pi_enum (by rfl) T.b_enumerate (pa_cons (pv 0) pa_nil)) (pg_tup rfl (pgs_cons (pg_name (i := 2) nd rfl (Or.inl rfl)) (pgs_cons (pg_name (i := 3) nd rfl (Or.inl rfl)) pgs_nil))) (pss_cons (ps_if (pt_not (pt_val (pe_c G_isatleast (hr.mono (by decide)) rfl (pa_cons (pv 3) (pa_cons (pv 1) pa_nil))))) (pss_one (ps_raise rfl (takes_of rfl rfl rfl rfl) (mk_InvalidLog T (hr.mono (by decide)) rfl (pa_cons (pv 2) pa_nil)))) pss_nil)
       (pss_one (ps_set (i := 1) nd rfl (Or.inl rfl) (pe_op op_add (pv 3) pe_int)))))))), ?_⟩
    refine ⟨_, rfl, _, .ty "list", _, _, _, rfl, .ty "list", (Kd.lst ha).ty, (Kd.lst ha).kit "list" _ (.inr ⟨by decide, by decide, rfl⟩), _, rfl, iteF ?_⟩
    refine ⟨_, rfl, a, _, rfl, .inl (SqL.of ha), _, _, rfl, rfl, _, rfl, ?_⟩
    have hn : ¬ ((1000 : Int) < ((ns.map V.int).length : Nat)) := by rw [List.length_map]; omega
    rw [decide_eq_false hn]
    refine iteF ?_
    refine ⟨_, rfl, a, _, rfl, SqL.of ha, for_enum (K := K) (a := a) (xs := ns.map V.int) (fun i σ H2 => ∃ u v : Option V, σ = [some (.ref a), some (.int (lstG 0 (ns.take i))), u, v] ∧ Same H H2) ⟨none, none, rfl, Same.refl H⟩ (fun i σ H2 _ ⟨_, _, _, s2⟩ => SqL.of (s2 _ _ ha)) ?_ ?_⟩
    · rintro i x T' σ H2 hx ⟨u, v, rfl, s2⟩ hT
      rw [List.getElem?_map] at hx
      obtain ⟨t, ht, rfl⟩ := Option.map_eq_some_iff.mp hx
      have s3 : Same H (upd H2 T' (.tup [.int (i : Nat), .int t])) := s2.trans (Same.upd hT)
      refine ⟨T', _, rfl, SqT.of upd_same, rfl, _, _, rfl, _, _, rfl, rfl, ?_⟩
      refine ⟨_, rfl, _, rfl, _, _, _, rfl, .int _, _, rfl, ?_⟩
      show if (!(decide (lstG 0 (ns.take i) ≤ t))) = true then _ else _
      rw [decide_eq_true (asc_take asc ht)]
      refine iteF ?_
      have e : ns.take (i + 1) = ns.take i ++ [t] := by rw [List.take_add_one, ht]; rfl
      rw [e, lst_app]
      exact ⟨_, rfl, _, _, rfl, rfl, _, _, rfl, s3⟩
    · rintro σ H2 ⟨u, v, rfl, s2⟩
      exact k H2 s2
theorem ok_checktimes (T : LX K mg L) : CalX P w K mg base "check_times" 3 L.f_check_times ["times"] (spChkT) := T.d_check_times.calX fun fd F => fn_checktimes T F
abbrev N_logof : List Str := ["breaker", "times", "log", "state", "time", "passed"]
theorem sc_logof : FnScope N_logof ["breaker", "times"] (defScope st_log_of) := ⟨rfl, rfl, rfl, by decide +kernel, rfl, by decide +kernel, by decide +kernel⟩
theorem fn_logof (T : LX K mg L) {fd : FuncData} (F : Fun K "log_of" "log_of" st_log_of L.f_log_of fd) : FnOk P w K mg base (L2.CX P w) 4 L.f_log_of fd ["breaker", "times"] (spLogOf) := by
  have G_checktimes := ok_checktimes (P := P) (w := w) (base := base) T
  have G_isbreaker := ok_isbreaker (P := P) (w := w) (base := base) T
  have G_passes := ok_passes (P := P) (w := w) (base := base) T
  have G_statebehind := ok_statebehind (P := P) (w := w) (base := base) T
  have nd := sc_logof.nd
  refine F.okX sc_logof (fun vs H Q E h => ?_) (fun cdv A outer S H vs Q E hr h => ?_)
  · obtain ⟨x, b, a, ns, rfl, _⟩ := h
    rfl
  · obtain ⟨x, b, a, ns, rfl, hb, okb, ha, asc, hl, k⟩ := h
    refine ⟨_, (pss_cons (ps_if (pt_not (pt_val (pe_c G_isbreaker (hr.mono (by decide)) rfl (pa_cons (pv 0) pa_nil)))) (pss_one (ps_raise rfl (takes_of rfl rfl rfl rfl) (mk_InvalidRow T (hr.mono (by decide)) rfl (pa_cons pe_str (pa_cons (pe_un un_neg pe_int) pa_nil))))) pss_nil)
       (pss_cons (ps_expr (pe_cX G_checktimes (hr.mono (by decide)) rfl (fun σ => passAt (takes_of rfl rfl rfl rfl) σ) (pa_cons (pv 1) pa_nil)))
       (pss_cons (ps_set (i := 2) nd rfl (Or.inl rfl) (pe_lst pa_nil))
       (pss_cons (ps_set (i := 3) nd rfl (Or.inl rfl) (pe_tup (pa_cons pe_str (pa_cons pe_int pa_nil))))
       (pss_cons (ps_for (passes_of rfl) rfl (pi_list (pv 1)) (pg_name (i := 4) nd rfl (Or.inl rfl)) (pss_cons (ps_set (i := 5) nd rfl (Or.inl rfl) (pe_c G_passes (hr.mono (by decide)) rfl (pa_cons (pv 0) (pa_cons (pv 3) (pa_cons (pv 4) pa_nil)))))
       (C8.pss_cut (ps_if (pt_val (pv 5)) (pss_one (ps_set (i := 3) nd rfl (Or.inl rfl) (pe_c G_statebehind (hr.mono (by decide)) rfl (pa_cons (pv 0) (pa_cons (pv 3) (pa_cons (pv 4) (pa_cons pe_bl pa_nil))))))) pss_nil)
       (pss_one (ps_expr (pe_bm PySem.F.plainAttrs_list PySem.F.slot_list_append PySem.F.type_list_append mt_append (pv 2) (pa_cons (pe_tup (pa_cons (pv 4) (pa_cons (pv 5) pa_nil))) pa_nil)))))))
       (pss_one (ps_ret (pv 2)))))))), ?_⟩
    refine ⟨_, rfl, x, b, rfl, hb, okb, _, rfl, iteF ?_⟩
    refine ⟨_, rfl, a, ns, rfl, ha, asc, hl, fun H1 s1 => ?_⟩
    refine ⟨(by show 0 ≤ sizeLine; decide), fun l nl => ⟨(by show 2 ≤ sizeLine; decide), fun c nc => ?_⟩⟩
    have s2 := Same.upd (o := .lst []) nl
    have s3 := Same.upd (o := .tup [.str "closed", .int 0]) nc
    have hl3 := s3 _ _ (upd_same : upd H1 l (.lst []) l = _)
    have ha3 := s3 _ _ (s2 _ _ (s1 _ _ ha))
    refine ⟨_, rfl, a, rfl, ⟨_, SqL.of ha3⟩, ?_⟩
    refine for_list (K := K) (a := a) (xs := ns.map V.int) (fun i σ Hx => ∃ (y : V) (v4 v5 : Option V) (zs : List V), σ = [some x, some (.ref a), some (.ref l), some y, v4, v5] ∧ StAt Hx y (stG b ("closed", 0) (ns.take i)) ∧ okW (stG b ("closed", 0) (ns.take i)) ∧ Hx l = some (.lst zs) ∧ Lgs Hx zs (lgG b ("closed", 0) (ns.take i)) ∧ Same H1 Hx)
      ⟨_, none, none, [], rfl, ⟨c, rfl, upd_same⟩, .inl rfl, hl3, .nil, s2.trans s3⟩ (fun i σ Hx _ ⟨_, _, _, _, _, _, _, _, _, sx⟩ => SqL.of (sx _ _ (s1 _ _ ha))) ?_ ?_
    · rintro i v σ Hx hxi ⟨y, v4, v5, zs, rfl, hy, wy, hlx, hz, sx⟩
      rw [List.getElem?_map] at hxi
      obtain ⟨t, ht, rfl⟩ := Option.map_eq_some_iff.mp hxi
      have e : ns.take (i + 1) = ns.take i ++ [t] := by rw [List.take_add_one, ht]; rfl
      have zl := paired_len hz
      rw [lgG_len, List.length_take] at zl
      rw [e, stG_app, lgG_app]
      generalize stG b ("closed", 0) (ns.take i) = s at hy wy ⊢
      have bx : BrAt Hx x b := hb.nl (NL.of (s1.trans sx))
      refine ⟨_, rfl, _, rfl, _, rfl, x, y, b, s, t, rfl, bx, hy, ?_⟩
      refine ⟨fun σ' H' => ∃ y', σ' = [some x, some (.ref a), some (.ref l), some y', some (.int t), some (.bl (decide (psB b s t)))] ∧ StAt H' y' (nxG b s t) ∧ Same Hx H', ?_, ?_⟩
      · refine ⟨_, rfl, _, rfl, ite2 (fun q => ?_) (fun q => ?_)⟩
        · refine ⟨_, rfl, _, rfl, _, rfl, x, y, b, s, t, false, rfl, bx, hy, wy, fun c2 H2 h2 s4 n2 => ?_⟩
          refine ⟨_, rfl, ?_, s4⟩
          rw [show nxG b s t = badS b s t from if_pos (of_decide_eq_true q)]
          exact ⟨c2, rfl, h2⟩
        · refine ⟨_, rfl, ?_, Same.refl _⟩
          rw [show nxG b s t = s from if_neg fun z => q (decide_eq_true z)]
          exact hy
      rintro σ' H2 ⟨y', rfl, hy', s4⟩
      have hl4 := s4 _ _ hlx
      refine ⟨_, rfl, .inl ⟨rfl, _, SqL.of hl4⟩, _, rfl, _, rfl, (by show 2 ≤ sizeLine; decide), fun p np => ?_⟩
      have s5 := Same.upd (o := .tup [.int t, .bl (decide (psB b s t))]) np
      have hl5 := s5 _ _ hl4
      refine ⟨l, _, _, rfl, rfl, hl5, small1 (by omega), ?_⟩
      have n6 := NL.upd (o := .lst (zs ++ [.ref p])) hl5
      refine ⟨y', _, _, zs ++ [.ref p], rfl, (hy'.same s5).nl n6, nxG_W wy, upd_same, ?_, fun u o h => ?_⟩
      · exact paired_app (((hz.same s4).same s5).nl n6) (.cons ⟨p, rfl, n6 _ _ upd_same fun _ z => nomatch z⟩ .nil)
      · rw [upd_ne (ne_of_none h nl)]
        exact s5 _ _ (s4 _ _ (sx _ _ h))
    · rintro σ Hx ⟨y, v4, v5, zs, rfl, hy, wy, hlx, hz, sx⟩
      rw [List.length_map, List.take_length] at hz
      exact ⟨_, rfl, k l zs Hx hlx hz (s1.trans sx) (none_of s1 nl)⟩
theorem ok_logof (T : LX K mg L) : CalX P w K mg base "log_of" 4 L.f_log_of ["breaker", "times"] (spLogOf) := T.d_log_of.calX fun fd F => fn_logof T F
end
/-! ### sources kept -/
theorem src_kp {H H' : Hp} {s l : Addr} {n : Nat} (k : Kp l H H') (h : s ≠ l) (S : Src H s n) : Src H' s n := by
  obtain ⟨x, y, z, e, r⟩ := S
  exact ⟨x, y, z, k _ _ h e, r⟩
/-! ### which error a call raises (_law_said), with repr under any guards -/
abbrev N_wsaid : List Str := ["_law_deed", "_law_found", "e", "_law_kinds", "_law_others"]
theorem sc_wsaid : FnScope N_wsaid ["_law_deed"] (defScope st__law_said) := ⟨rfl, rfl, rfl, by decide +kernel, rfl, by decide +kernel, by decide +kernel⟩
def sdB : List Bool → List V := List.map V.bl
/-- what the text says of an error D: of which of the classes it is -/
structure ErrF (K : PySem.W.Frag) (L : LA) (D : Addr) (r t o i b l : Bool) : Prop where
  isC : IsC K D
  xf : L2.XfC K D
  kr : PySem.W.kitOne K (.ref D) (.ref L.e_InvalidRow) = some r
  kt : PySem.W.kitOne K (.ref D) (.ref L.e_InvalidTime) = some t
  ko : PySem.W.kitOne K (.ref D) (.ref L.e_InvalidOutages) = some o
  ki : PySem.W.kitOne K (.ref D) (.ref L.e_InvalidIndex) = some i
  kb : PySem.W.kitOne K (.ref D) (.ref L.e_InvalidBound) = some b
  kl : PySem.W.kitOne K (.ref D) (.ref L.e_InvalidLog) = some l
  oth : PySem.W.kitAny K (.ref D) [.ref L.e_InvalidTrains, .ref L.e_InvalidCall, .ref L.e_InvalidText, .ref L.e_LimitExceeded] = some false
  ar : PySem.W.kitOne K (.ref D) (.type "ArithmeticError") = some true
  br : PySem.W.exmOne K (.ref D) (.ref L.e_BreakerError) = some true
/-- an error that the call may raise, and what _law_said makes of it -/
inductive SaidA (K : PySem.W.Frag) (g0 : List Code) (D dd : Addr) (H : Hp) (Q : VK) : List Bool → Prop where
  | row (x y : V) (n1 : PySem.W.findIn K (.ref D) "part" = some none) (n2 : PySem.W.findIn K (.ref D) "at" = some none) (h : H dd = some (.xd [("at", y), ("part", x)])) (k : ∀ p H', H' p = some (.tup [.str "row", x, y]) → Same H H' → H p = none → Q (.ref p) H') : SaidA K g0 D dd H Q [true, false, false, false, false, false]
  | time (v : V) (z : Str) (n1 : PySem.W.findIn K (.ref D) "time" = some none) (h : H dd = some (.xd [("time", v)])) (r : ReprG g0 H v z) (k : ∀ p H', H' p = some (.tup [.str "time", .str z]) → Same H H' → H p = none → Q (.ref p) H') : SaidA K g0 D dd H Q [false, true, false, false, false, false]
  | outages (v : V) (n1 : PySem.W.findIn K (.ref D) "at" = some none) (h : H dd = some (.xd [("at", v)])) (k : ∀ p H', H' p = some (.tup [.str "outages", v]) → Same H H' → H p = none → Q (.ref p) H') : SaidA K g0 D dd H Q [false, false, true, false, false, false]
  | index (v : V) (z : Str) (n1 : PySem.W.findIn K (.ref D) "index" = some none) (h : H dd = some (.xd [("index", v)])) (r : ReprG g0 H v z) (k : ∀ p H', H' p = some (.tup [.str "index", .str z]) → Same H H' → H p = none → Q (.ref p) H') : SaidA K g0 D dd H Q [false, false, false, true, false, false]
  | bound (v : V) (n1 : PySem.W.findIn K (.ref D) "part" = some none) (h : H dd = some (.xd [("part", v)])) (k : ∀ p H', H' p = some (.tup [.str "bound", v]) → Same H H' → H p = none → Q (.ref p) H') : SaidA K g0 D dd H Q [false, false, false, false, true, false]
  | log (v : V) (n1 : PySem.W.findIn K (.ref D) "at" = some none) (h : H dd = some (.xd [("at", v)])) (k : ∀ p H', H' p = some (.tup [.str "log", v]) → Same H H' → H p = none → Q (.ref p) H') : SaidA K g0 D dd H Q [false, false, false, false, false, true]
theorem SaidA.has {K : PySem.W.Frag} {g0 : List Code} {D dd : Addr} {H : Hp} {Q : VK} {bs : List Bool} (h : SaidA K g0 D dd H Q bs) : (∃ fs, H dd = some (.xd fs)) ∧ bs.count true = 1 := by
  cases h with
  | row x y n1 n2 h k => exact ⟨⟨_, h⟩, rfl⟩
  | time v z n1 h r k => exact ⟨⟨_, h⟩, rfl⟩
  | outages v n1 h k => exact ⟨⟨_, h⟩, rfl⟩
  | index v z n1 h r k => exact ⟨⟨_, h⟩, rfl⟩
  | bound v n1 h k => exact ⟨⟨_, h⟩, rfl⟩
  | log v n1 h k => exact ⟨⟨_, h⟩, rfl⟩
def SaidR (K : PySem.W.Frag) (L : LA) (g0 : List Code) (cls : Value) (d : Option Addr) (H : Hp) (Q : VK) : Prop := ∃ (D dd : Addr) (r t o i b l : Bool), cls = .ref D ∧ d = some dd ∧ ErrF K L D r t o i b l ∧ SaidA K g0 D dd H Q [r, t, o, i, b, l]
theorem ixB {K : PySem.W.Frag} {σ : L2.St} {H : Hp} {p : Addr} {bs : List Bool} {j : Nat} {c : Bool} {Q : Bool → Hp → Prop} (h1 : σ[3]? = some (some (.ref p))) (h2 : H p = some (.lst (sdB bs))) (h3 : bs[j]? = some c) (q : Q c H) : tB (tOp (rIxL K) (tVar 3) (tC (V.int (j : Nat)))) σ H Q :=
  ⟨_, h1, p, _, (j : Nat), .bl c, rfl, rfl, SqL.of h2, atI_nat (by unfold sdB; rw [List.getElem?_map, h3]; rfl), c, rfl, q⟩
theorem cntB {r t o i b l : Bool} (one : [r, t, o, i, b, l].count true = 1) : ([.bool r, .bool t, .bool o, .bool i, .bool b, .bool l] : List PyData).countP (fun e => PyData.eqv e (.bool true)) = 1 := by
  revert one
  cases r <;> cases t <;> cases o <;> cases i <;> cases b <;> cases l <;> simp [PyData.eqv]
/-- the lambda ends well, or with such an error -/
def TTsaid (K : PySem.W.Frag) (L : LA) (g0 : List Code) : (XK → Hp → VK → Prop) → Hp → VK → Prop := fun tl H Q => ∀ (E : XK) (N : VK), (∀ cls d H', SaidR K L g0 cls d H' Q → E cls d H') → (∀ v H', Q .non H' → N v H') → tl E H N
theorem Takes.long {X : Cx} {W : L2.WX} (tk : L2.Takes X W) : L2.Takes X (fun cls d σ H => σ.length = X.N.length → W cls d σ H) := fun u s' x => by
  obtain ⟨a, B, sI, pins, σ, H, cls, d, e, I, nb, up, sky, na, os, ag, w⟩ := x
  exact tk u s' ⟨a, B, sI, pins, σ, H, cls, d, e, I, nb, up, sky, na, os, ag, w I.len⟩
theorem said_gives {X : Cx} {L : LA} (T : LX X.K X.mg L) (hr9 : Room 3 X.A) {g0 : List Code} (hgd : X.A.guards = some g0) {g : Addr} {cdg : Value} {q : Str} : LamX.GivesTo X N_wsaid "_law_said" (defScope st__law_said) g cdg (defBody st__law_said) "_law_deed" q (TTsaid X.K L g0) := by
  intro f c' s H Q tl act hc h
  have nd := sc_wsaid.nd
  have hr := hr9.deeper (PyProof.Rows.envOfC "_law_said" (defScope st__law_said) s.heap.objs.size g cdg)
  refine ⟨_, (pss_cons (ps_set (i := 1) nd rfl (Or.inl rfl) pe_non) (pss_cons (ps_try_as (i := 2) (Wout := fun _ _ _ _ => False) (tb := fun W D σ H => ∃ Ech : XK, (∀ cls d (σ' : L2.St) H', σ'.length = 5 → Ech cls d H' → W cls d σ' H') ∧ σ[0]? = some (some (.ref f)) ∧ H c' = some (LamX.CodeO c' q) ∧ tl Ech H fun _ H' => D.nx σ H') rfl rfl nd rfl rfl ⟨rfl, by decide, Or.inl T.ge_BreakerError⟩ takes0 (fun W pn xe tk _ => ?_) (fun a oe cls d pn hz hf => by exact (pss_cons (ps_set (i := 3) nd rfl (Or.inl rfl) (pe_lst (pa_cons (pe_callB (call_isZ (K := X.K) (by rfl) hz hf) (by rfl) T.b_isinstance (by decide +kernel) (pa_cons (pv 2) (pa_cons (pe_glob rfl T.ge_InvalidRow rr) pa_nil))) (pa_cons (pe_callB (call_isZ (K := X.K) (by rfl) hz hf) (by rfl) T.b_isinstance (by decide +kernel) (pa_cons (pv 2) (pa_cons (pe_glob rfl T.ge_InvalidTime rr) pa_nil))) (pa_cons (pe_callB (call_isZ (K := X.K) (by rfl) hz hf) (by rfl) T.b_isinstance (by decide +kernel) (pa_cons (pv 2) (pa_cons (pe_glob rfl T.ge_InvalidOutages rr) pa_nil))) pa_nil)))))
 (pss_cons (ps_set (i := 3) nd rfl (Or.inl rfl) (pe_op op_cat (pv 3) (pe_lst (pa_cons (pe_callB (call_isZ (K := X.K) (by rfl) hz hf) (by rfl) T.b_isinstance (by decide +kernel) (pa_cons (pv 2) (pa_cons (pe_glob rfl T.ge_InvalidIndex rr) pa_nil))) (pa_cons (pe_callB (call_isZ (K := X.K) (by rfl) hz hf) (by rfl) T.b_isinstance (by decide +kernel) (pa_cons (pv 2) (pa_cons (pe_glob rfl T.ge_InvalidBound rr) pa_nil))) (pa_cons (pe_callB (call_isZ (K := X.K) (by rfl) hz hf) (by rfl) T.b_isinstance (by decide +kernel) (pa_cons (pv 2) (pa_cons (pe_glob rfl T.ge_InvalidLog rr) pa_nil))) pa_nil))))))
 (pss_cons (ps_set (i := 4) nd rfl (Or.inl rfl) (pe_callB (call_isTZ (K := X.K) (by rfl) hz hf) (by rfl) T.b_isinstance (by decide +kernel) (pa_cons (pv 2) (pa_cons (pe_tup (pa_cons (pe_glob rfl T.ge_InvalidTrains rr) (pa_cons (pe_glob rfl T.ge_InvalidCall rr) (pa_cons (pe_glob rfl T.ge_InvalidText rr) (pa_cons (pe_glob rfl T.ge_LimitExceeded rr) pa_nil))))) pa_nil))))
 (pss_one (ps_if (PW.pt (pw_or (pt_cmpR op_ne (pe_bmK (K := X.K) (by rfl) PySem.F.plainAttrs_list PySem.F.slot_list_count PySem.F.type_list_count (mt_dcountK (K := X.K) (by rfl) (by exact hr.units)) (pv 3) (pa_cons pe_bl pa_nil)) pe_int (nomark _)) (pw_or (pt_val (pv 4)) (pw_or1 (pt_not (pt_val (pe_callB (call_isZ (K := X.K) (by rfl) hz hf) (by rfl) T.b_isinstance (by decide +kernel) (pa_cons (pv 2) (pa_cons (pe_bltn (by rfl) T.b_ArithmeticError (by decide +kernel : bootBuiltins "ArithmeticError" = some (.type "ArithmeticError")) (v := .ty "ArithmeticError") rfl) pa_nil))))))))) (pss_one (ps_set (i := 1) nd rfl (Or.inl rfl) pe_str)) (pss_one (ps_if (pt_val (pe_ix (r := rIxL X.K) (ix_listK (K := X.K) (by rfl)) (pv 3) pe_int (fun _ _ => rfl))) (pss_one (ps_set (i := 1) nd rfl (Or.inl rfl) (pe_tup (pa_cons pe_str (pa_cons (pe_xfZ (K := X.K) (by rfl) hz hf (pv 2)) (pa_cons (pe_xfZ (K := X.K) (by rfl) hz hf (pv 2)) pa_nil)))))) (pss_one (ps_if (PW.pt (pw_or (pt_val (pe_ix (r := rIxL X.K) (ix_listK (K := X.K) (by rfl)) (pv 3) pe_int (fun _ _ => rfl))) (pw_or1 (pt_val (pe_ix (r := rIxL X.K) (ix_listK (K := X.K) (by rfl)) (pv 3) pe_int (fun _ _ => rfl)))))) (pss_one (ps_set (i := 1) nd rfl (Or.inl rfl) (pe_ifExp (pt_val (pe_ix (r := rIxL X.K) (ix_listK (K := X.K) (by rfl)) (pv 3) pe_int (fun _ _ => rfl))) (pe_tup (pa_cons pe_str (pa_cons (pe_callB (call_reprG (g := g0) (by exact hgd) (by exact hr.units)) (by rfl) T.b_repr (by decide +kernel) (pa_cons (pe_xfZ (K := X.K) (by rfl) hz hf (pv 2)) pa_nil)) pa_nil))) (pe_tup (pa_cons pe_str (pa_cons (pe_callB (call_reprG (g := g0) (by exact hgd) (by exact hr.units)) (by rfl) T.b_repr (by decide +kernel) (pa_cons (pe_xfZ (K := X.K) (by rfl) hz hf (pv 2)) pa_nil)) pa_nil)))))) (pss_one (ps_if (PW.pt (pw_or (pt_val (pe_ix (r := rIxL X.K) (ix_listK (K := X.K) (by rfl)) (pv 3) pe_int (fun _ _ => rfl))) (pw_or1 (pt_val (pe_ix (r := rIxL X.K) (ix_listK (K := X.K) (by rfl)) (pv 3) pe_int (fun _ _ => rfl)))))) (pss_one (ps_set (i := 1) nd rfl (Or.inl rfl) (pe_tup (pa_cons (pe_ifExp (pt_val (pe_ix (r := rIxL X.K) (ix_listK (K := X.K) (by rfl)) (pv 3) pe_int (fun _ _ => rfl))) pe_str pe_str) (pa_cons (pe_xfZ (K := X.K) (by rfl) hz hf (pv 2)) pa_nil))))) (pss_one (ps_set (i := 1) nd rfl (Or.inl rfl) (pe_tup (pa_cons pe_str (pa_cons (pe_xfZ (K := X.K) (by rfl) hz hf (pv 2)) pa_nil)))))))))))))))))) (pss_one (ps_ret (pv 1))))), ?_⟩
  · refine pss_one ⟨fun pins s' σ H' D I h' => ?_⟩
    obtain ⟨Ech, hW, h1, h2, h3⟩ := h'
    exact (ps_expr (act _ pn xe Ech _ _ (Takes.long tk) (fun cls d σ' H' e z => hW cls d σ' H' z e))).run pins s' σ H' D I ⟨h1, h2, h3⟩
  · refine ⟨fun cls d H' => SaidR X.K L g0 cls d H' Q, fun cls d σ' H' hl z => ?_, rfl, hc, h _ _ (fun _ _ _ z => z) fun _ H' z => ⟨_, rfl, z⟩⟩
    obtain ⟨D, dd, r, t, o, i, b, l, rfl, rfl, F, alt⟩ := z
    obtain ⟨s0, s1, s2, s3, s4, rfl⟩ : ∃ a0 a1 a2 a3 a4, σ' = [a0, a1, a2, a3, a4] := by
      match σ', hl with
      | [a0, a1, a2, a3, a4], _ => exact ⟨a0, a1, a2, a3, a4, rfl⟩
    obtain ⟨⟨fs, hfs⟩, one⟩ := alt.has
    refine ⟨true, F.br, fun _ a na => ?_, fun z => nomatch z⟩
    have isz : ∀ {v : V} {C : Value} {x : Bool} {Hx : Hp} {Qx : VK}, PySem.W.kitOne X.K (.ref D) C = some x → (∀ u, L2.RelV v u → u = C) → Hx dd = some (.xd fs) → Qx (.bl x) Hx → rIsZ X.K a (.ref D) (some dd) [.ref a, v] Hx Qx := fun {v C x Hx Qx} h1 h2 h3 h4 => ⟨D, dd, rfl, rfl, F.isC, v, C, x, fs, rfl, h3, h2, h1, h4⟩
    have ir : ∀ (p : Addr) (u : Value), L2.RelV (.ref p) u → u = .ref p := fun p u hu => hu
    refine ⟨_, rfl, isz F.kr (ir _) hfs ⟨_, rfl, isz F.kt (ir _) hfs ⟨_, rfl, isz F.ko (ir _) hfs ?_⟩⟩⟩
    refine ⟨(by show 3 ≤ sizeLine; decide), fun p1 n1 => ?_⟩
    have S1 := Same.upd (o := .lst [.bl r, .bl t, .bl o]) n1
    have f1 := S1 _ _ hfs
    refine ⟨_, rfl, _, rfl, isz F.ki (ir _) f1 ⟨_, rfl, isz F.kb (ir _) f1 ⟨_, rfl, isz F.kl (ir _) f1 ?_⟩⟩⟩
    refine ⟨(by show 3 ≤ sizeLine; decide), fun p2 n2 => ?_⟩
    have S2 := Same.upd (o := .lst [.bl i, .bl b, .bl l]) n2
    refine ⟨p1, p2, _, _, rfl, rfl, S2 _ _ upd_same, upd_same, (by show 6 ≤ sizeLine; decide), fun p3 n3 => ?_⟩
    have S3 := Same.upd (o := .lst ([.bl r, .bl t, .bl o] ++ [.bl i, .bl b, .bl l])) n3
    refine ⟨_, rfl, (by show 4 ≤ sizeLine; decide), fun p4 n4 => ?_⟩
    have S4 := Same.upd (o := .tup [.ref L.e_InvalidTrains, .ref L.e_InvalidCall, .ref L.e_InvalidText, .ref L.e_LimitExceeded]) n4
    have SS := ((S1.trans S2).trans S3).trans S4
    have h3 := S4 _ _ (upd_same (a := p3) (o := HO.lst ([.bl r, .bl t, .bl o] ++ [.bl i, .bl b, .bl l])))
    refine ⟨D, F.isC, rfl, dd, p4, [L.e_InvalidTrains, L.e_InvalidCall, L.e_InvalidText, L.e_LimitExceeded], fs, rfl, SS _ _ hfs, rfl, upd_same, F.oth, ?_⟩
    generalize upd (upd (upd (upd H' p1 (.lst [.bl r, .bl t, .bl o])) p2 (.lst [.bl i, .bl b, .bl l])) p3 (.lst ([.bl r, .bl t, .bl o] ++ [.bl i, .bl b, .bl l]))) p4 (.tup [.ref L.e_InvalidTrains, .ref L.e_InvalidCall, .ref L.e_InvalidText, .ref L.e_LimitExceeded]) = H4 at SS h3 ⊢
    have h3 : H4 p3 = some (.lst (sdB [r, t, o, i, b, l])) := h3
    refine ⟨_, rfl, .inl ⟨rfl, _, SqL.of h3⟩, p3, _, [.bool r, .bool t, .bool o, .bool i, .bool b, .bool l], .bl true, .bool true, rfl, rfl, SqL.of h3, .cons (.bl r) (.cons (.bl t) (.cons (.bl o) (.cons (.bl i) (.cons (.bl b) (.cons (.bl l) .nil))))), .bl true, by simp [PyData.plainAll, PyData.plain], by simp [PyData.plain], by simp [PyData.depth], ?_⟩
    rw [cntB one]
    refine ⟨rfl, _, rfl, iteF ⟨_, rfl, _, rfl, iteF ⟨_, rfl, isz F.ar (fun u hu => hu) (SS _ _ hfs) ⟨_, rfl, iteF ?_⟩⟩⟩⟩
    have fld : ∀ {f : Str} {v : V} {fs' : List (Str × V)} {Qx : VK} {a0 a1 a3 a4 : Option V} {Hx : Hp}, PySem.W.findIn X.K (.ref D) f = some none → Hx dd = some (.xd fs') → fs'.lookup f = some v → Qx v Hx → tXfZ X.K a (.ref D) (some dd) f (tVar 2) [a0, a1, some (.ref a), a3, a4] Hx Qx := fun no h1 h2 q => ⟨D, F.xf, no, _, rfl, rfl, rfl, dd, _, _, rfl, h1, h2, q⟩
    cases alt with
    | row x y m1 m2 hd k =>
      exact ixB (j := 0) rfl h3 rfl (iteT (fld m1 (SS _ _ hd) rfl (fld m2 (SS _ _ hd) rfl ⟨(by show 3 ≤ sizeLine; decide), fun p5 n5 => ⟨_, rfl, k _ _ upd_same (SS.trans (Same.upd n5)) (none_of SS n5)⟩⟩)))
    | time v z m1 hd rz k =>
      exact ixB (j := 0) rfl h3 rfl (iteF (ixB (j := 1) rfl h3 rfl (iteT (iteT (ixB (j := 1) rfl h3 rfl (iteT (fld m1 (SS _ _ hd) rfl ⟨_, _, rfl, rz.mv (fun b o _ e _ => SS _ _ e), ⟨(by show 2 ≤ sizeLine; decide), fun p5 n5 => ⟨_, rfl, k _ _ upd_same (SS.trans (Same.upd n5)) (none_of SS n5)⟩⟩⟩)))))))
    | outages v m1 hd k =>
      exact ixB (j := 0) rfl h3 rfl (iteF (ixB (j := 1) rfl h3 rfl (iteF (ixB (j := 3) rfl h3 rfl (iteF (ixB (j := 2) rfl h3 rfl (iteT (iteT (ixB (j := 2) rfl h3 rfl (iteT (fld m1 (SS _ _ hd) rfl ⟨(by show 2 ≤ sizeLine; decide), fun p5 n5 => ⟨_, rfl, k _ _ upd_same (SS.trans (Same.upd n5)) (none_of SS n5)⟩⟩)))))))))))
    | index v z m1 hd rz k =>
      exact ixB (j := 0) rfl h3 rfl (iteF (ixB (j := 1) rfl h3 rfl (iteF (ixB (j := 3) rfl h3 rfl (iteT (ixB (j := 1) rfl h3 rfl (iteF (fld m1 (SS _ _ hd) rfl ⟨_, _, rfl, rz.mv (fun b o _ e _ => SS _ _ e), ⟨(by show 2 ≤ sizeLine; decide), fun p5 n5 => ⟨_, rfl, k _ _ upd_same (SS.trans (Same.upd n5)) (none_of SS n5)⟩⟩⟩))))))))
    | bound v m1 hd k =>
      exact ixB (j := 0) rfl h3 rfl (iteF (ixB (j := 1) rfl h3 rfl (iteF (ixB (j := 3) rfl h3 rfl (iteF (ixB (j := 2) rfl h3 rfl (iteF (ixB (j := 5) rfl h3 rfl (iteF (fld m1 (SS _ _ hd) rfl ⟨(by show 2 ≤ sizeLine; decide), fun p5 n5 => ⟨_, rfl, k _ _ upd_same (SS.trans (Same.upd n5)) (none_of SS n5)⟩⟩))))))))))
    | log v m1 hd k =>
      exact ixB (j := 0) rfl h3 rfl (iteF (ixB (j := 1) rfl h3 rfl (iteF (ixB (j := 3) rfl h3 rfl (iteF (ixB (j := 2) rfl h3 rfl (iteF (ixB (j := 5) rfl h3 rfl (iteT (ixB (j := 2) rfl h3 rfl (iteF (fld m1 (SS _ _ hd) rfl ⟨(by show 2 ≤ sizeLine; decide), fun p5 n5 => ⟨_, rfl, k _ _ upd_same (SS.trans (Same.upd n5)) (none_of SS n5)⟩⟩))))))))))))
/-! ### breakers that explain a log: what is true of them -/
abbrev Lg := List (Int × Bool)
def mtE : Int := 1000000000000000000000000000000
def nar (b : Int × Int) (g : Int) (p : Bool) : Int × Int := if p then (b.1, if g < b.2 then g else b.2) else (if b.1 < g + 1 then g + 1 else b.1, b.2)
def bndR : Int → Lg → Int × Int
  | _, [] => (1, mtE)
  | u, (t, p) :: r => nar (bndR (if p then t else u) r) (t - u) p
def fitR (w : Int) : Int → Lg → Bool
  | _, [] => true
  | u, (t, p) :: r => (p == decide (w ≤ t - u)) && fitR w (if p then t else u) r
def fitC (f w : Int) : Int → Lg → Bool
  | _, [] => true
  | k, (t, p) :: r => p && (if k + 1 < f then fitC f w (k + 1) r else fitR w t r)
theorem fit_bnd {w : Int} (w1 : 1 ≤ w) (w2 : w ≤ mtE) : ∀ (ps : Lg) (u : Int), fitR w u ps = (decide ((bndR u ps).1 ≤ w) && decide (w ≤ (bndR u ps).2))
  | [], u => by
    show true = (decide ((1 : Int) ≤ w) && decide (w ≤ mtE))
    rw [decide_eq_true w1, decide_eq_true w2]
    rfl
  | (t, p) :: r, u => by
    have ih := fit_bnd w1 w2 r (if p then t else u)
    show ((p == decide (w ≤ t - u)) && fitR w (if p then t else u) r) = _
    rw [ih]
    show _ = (decide ((nar (bndR (if p then t else u) r) (t - u) p).1 ≤ w) && decide (w ≤ (nar (bndR (if p then t else u) r) (t - u) p).2))
    generalize bndR (if p then t else u) r = b
    obtain ⟨lo, hi⟩ := b
    rw [Bool.eq_iff_iff]
    cases p with
    | true =>
      simp only [nar, if_true, Bool.and_eq_true, beq_iff_eq, decide_eq_true_iff]
      constructor
      · rintro ⟨h1, h2, h3⟩
        have h1 : w ≤ t - u := of_decide_eq_true h1.symm
        refine ⟨h2, ?_⟩
        split <;> omega
      · rintro ⟨h1, h2⟩
        split at h2
        · exact ⟨(decide_eq_true (by omega)).symm, h1, by omega⟩
        · exact ⟨(decide_eq_true (by omega)).symm, h1, by omega⟩
    | false =>
      simp only [nar, Bool.false_eq_true, if_false, Bool.and_eq_true, beq_iff_eq, decide_eq_true_iff]
      constructor
      · rintro ⟨h1, h2, h3⟩
        have h1 : ¬ w ≤ t - u := of_decide_eq_false h1.symm
        refine ⟨?_, h3⟩
        split <;> omega
      · rintro ⟨h1, h2⟩
        split at h1
        · exact ⟨(decide_eq_false (by omega)).symm, by omega, h2⟩
        · exact ⟨(decide_eq_false (by omega)).symm, h1, h2⟩
theorem lg_open (f w : Int) : ∀ (ps : Lg) (u : Int), decide (lgG (f, w, 1) ("open", u) (ps.map (·.1)) = ps) = fitR w u ps
  | [], u => rfl
  | (t, p) :: r, u => by
    have hp : psB (f, w, 1) (("open", u) : StD) t ↔ w ≤ t - u := ⟨fun h => h rfl, fun h _ => h⟩
    show decide ((t, decide (psB (f, w, 1) (("open", u) : StD) t)) :: lgG (f, w, 1) (nxG (f, w, 1) ("open", u) t) (r.map (·.1)) = (t, p) :: r) = _
    show _ = ((p == decide (w ≤ t - u)) && fitR w (if p then t else u) r)
    have ed : decide (psB (f, w, 1) (("open", u) : StD) t) = decide (w ≤ t - u) := by rw [decide_eq_decide]; exact hp
    have en : nxG (f, w, 1) (("open", u) : StD) t = if w ≤ t - u then (("open", t) : StD) else ("open", u) := by
      unfold nxG
      by_cases c : w ≤ t - u
      · rw [if_pos (hp.mpr c), if_pos c, badS_other sO_C]
      · rw [if_neg (fun h => c (hp.mp h)), if_neg c]
    rw [ed, en, ← lg_open f w r (if p then t else u), Bool.eq_iff_iff]
    simp only [Bool.and_eq_true, beq_iff_eq, decide_eq_true_iff, List.cons.injEq, Prod.mk.injEq, true_and]
    by_cases c : w ≤ t - u
    · rw [if_pos c, decide_eq_true c]
      cases p
      · simp
      · simp
    · rw [if_neg c, decide_eq_false c]
      cases p
      · simp
      · simp
theorem lg_closed (f w : Int) : ∀ (ps : Lg) (k : Int), decide (lgG (f, w, 1) ("closed", k) (ps.map (·.1)) = ps) = fitC f w k ps
  | [], k => rfl
  | (t, p) :: r, k => by
    have hp : psB (f, w, 1) (("closed", k) : StD) t := fun e => absurd e sC_O
    show decide ((t, decide (psB (f, w, 1) (("closed", k) : StD) t)) :: lgG (f, w, 1) (nxG (f, w, 1) ("closed", k) t) (r.map (·.1)) = (t, p) :: r) = _
    have en : nxG (f, w, 1) (("closed", k) : StD) t = if k + 1 < f then (("closed", k + 1) : StD) else ("open", t) := (if_pos hp).trans (badS_closed rfl)
    rw [decide_eq_true hp, en]
    show _ = (p && (if k + 1 < f then fitC f w (k + 1) r else fitR w t r))
    cases p with
    | false =>
      rw [Bool.false_and]
      exact decide_eq_false fun h => by simp at h
    | true =>
      rw [Bool.true_and]
      by_cases c : k + 1 < f
      · rw [if_pos c, if_pos c, ← lg_closed f w r (k + 1), decide_eq_decide]
        simp
      · rw [if_neg c, if_neg c, ← lg_open f w r t, decide_eq_decide]
        simp
/-- the last time that was passed -/
def latA (o : Option Int) : Lg → Option Int
  | [] => o
  | (t, p) :: r => latA (if p then some t else o) r
theorem latA_app : ∀ (xs : Lg) (o : Option Int) (t : Int) (p : Bool), latA o (xs ++ [(t, p)]) = if p then some t else latA o xs
  | [], _, _, _ => rfl
  | (t', p') :: r, o, t, p => latA_app r _ t p
theorem latA_some : ∀ (xs : Lg) (u : Int), ∃ v, latA (some u) xs = some v
  | [], u => ⟨u, rfl⟩
  | (t, p) :: r, u => by
    show ∃ v, latA (if p then some t else some u) r = some v
    cases p
    · exact latA_some r u
    · exact latA_some r t
def aheadG (ps : Lg) : Nat := (ps.takeWhile (·.2)).length
def uG (ps : Lg) (f : Nat) : Int := (latA none (ps.take f)).getD 0
def bnG (ps : Lg) (f : Nat) : Int × Int := bndR (uG ps f) (ps.drop f)
def exF (ps : Lg) (f : Nat) : List Tri := if f ≤ aheadG ps ∧ (bnG ps f).1 ≤ (bnG ps f).2 then [((f : Int), (bnG ps f).1, (bnG ps f).2)] else []
def exRev (ps : Lg) (i : Nat) : List Tri := (List.range i).flatMap fun j => exF ps (ps.length - j)
def exUp (ps : Lg) (i : Nat) : List Tri := (List.range i).flatMap fun j => exF ps (j + 1)
def exG (ps : Lg) : List Tri := if ps = [] then [(1, 1, mtE)] else exUp ps ps.length
theorem exF_rev (ps : Lg) (f : Nat) : (exF ps f).reverse = exF ps f := by
  unfold exF
  split <;> rfl
theorem exF_len (ps : Lg) (f : Nat) : (exF ps f).length ≤ 1 := by
  unfold exF
  split
  · exact Nat.le_refl _
  · exact Nat.zero_le _
theorem ex_rev (ps : Lg) : ∀ i : Nat, i ≤ ps.length → (exRev ps i).reverse = (List.range i).flatMap fun j => exF ps (ps.length - i + j + 1)
  | 0, _ => rfl
  | i + 1, h => by
    have ih := ex_rev ps i (by omega)
    unfold exRev at ih ⊢
    have e1 : (List.range (i + 1)).flatMap (fun j => exF ps (ps.length - j)) = (List.range i).flatMap (fun j => exF ps (ps.length - j)) ++ exF ps (ps.length - i) := by
      rw [List.range_succ, List.flatMap_append]
      simp
    rw [e1, List.reverse_append, ih, exF_rev, List.range_succ_eq_map, List.flatMap_cons, List.flatMap_map]
    congr 1
    · congr 1
      omega
    · refine congrArg (fun g => List.flatMap g (List.range i)) (funext fun j => ?_)
      congr 1
      show ps.length - i + j + 1 = ps.length - (i + 1) + (j + 1) + 1
      omega
theorem ex_all (ps : Lg) : (exRev ps ps.length).reverse = exUp ps ps.length := by
  rw [ex_rev ps ps.length (Nat.le_refl _)]
  unfold exUp
  refine congrArg (fun g => List.flatMap g (List.range ps.length)) (funext fun j => ?_)
  congr 1
  omega
theorem exRev_succ (ps : Lg) (i : Nat) : exRev ps (i + 1) = exRev ps i ++ exF ps (ps.length - i) := by
  unfold exRev
  rw [List.range_succ, List.flatMap_append]
  simp
theorem exUp_succ (ps : Lg) (i : Nat) : exUp ps (i + 1) = exUp ps i ++ exF ps (i + 1) := by
  unfold exUp
  rw [List.range_succ, List.flatMap_append]
  simp
theorem exRev_len (ps : Lg) : ∀ i : Nat, (exRev ps i).length ≤ i
  | 0 => Nat.le_refl _
  | i + 1 => by
    rw [exRev_succ, List.length_append]
    have := exRev_len ps i
    have := exF_len ps (ps.length - i)
    omega
theorem exUp_len (ps : Lg) : ∀ i : Nat, (exUp ps i).length ≤ i
  | 0 => Nat.le_refl _
  | i + 1 => by
    rw [exUp_succ, List.length_append]
    have := exUp_len ps i
    have := exF_len ps (i + 1)
    omega
theorem ahead_all {ps : Lg} {f : Nat} : f ≤ ps.length → ((ps.take f).all (·.2) = true ↔ f ≤ aheadG ps) := by
  induction ps generalizing f with
  | nil =>
    intro h
    have : f = 0 := Nat.le_zero.mp h
    subst this
    simp [aheadG]
  | cons p r ih =>
    intro h
    cases f with
    | zero => simp
    | succ f =>
      have := ih (f := f) (Nat.le_of_succ_le_succ h)
      unfold aheadG at this ⊢
      rw [List.take_succ_cons, List.all_cons, List.takeWhile_cons]
      cases p.2 with
      | true =>
        simp only [Bool.true_and, if_true, List.length_cons]
        rw [this]
        omega
      | false => simp
theorem ahead_le (ps : Lg) : aheadG ps ≤ ps.length := by
  unfold aheadG
  exact (List.takeWhile_sublist _).length_le
/-- behind a step of the program's loop -/
theorem bn_step {ps : Lg} {f : Nat} {t : Int} {p : Bool} (hf : ps[f]? = some (t, p)) (f1 : 1 ≤ f) (h0 : 1 ≤ aheadG ps) : bnG ps f = nar (bnG ps (f + 1)) (t - uG ps f) p ∧ ∃ v, latA none (ps.take f) = some v ∧ uG ps f = v := by
  have fl := (List.getElem?_eq_some_iff.mp hf).1
  have et : ps.take (f + 1) = ps.take f ++ [(t, p)] := by rw [List.take_add_one, hf]; rfl
  have ed : ps.drop f = (t, p) :: ps.drop (f + 1) := by
    rw [List.drop_eq_getElem_cons fl]
    congr 1
    exact (List.getElem?_eq_some_iff.mp hf).2
  have hs : ∃ v, latA none (ps.take f) = some v := by
    cases ps with
    | nil => cases hf
    | cons q r =>
      obtain ⟨t0, p0⟩ := q
      cases f with
      | zero => omega
      | succ f =>
        have : p0 = true := by
          unfold aheadG at h0
          rw [List.takeWhile_cons] at h0
          cases p0
          · simp at h0
          · rfl
        subst this
        exact latA_some (r.take f) t0
  obtain ⟨v, hv⟩ := hs
  have hu : uG ps f = v := by unfold uG; rw [hv]; rfl
  refine ⟨?_, v, hv, hu⟩
  have e1 : uG ps (f + 1) = if p then t else uG ps f := by
    rw [hu]
    unfold uG
    rw [et, latA_app, hv]
    cases p <;> rfl
  unfold bnG
  rw [ed, e1]
  rfl
theorem bn_end (ps : Lg) : bnG ps ps.length = (1, mtE) := by
  unfold bnG
  rw [List.drop_length]
  rfl
/-- a breaker with f failures, by its place -/
theorem fitC_at {f : Nat} {w : Int} : ∀ (ps : Lg) (k : Nat), k < f → fitC (f : Int) w (k : Int) ps = ((ps.take (f - k)).all (·.2) && (if f - k ≤ ps.length then fitR w ((ps.getD (f - k - 1) (0, true)).1) (ps.drop (f - k)) else true))
  | [], k, h => by
    have : ¬ f - k ≤ ([] : Lg).length := fun z => by have := Nat.le_zero.mp z; omega
    rw [if_neg this]
    simp [fitC]
  | (t, p) :: r, k, h => by
    obtain ⟨m, hm⟩ : ∃ m, f - k = m + 1 := ⟨f - k - 1, by omega⟩
    show (p && (if (k : Int) + 1 < f then fitC f w ((k : Int) + 1) r else fitR w t r)) = _
    rw [hm, List.take_succ_cons, List.all_cons, List.drop_succ_cons, Bool.and_assoc]
    congr 1
    by_cases c : (k : Int) + 1 < f
    · rw [if_pos c]
      have ih := fitC_at (f := f) (w := w) r (k + 1) (by omega)
      rw [show f - (k + 1) = m by omega, show (((k + 1 : Nat)) : Int) = (k : Int) + 1 by omega] at ih
      rw [ih]
      congr 1
      obtain ⟨m', hm'⟩ : ∃ m', m = m' + 1 := ⟨m - 1, by omega⟩
      subst hm'
      rw [List.length_cons]
      by_cases d : m' + 1 ≤ r.length
      · rw [if_pos d, if_pos (show m' + 1 + 1 ≤ r.length + 1 by omega)]
        congr 1
      · rw [if_neg d, if_neg (show ¬ m' + 1 + 1 ≤ r.length + 1 by omega)]
    · rw [if_neg c]
      have m0 : m = 0 := by omega
      subst m0
      rw [if_pos (by rw [List.length_cons]; omega)]
      simp
theorem latA_all : ∀ (xs : Lg) (o : Option Int) (q : Int × Bool), (xs ++ [q]).all (·.2) = true → latA o (xs ++ [q]) = some q.1
  | xs, o, (t, p), h => by
    rw [latA_app]
    rw [List.all_append] at h
    have : p = true := by
      have := (Bool.and_eq_true_iff.mp h).2
      simpa using this
    rw [this]
    rfl
/-- which waits fit with f failures -/
theorem fitC_bn {ps : Lg} {f : Nat} {w : Int} (f1 : 1 ≤ f) (fl : f ≤ ps.length) (w1 : 1 ≤ w) (w2 : w ≤ mtE) : fitC (f : Int) w 0 ps = (decide (f ≤ aheadG ps) && (decide ((bnG ps f).1 ≤ w) && decide (w ≤ (bnG ps f).2))) := by
  have h := fitC_at (f := f) (w := w) ps 0 (by omega)
  rw [show ((0 : Nat) : Int) = 0 from rfl, Nat.sub_zero, if_pos fl] at h
  rw [h]
  have ha := ahead_all fl
  by_cases c : f ≤ aheadG ps
  · rw [ha.mpr c, decide_eq_true c, Bool.true_and, Bool.true_and, fit_bnd w1 w2]
    have eu : (ps.getD (f - 1) (0, true)).1 = uG ps f := by
      have hl : f - 1 < ps.length := by omega
      have e2 : ps.take f = ps.take (f - 1) ++ [ps[f - 1]] := by
        have := List.take_add_one (l := ps) (i := f - 1)
        rw [show f - 1 + 1 = f by omega, List.getElem?_eq_getElem hl] at this
        exact this
      have h3 := ha.mpr c
      rw [e2] at h3
      unfold uG
      rw [e2, latA_all _ _ _ h3, List.getD_eq_getElem?_getD, List.getElem?_eq_getElem hl]
      rfl
    rw [eu]
    rfl
  · rw [show (ps.take f).all (·.2) = false from by
      cases z : (ps.take f).all (·.2) with
      | false => rfl
      | true => exact absurd (ha.mp z) c, decide_eq_false c]
    rfl
theorem fitC_past {ps : Lg} {f w : Int} (h : (ps.length : Int) < f) : fitC f w 0 ps = ps.all (·.2) := by
  obtain ⟨n, rfl⟩ := Int.eq_ofNat_of_zero_le (show 0 ≤ f by omega)
  have := fitC_at (f := n) (w := w) ps 0 (by omega)
  rw [show ((0 : Nat) : Int) = 0 from rfl, Nat.sub_zero, if_neg (by omega), Bool.and_true, List.take_of_length_le (by omega)] at this
  exact this
/-- the bounds of the bounds -/
theorem bnd_bd {M : Int} (M0 : 0 ≤ M) : ∀ (ps : Lg) (u : Int), 0 ≤ u → (∀ p ∈ ps, 0 ≤ p.1 ∧ p.1 ≤ M) → (1 ≤ (bndR u ps).1 ∧ (bndR u ps).1 ≤ M + 1) ∧ ((bndR u ps).2 = mtE ∨ (bndR u ps).2 ≤ M)
  | [], u, _, _ => ⟨⟨Int.le_refl _, by show (1 : Int) ≤ M + 1; omega⟩, .inl rfl⟩
  | (t, p) :: r, u, u0, h => by
    have ht := h (t, p) (List.mem_cons_self ..)
    have ht1 : 0 ≤ t := ht.1
    have ht2 : t ≤ M := ht.2
    have ih := bnd_bd M0 r (if p then t else u) (by split <;> omega) fun q hq => h q (List.mem_cons_of_mem _ hq)
    show (1 ≤ (nar (bndR (if p then t else u) r) (t - u) p).1 ∧ (nar (bndR (if p then t else u) r) (t - u) p).1 ≤ M + 1) ∧ ((nar (bndR (if p then t else u) r) (t - u) p).2 = mtE ∨ (nar (bndR (if p then t else u) r) (t - u) p).2 ≤ M)
    generalize bndR (if p then t else u) r = b at ih
    obtain ⟨lo, hi⟩ := b
    obtain ⟨⟨h1, h2⟩, h3⟩ := ih
    cases p with
    | true =>
      refine ⟨⟨h1, h2⟩, ?_⟩
      show (if t - u < hi then t - u else hi) = mtE ∨ (if t - u < hi then t - u else hi) ≤ M
      split
      · exact .inr (by omega)
      · exact h3
    | false =>
      refine ⟨?_, h3⟩
      have h1 : 1 ≤ lo := h1
      have h2 : lo ≤ M + 1 := h2
      show 1 ≤ (if lo < t - u + 1 then t - u + 1 else lo) ∧ (if lo < t - u + 1 then t - u + 1 else lo) ≤ M + 1
      split <;> omega
theorem latA_nn : ∀ (xs : Lg) (o : Option Int), (∀ v, o = some v → 0 ≤ v) → (∀ p ∈ xs, 0 ≤ p.1) → ∀ v, latA o xs = some v → 0 ≤ v
  | [], o, ho, _ => ho
  | (t, p) :: r, o, ho, h => latA_nn r _ (fun v e => by
      cases p
      · exact ho v e
      · have e : some t = some v := e
        rw [← Option.some.inj e]
        exact h (t, true) (List.mem_cons_self ..)) fun q hq => h q (List.mem_cons_of_mem _ hq)
theorem uG_nn {ps : Lg} (h : ∀ p ∈ ps, 0 ≤ p.1) (f : Nat) : 0 ≤ uG ps f := by
  unfold uG
  cases z : latA none (ps.take f) with
  | none => exact Int.le_refl _
  | some v => exact latA_nn _ none (fun _ e => nomatch e) (fun p hp => h p (List.mem_of_mem_take hp)) v z
theorem bnG_bd {ps : Lg} {M : Int} (M0 : 0 ≤ M) (h : ∀ p ∈ ps, 0 ≤ p.1 ∧ p.1 ≤ M) (f : Nat) : (1 ≤ (bnG ps f).1 ∧ (bnG ps f).1 ≤ M + 1) ∧ ((bnG ps f).2 = mtE ∨ (bnG ps f).2 ≤ M) :=
  bnd_bd M0 _ _ (uG_nn (fun p hp => (h p hp).1) f) fun p hp => h p (List.mem_of_mem_drop hp)
/-! ### breakers that explain a log: the program -/
def gpV : Option Int → V
  | none => .non
  | some c => .int c
def gapL (ps : Lg) : List (Option Int) := (List.range ps.length).map fun i => (latA none (ps.take i)).map fun u => (ps.getD i (0, true)).1 - u
theorem gapL_at {ps : Lg} {i : Nat} {t : Int} {p : Bool} (h : ps[i]? = some (t, p)) : (gapL ps)[i]? = some ((latA none (ps.take i)).map fun u => t - u) := by
  have hl := (List.getElem?_eq_some_iff.mp h).1
  unfold gapL
  rw [List.getElem?_map, List.getElem?_range hl]
  show some ((latA none (ps.take i)).map fun u => (ps.getD i (0, true)).1 - u) = _
  rw [List.getD_eq_getElem?_getD, h]
  rfl
structure OkLog (ps : Lg) : Prop where
  asc : Asc 0 (ps.map (·.1))
  ln : ps.length ≤ 1000
theorem asc_nn : ∀ {lo : Int} {ns : List Int}, 0 ≤ lo → Asc lo ns → ∀ t ∈ ns, 0 ≤ t
  | _, [], _, _, t, h => nomatch h
  | lo, x :: r, l0, ⟨h1, h2⟩, t, h => by
    rcases List.mem_cons.mp h with rfl | h
    · omega
    · exact asc_nn (by omega) h2 t h
def spIsEnt : Sp := fun vs H Q _ => ∃ x p, vs = [x] ∧ LgAt H x p ∧ 0 ≤ p.1 ∧ Q (.bl true) H
def spChkL : Sp := fun vs H Q _ => ∃ a xs ps, vs = [.ref a] ∧ H a = some (.lst xs) ∧ Lgs H xs ps ∧ OkLog ps ∧ ∀ H', Same H H' → Q .non H'
def spAhead : Sp := fun vs H Q _ => ∃ a xs ps, vs = [.ref a] ∧ H a = some (.lst xs) ∧ Lgs H xs ps ∧ ps.length ≤ 1000 ∧ ∀ H', Same H H' → Q (.int (aheadG ps : Int)) H'
def spGaps : Sp := fun vs H Q _ => ∃ a xs ps, vs = [.ref a] ∧ H a = some (.lst xs) ∧ Lgs H xs ps ∧ ps.length ≤ 1001 ∧ ∀ l H', H' l = some (.lst ((gapL ps).map gpV)) → Same H H' → H l = none → Q (.ref l) H'
def spNar : Sp := fun vs H Q _ => ∃ T b g p, vs = [.ref T, .int g, .bl p] ∧ H T = some (.tup [.int b.1, .int b.2]) ∧ ∀ T' H', H' T' = some (.tup [.int (nar b g p).1, .int (nar b g p).2]) → Same H H' → Q (.ref T') H'
def spExpl : Sp := fun vs H Q _ => ∃ a xs ps, vs = [.ref a] ∧ H a = some (.lst xs) ∧ Lgs H xs ps ∧ OkLog ps ∧ ∀ l ys H', H' l = some (.lst ys) → Brs H' ys (exG ps) → Same H H' → H l = none → Q (.ref l) H'
theorem ahead_at : ∀ {ps : Lg} {i : Nat} {t : Int}, ps[i]? = some (t, false) → (∀ q ∈ ps.take i, q.2 = true) → aheadG ps = i
  | [], i, t, h, _ => by cases h
  | q :: r, 0, t, h, _ => by
    have h := Option.some.inj h
    rw [h]
    rfl
  | q :: r, i + 1, t, h, k => by
    have hq := k q (by rw [List.take_succ_cons]; exact List.mem_cons_self ..)
    have ih := ahead_at (ps := r) (i := i) (t := t) h fun q hq => k q (by rw [List.take_succ_cons]; exact List.mem_cons_of_mem _ hq)
    unfold aheadG at ih ⊢
    rw [List.takeWhile_cons, if_pos hq, List.length_cons, ih]
theorem ahead_full : ∀ {ps : Lg}, (∀ q ∈ ps, q.2 = true) → aheadG ps = ps.length
  | [], _ => rfl
  | q :: r, k => by
    have hq := k q (List.mem_cons_self ..)
    have ih := ahead_full (ps := r) fun q hq => k q (List.mem_cons_of_mem _ hq)
    unfold aheadG at ih ⊢
    rw [List.takeWhile_cons, if_pos hq, List.length_cons, ih, List.length_cons]
theorem paired_rev {α β : Type} {F : α → β → Prop} : ∀ {xs : List α} {ys : List β}, Paired F xs ys → Paired F xs.reverse ys.reverse
  | _, _, .nil => .nil
  | _, _, .cons h t => by
    rw [List.reverse_cons, List.reverse_cons]
    exact paired_app (paired_rev t) (.cons h .nil)
section
variable {P : Program} {w : World} {K : PySem.W.Frag} {mg : Str → Option Value} {base : Heap} {L : LA}
abbrev N_isentry : List Str := ["value", "time", "passed"]
theorem sc_isentry : FnScope N_isentry ["value"] (defScope st_is_entry) := ⟨rfl, rfl, rfl, by decide +kernel, rfl, by decide +kernel, by decide +kernel⟩
theorem fn_isentry (T : LX K mg L) {fd : FuncData} (F : Fun K "is_entry" "is_entry" st_is_entry L.f_is_entry fd) : FnOk P w K mg base CX0 3 L.f_is_entry fd ["value"] (spIsEnt) := by
  have G_isatleast := ok_isatleast (P := P) (w := w) (base := base) T
  have nd := sc_isentry.nd
  refine F.ok sc_isentry (fun vs H Q E h => ?_) (fun cdv A outer S H vs Q E hr h => ?_)
  · obtain ⟨x, p, rfl, _⟩ := h
    rfl
  · obtain ⟨x, p, rfl, ⟨a, rfl, ha⟩, h0, k⟩ := h
    refine ⟨_, (pss_cons (ps_if (PW.pt (pw_or (pt_not (pt_val (pe_callB call_isi (by rfl) T.b_isinstance (by decide +kernel) (pa_cons (pv 0) (pa_cons (pe_bltn (by rfl) T.b_tuple (by decide +kernel : bootBuiltins "tuple" = some (.type "tuple")) (v := .ty "tuple") rfl) pa_nil))))) (pw_or1 (pt_cmpR op_ne (pe_callB call_len_seq (by rfl) T.b_len PySem.boot_len (pa_cons (pv 0) pa_nil)) pe_int (nomark _))))) (pss_one (ps_ret pe_bl)) pss_nil)
       (pss_cons (ps_asg (pv 0) (pg_tup rfl (pgs_cons (pg_name (i := 1) nd rfl (Or.inl rfl)) (pgs_cons (pg_name (i := 2) nd rfl (Or.inl rfl)) pgs_nil))))
       (pss_one (ps_ret (pe_and (pe_c G_isatleast (hr.mono (by decide)) rfl (pa_cons (pv 1) (pa_cons pe_int pa_nil))) (pe_one (pe_callB call_isi (by rfl) T.b_isinstance (by decide +kernel) (pa_cons (pv 2) (pa_cons (pe_bltn (by rfl) T.b_bool (by decide +kernel : bootBuiltins "bool" = some (.type "bool")) (v := .ty "bool") rfl) pa_nil))))))))), ?_⟩
    refine ⟨_, rfl, _, .ty "tuple", _, _, _, rfl, .ty "tuple", (Kd.tup ha).ty, (Kd.tup ha).kit "tuple" _ (.inr ⟨by decide, by decide, rfl⟩), _, rfl, iteF ?_⟩
    refine ⟨_, rfl, a, _, rfl, .inr (SqT.of ha), rfl, _, rfl, iteF ?_⟩
    refine ⟨_, rfl, a, _, rfl, SqT.of ha, rfl, _, _, rfl, _, _, rfl, rfl, ?_⟩
    refine ⟨_, rfl, _, _, _, rfl, .int _, _, rfl, ?_⟩
    show if (decide ((0 : Int) ≤ p.1)) = true then _ else _
    rw [decide_eq_true h0]
    refine iteT ⟨_, rfl, _, .ty "bool", _, _, _, rfl, .ty "bool", (Kd.bl (H := H) p.2).ty, (Kd.bl (H := H) p.2).kit "bool" _ (.inr ⟨by decide, by decide, rfl⟩), k⟩
theorem ok_isentry (T : LX K mg L) : Cal P w K mg base "is_entry" 3 L.f_is_entry ["value"] (spIsEnt) := T.d_is_entry.cal fun fd F => fn_isentry T F
abbrev N_checklog : List Str := ["log", "latest", "at", "entry"]
theorem sc_checklog : FnScope N_checklog ["log"] (defScope st_check_log) := ⟨rfl, rfl, rfl, by decide +kernel, rfl, by decide +kernel, by decide +kernel⟩
theorem fn_checklog (T : LX K mg L) {fd : FuncData} (F : Fun K "check_log" "check_log" st_check_log L.f_check_log fd) : FnOk P w K mg base (L2.CX P w) 4 L.f_check_log fd ["log"] (spChkL) := by
  obtain ⟨tk_MOST_ENTRIES, c_MOST_ENTRIES⟩ := T.n_MOST_ENTRIES
  have G_isentry := ok_isentry (P := P) (w := w) (base := base) T
  have nd := sc_checklog.nd
  refine F.okX sc_checklog (fun vs H Q E h => ?_) (fun cdv A outer S H vs Q E hr h => ?_)
  · obtain ⟨a, xs, ps, rfl, _⟩ := h
    rfl
  · obtain ⟨a, xs, ps, rfl, ha, hx, ok, k⟩ := h
    refine ⟨_, (pss_cons (ps_if (PW.pt (pw_or (pt_not (pt_val (pe_callB call_isi (by rfl) T.b_isinstance (by decide +kernel) (pa_cons (pv 0) (pa_cons (pe_bltn (by rfl) T.b_list (by decide +kernel : bootBuiltins "list" = some (.type "list")) (v := .ty "list") rfl) pa_nil))))) (pw_or1 (pt_cmpR op_gt (pe_callB call_len_seq (by rfl) T.b_len PySem.boot_len (pa_cons (pv 0) pa_nil)) (pe_gI c_MOST_ENTRIES) (nomark _))))) (pss_one (ps_raise rfl (takes_of rfl rfl rfl rfl) (mk_InvalidLog T (hr.mono (by decide)) rfl (pa_cons (pe_un un_neg pe_int) pa_nil)))) pss_nil)
       (pss_cons (ps_set (i := 1) nd rfl (Or.inl rfl) (pe_un un_neg pe_int))
       (pss_one (ps_for (passes_of rfl) rfl (pi_enum (by rfl) T.b_enumerate (pa_cons (pv 0) pa_nil)) (pg_tup rfl (pgs_cons (pg_name (i := 2) nd rfl (Or.inl rfl)) (pgs_cons (pg_name (i := 3) nd rfl (Or.inl rfl)) pgs_nil))) (pss_cons (ps_if (PW.pt (pw_or (pt_not (pt_val (pe_c G_isentry (hr.mono (by decide)) rfl (pa_cons (pv 3) pa_nil)))) (pw_or1 (pt_cmpR op_le (pe_ix (r := rIxT K) ix_tup (pv 3) pe_int (fun _ _ => rfl)) (pv 1) (nomark _))))) (pss_one (ps_raise rfl (takes_of rfl rfl rfl rfl) (mk_InvalidLog T (hr.mono (by decide)) rfl (pa_cons (pv 2) pa_nil)))) pss_nil)
       (pss_one (ps_set (i := 1) nd rfl (Or.inl rfl) (pe_ix (r := rIxT K) ix_tup (pv 3) pe_int (fun _ _ => rfl))))))))), ?_⟩
    have xl := paired_len hx
    have ln := ok.ln
    refine ⟨_, rfl, _, .ty "list", _, _, _, rfl, .ty "list", (Kd.lst ha).ty, (Kd.lst ha).kit "list" _ (.inr ⟨by decide, by decide, rfl⟩), _, rfl, iteF ?_⟩
    refine ⟨_, rfl, a, _, rfl, .inl (SqL.of ha), _, _, rfl, rfl, _, rfl, ?_⟩
    have hn : ¬ ((1000 : Int) < (xs.length : Nat)) := by omega
    rw [decide_eq_false hn]
    refine iteF ⟨1, rfl, ?_⟩
    refine ⟨_, rfl, a, xs, rfl, SqL.of ha, for_enum (K := K) (a := a) (xs := xs) (fun i σ H2 => ∃ u v : Option V, σ = [some (.ref a), some (.int (lstG 0 ((ps.map (·.1)).take i) - 1)), u, v] ∧ Same H H2) ⟨none, none, rfl, Same.refl H⟩ (fun i σ H2 _ ⟨_, _, _, s2⟩ => SqL.of (s2 _ _ ha)) ?_ ?_⟩
    · rintro i x T' σ H2 hxi ⟨u, v, rfl, s2⟩ hT
      obtain ⟨p, hp, hox⟩ := paired_get hx hxi
      have hpt : (ps.map (·.1))[i]? = some p.1 := by rw [List.getElem?_map, hp]; rfl
      have at' := asc_take ok.asc hpt
      have nn := asc_nn (Int.le_refl 0) ok.asc p.1 (List.mem_of_getElem? hpt)
      have s3 : Same H (upd H2 T' (.tup [.int (i : Nat), x])) := s2.trans (Same.upd hT)
      obtain ⟨c, rfl, hc⟩ := hox
      have hc3 := s3 _ _ hc
      refine ⟨T', _, rfl, SqT.of upd_same, rfl, _, _, rfl, _, _, rfl, rfl, ?_⟩
      refine ⟨_, rfl, .ref c, p, rfl, ⟨c, rfl, hc3⟩, nn, _, rfl, iteF ?_⟩
      refine ⟨_, rfl, c, _, 0, .int p.1, rfl, rfl, SqT.of hc3, rfl, _, rfl, _, _, rfl, rfl, _, rfl, ?_⟩
      rw [decide_eq_false (show ¬ p.1 ≤ lstG 0 ((ps.map (·.1)).take i) - 1 by omega)]
      have el : lstG 0 ((ps.map (·.1)).take (i + 1)) - 1 = p.1 := by
        rw [List.take_add_one, hpt]
        show lstG 0 ((ps.map (·.1)).take i ++ [p.1]) - 1 = p.1
        rw [lst_app, Int.add_sub_cancel]
      rw [el]
      exact iteF ⟨_, rfl, c, _, 0, .int p.1, rfl, rfl, SqT.of hc3, rfl, _, _, rfl, s3⟩
    · rintro σ H2 ⟨u, v, rfl, s2⟩
      exact k H2 s2
theorem ok_checklog (T : LX K mg L) : CalX P w K mg base "check_log" 4 L.f_check_log ["log"] (spChkL) := T.d_check_log.calX fun fd F => fn_checklog T F
abbrev N_passesahead : List Str := ["log", "at", "entry"]
theorem sc_passesahead : FnScope N_passesahead ["log"] (defScope st_passes_ahead) := ⟨rfl, rfl, rfl, by decide +kernel, rfl, by decide +kernel, by decide +kernel⟩
theorem fn_passesahead (T : LX K mg L) {fd : FuncData} (F : Fun K "passes_ahead" "passes_ahead" st_passes_ahead L.f_passes_ahead fd) : FnOk P w K mg base CX0 1 L.f_passes_ahead fd ["log"] (spAhead) := by
  have nd := sc_passesahead.nd
  refine F.ok sc_passesahead (fun vs H Q E h => ?_) (fun cdv A outer S H vs Q E hr h => ?_)
  · obtain ⟨a, xs, ps, rfl, _⟩ := h
    rfl
  · obtain ⟨a, xs, ps, rfl, ha, hx, ln, k⟩ := h
    refine ⟨_, (pss_cons (ps_for PassesOwn.never rfl (pi_enum (by rfl) T.b_enumerate (pa_cons (pv 0) pa_nil)) (pg_tup rfl (pgs_cons (pg_name (i := 1) nd rfl (Or.inl rfl)) (pgs_cons (pg_name (i := 2) nd rfl (Or.inl rfl)) pgs_nil))) (pss_one (ps_if (pt_not (pt_val (pe_ix (r := rIxT K) ix_tup (pv 2) pe_int (fun _ _ => rfl)))) (pss_one (ps_ret (pv 1))) pss_nil)))
       (pss_one (ps_ret (pe_callB call_len_seq (by rfl) T.b_len PySem.boot_len (pa_cons (pv 0) pa_nil))))), ?_⟩
    have xl := paired_len hx
    refine ⟨_, rfl, a, xs, rfl, SqL.of ha, for_enum (K := K) (a := a) (xs := xs) (fun i σ H2 => ∃ u v : Option V, σ = [some (.ref a), u, v] ∧ Same H H2 ∧ ∀ q ∈ ps.take i, q.2 = true) ⟨none, none, rfl, Same.refl H, fun q h => by simp at h⟩ (fun i σ H2 _ ⟨_, _, _, s2, _⟩ => SqL.of (s2 _ _ ha)) ?_ ?_⟩
    · rintro i x T' σ H2 hxi ⟨u, v, rfl, s2, hall⟩ hT
      obtain ⟨⟨t, p⟩, hp, c, rfl, hc⟩ := paired_get hx hxi
      have s3 : Same H (upd H2 T' (.tup [.int (i : Nat), .ref c])) := s2.trans (Same.upd hT)
      have hc3 := s3 _ _ hc
      refine ⟨T', _, rfl, SqT.of upd_same, rfl, _, _, rfl, _, _, rfl, rfl, ?_⟩
      refine ⟨_, rfl, c, _, 1, .bl p, rfl, rfl, SqT.of hc3, rfl, _, rfl, ?_⟩
      cases p with
      | true =>
        refine iteF ⟨_, _, rfl, s3, fun q h => ?_⟩
        rw [List.take_add_one, hp] at h
        rcases List.mem_append.mp h with h | h
        · exact hall q h
        · have : q = (t, true) := by simpa using h
          rw [this]
      | false =>
        refine iteT ⟨_, rfl, ?_⟩
        have := k _ s3
        rw [ahead_at hp hall] at this
        exact this
    · rintro σ H2 ⟨u, v, rfl, s2, hall⟩
      rw [xl, List.take_length] at hall
      have := k _ s2
      rw [ahead_full hall, ← xl] at this
      exact ⟨_, rfl, a, _, rfl, .inl (SqL.of (s2 _ _ ha)), this⟩
theorem ok_passesahead (T : LX K mg L) : Cal P w K mg base "passes_ahead" 1 L.f_passes_ahead ["log"] (spAhead) := T.d_passes_ahead.cal fun fd F => fn_passesahead T F
abbrev N_gapsof : List Str := ["log", "gaps", "latest", "time", "passed"]
theorem sc_gapsof : FnScope N_gapsof ["log"] (defScope st_gaps_of) := ⟨rfl, rfl, rfl, by decide +kernel, rfl, by decide +kernel, by decide +kernel⟩
theorem fn_gapsof (T : LX K mg L) {fd : FuncData} (F : Fun K "gaps_of" "gaps_of" st_gaps_of L.f_gaps_of fd) : FnOk P w K mg base CX0 1 L.f_gaps_of fd ["log"] (spGaps) := by
  have nd := sc_gapsof.nd
  refine F.ok sc_gapsof (fun vs H Q E h => ?_) (fun cdv A outer S H vs Q E hr h => ?_)
  · obtain ⟨a, xs, ps, rfl, _⟩ := h
    rfl
  · obtain ⟨a, xs, ps, rfl, ha, hx, ln, k⟩ := h
    refine ⟨_, (pss_cons (ps_set (i := 1) nd rfl (Or.inl rfl) (pe_lst pa_nil))
       (pss_cons (ps_set (i := 2) nd rfl (Or.inl rfl) pe_non)
       (pss_cons (ps_for PassesOwn.never rfl (pi_list (pv 0)) (pg_tup rfl (pgs_cons (pg_name (i := 3) nd rfl (Or.inl rfl)) (pgs_cons (pg_name (i := 4) nd rfl (Or.inl rfl)) pgs_nil))) (pss_cons (ps_expr (pe_bm PySem.F.plainAttrs_list PySem.F.slot_list_append PySem.F.type_list_append mt_append (pv 1) (pa_cons (pe_ifExp (pt_cmp (pc_isN (pv 2))) pe_non (pe_op op_sub (pv 3) (pv 2))) pa_nil)))
       (pss_one (ps_if (pt_val (pv 4)) (pss_one (ps_set (i := 2) nd rfl (Or.inl rfl) (pv 3))) pss_nil))))
       (pss_one (ps_ret (pv 1)))))), ?_⟩
    have xl := paired_len hx
    refine ⟨(by show 0 ≤ sizeLine; decide), fun l nl => ⟨_, rfl, a, rfl, ⟨_, SqL.of ((Same.upd nl) _ _ ha)⟩, ?_⟩⟩
    refine for_list (K := K) (a := a) (xs := xs) (fun i σ Hx => ∃ v3 v4 : Option V, σ = [some (.ref a), some (.ref l), some (gpV (latA none (ps.take i))), v3, v4] ∧ Hx l = some (.lst (((gapL ps).take i).map gpV)) ∧ Same H Hx) ⟨none, none, rfl, upd_same, Same.upd nl⟩ (fun i σ Hx _ ⟨_, _, _, _, sx⟩ => SqL.of (sx _ _ ha)) ?_ ?_
    · rintro i x σ Hx hxi ⟨v3, v4, rfl, hl, sx⟩
      obtain ⟨⟨t, p⟩, hp, c, rfl, hc⟩ := paired_get hx hxi
      have hc3 := sx _ _ hc
      have hg := gapL_at hp
      have et : ps.take (i + 1) = ps.take i ++ [(t, p)] := by rw [List.take_add_one, hp]; rfl
      have eg : (gapL ps).take (i + 1) = (gapL ps).take i ++ [(latA none (ps.take i)).map fun u => t - u] := by rw [List.take_add_one, hg]; rfl
      have gl : (((gapL ps).take i).map gpV).length ≤ 1001 := by
        have hi := (List.getElem?_eq_some_iff.mp hxi).1
        rw [List.length_map, List.length_take]
        omega
      refine ⟨c, _, rfl, SqT.of hc3, rfl, _, _, rfl, _, _, rfl, rfl, ?_⟩
      rw [eg, et, latA_app]
      generalize latA none (ps.take i) = o at hl ⊢
      have fin : ∀ H1 : Hp, H1 l = some (.lst (((gapL ps).take i).map gpV ++ [gpV (o.map fun u => t - u)])) → (∀ b u, H b = some u → H1 b = some u) → H1 l = some (.lst (((gapL ps).take i ++ [o.map fun u => t - u]).map gpV)) ∧ Same H H1 := fun H1 h1 h2 => ⟨by rw [h1, List.map_append]; rfl, h2⟩
      have kp : ∀ b u, H b = some u → (upd Hx l (.lst (((gapL ps).take i).map gpV ++ [gpV (o.map fun u => t - u)]))) b = some u := fun b u e => by
        rw [upd_ne (ne_of_none e nl)]
        exact sx _ _ e
      have h1 := fin _ upd_same kp
      refine ⟨_, rfl, .inl ⟨rfl, _, SqL.of hl⟩, ?_⟩
      cases o with
      | none =>
        refine ⟨_, rfl, _, rfl, iteT ⟨l, _, .non, rfl, rfl, hl, small1 (by omega), _, rfl, _, rfl, ?_⟩⟩
        cases p with
        | true => exact iteT ⟨_, rfl, _, _, rfl, h1⟩
        | false => exact iteF ⟨_, _, rfl, h1⟩
      | some u =>
        refine ⟨_, rfl, _, rfl, iteF ⟨_, rfl, _, rfl, _, _, rfl, rfl, l, _, .int (t - u), rfl, rfl, hl, small1 (by omega), _, rfl, _, rfl, ?_⟩⟩
        cases p with
        | true => exact iteT ⟨_, rfl, _, _, rfl, h1⟩
        | false => exact iteF ⟨_, _, rfl, h1⟩
    · rintro σ Hx ⟨v3, v4, rfl, hl, sx⟩
      rw [xl, List.take_of_length_le (by unfold gapL; rw [List.length_map, List.length_range]; exact Nat.le_refl _)] at hl
      exact ⟨_, rfl, k l Hx hl sx nl⟩
theorem ok_gapsof (T : LX K mg L) : Cal P w K mg base "gaps_of" 1 L.f_gaps_of ["log"] (spGaps) := T.d_gaps_of.cal fun fd F => fn_gapsof T F
abbrev N_narrowed : List Str := ["bounds", "gap", "passed", "low", "high"]
theorem sc_narrowed : FnScope N_narrowed ["bounds", "gap", "passed"] (defScope st_narrowed) := ⟨rfl, rfl, rfl, by decide +kernel, rfl, by decide +kernel, by decide +kernel⟩
theorem fn_narrowed (T : LX K mg L) {fd : FuncData} (F : Fun K "narrowed" "narrowed" st_narrowed L.f_narrowed fd) : FnOk P w K mg base CX0 1 L.f_narrowed fd ["bounds", "gap", "passed"] (spNar) := by
  have nd := sc_narrowed.nd
  refine F.ok sc_narrowed (fun vs H Q E h => ?_) (fun cdv A outer S H vs Q E hr h => ?_)
  · obtain ⟨T0, b, g, p, rfl, _⟩ := h
    rfl
  · obtain ⟨T0, b, g, p, rfl, hT, k⟩ := h
    refine ⟨_, (pss_cons (ps_asg (pv 0) (pg_tup rfl (pgs_cons (pg_name (i := 3) nd rfl (Or.inl rfl)) (pgs_cons (pg_name (i := 4) nd rfl (Or.inl rfl)) pgs_nil))))
       (pss_cons (ps_if (pt_val (pv 2)) (pss_one (ps_ret (pe_tup (pa_cons (pv 3) (pa_cons (pe_callB (call_min2 rfl) (by rfl) T.b_min (by decide +kernel) (pa_cons (pv 4) (pa_cons (pv 1) pa_nil))) pa_nil))))) pss_nil)
       (pss_one (ps_ret (pe_tup (pa_cons (pe_callB (call_max2 rfl) (by rfl) T.b_max (by decide +kernel) (pa_cons (pv 3) (pa_cons (pe_op op_add (pv 1) pe_int) pa_nil))) (pa_cons (pv 4) pa_nil))))))), ?_⟩
    refine ⟨_, rfl, T0, _, rfl, SqT.of hT, rfl, _, _, rfl, _, _, rfl, rfl, ?_⟩
    cases p with
    | true =>
      refine ⟨_, rfl, _, rfl, iteT ⟨_, rfl, _, rfl, _, rfl, _, _, rfl, (by show 2 ≤ sizeLine; decide), fun T1 h1 => ?_⟩⟩
      exact k T1 _ upd_same (Same.upd h1)
    | false =>
      refine ⟨_, rfl, _, rfl, iteF ⟨_, rfl, _, rfl, _, _, rfl, rfl, _, _, rfl, _, rfl, (by show 2 ≤ sizeLine; decide), fun T1 h1 => ?_⟩⟩
      exact k T1 _ upd_same (Same.upd h1)
theorem ok_narrowed (T : LX K mg L) : Cal P w K mg base "narrowed" 1 L.f_narrowed ["bounds", "gap", "passed"] (spNar) := T.d_narrowed.cal fun fd F => fn_narrowed T F
abbrev N_explanations : List Str := ["log", "ahead", "gaps", "bounds", "found", "failures"]
theorem sc_explanations : FnScope N_explanations ["log"] (defScope st_explanations) := ⟨rfl, rfl, rfl, by decide +kernel, rfl, by decide +kernel, by decide +kernel⟩
theorem fn_explanations (T : LX K mg L) {fd : FuncData} (F : Fun K "explanations" "explanations" st_explanations L.f_explanations fd) : FnOk P w K mg base (L2.CX P w) 5 L.f_explanations fd ["log"] (spExpl) := by
  have G_checklog := ok_checklog (P := P) (w := w) (base := base) T
  have G_passesahead := ok_passesahead (P := P) (w := w) (base := base) T
  have G_gapsof := ok_gapsof (P := P) (w := w) (base := base) T
  obtain ⟨tk_MOST_TIME, c_MOST_TIME⟩ := T.n_MOST_TIME
  have G_narrowed := ok_narrowed (P := P) (w := w) (base := base) T
  have nd := sc_explanations.nd
  refine F.okX sc_explanations (fun vs H Q E h => ?_) (fun cdv A outer S H vs Q E hr h => ?_)
  · obtain ⟨a, xs, ps, rfl, _⟩ := h
    rfl
  · obtain ⟨a, xs, ps, rfl, ha, hx, ok, k⟩ := h
    refine ⟨_, (pss_cons (ps_expr (pe_cX G_checklog (hr.mono (by decide)) rfl (fun σ => passAt (takes_of rfl rfl rfl rfl) σ) (pa_cons (pv 0) pa_nil)))
       (pss_cons (ps_set (i := 1) nd rfl (Or.inl rfl) (pe_c G_passesahead (hr.mono (by decide)) rfl (pa_cons (pv 0) pa_nil)))
       (pss_cons (ps_if (pt_cmpR op_eq (pv 1) pe_int (nomark _)) (pss_one (ps_ret (pe_ifExp (pt_truth (pv 0) (fun _ => rfl)) (pe_lst pa_nil) (pe_lst (pa_cons (pe_tup (pa_cons pe_int (pa_cons pe_int (pa_cons (pe_gI c_MOST_TIME) pa_nil)))) pa_nil))))) pss_nil)
       (pss_cons (ps_set (i := 2) nd rfl (Or.inl rfl) (pe_c G_gapsof (hr.mono (by decide)) rfl (pa_cons (pv 0) pa_nil)))
       (pss_cons (ps_set (i := 3) nd rfl (Or.inl rfl) (pe_tup (pa_cons pe_int (pa_cons (pe_gI c_MOST_TIME) pa_nil))))
       (pss_cons (ps_set (i := 4) nd rfl (Or.inl rfl) (pe_lst pa_nil))
       (pss_cons (ps_for (passes_of rfl) rfl (pi_range3 rfl T.b_range (pa_cons (pe_callB call_len_seq (by rfl) T.b_len PySem.boot_len (pa_cons (pv 0) pa_nil)) (pa_cons pe_int (pa_cons (pe_un un_neg pe_int) pa_nil)))) (pg_name (i := 5) nd rfl (Or.inl rfl)) (C8.pss_cut (ps_if (pt_cmpR op_lt (pv 5) (pe_callB call_len_seq (by rfl) T.b_len PySem.boot_len (pa_cons (pv 0) pa_nil)) (nomark _)) (pss_one (ps_set (i := 3) nd rfl (Or.inl rfl) (pe_c G_narrowed (hr.mono (by decide)) rfl (pa_cons (pv 3) (pa_cons (pe_ix (r := rIxL K) ix_list (pv 2) (pv 5) (fun _ _ => rfl)) (pa_cons (pe_ix (r := rIxT K) ix_tup (pe_ix (r := rIxL K) ix_list (pv 0) (pv 5) (fun _ _ => rfl)) pe_int (fun _ _ => rfl)) pa_nil)))))) pss_nil)
       (pss_one (ps_if (PW.pt (pw_and (pt_cmpR op_le (pv 5) (pv 1) (nomark _)) (pw_and1 (pt_cmpR op_le (pe_ix (r := rIxT K) ix_tup (pv 3) pe_int (fun _ _ => rfl)) (pe_ix (r := rIxT K) ix_tup (pv 3) pe_int (fun _ _ => rfl)) (nomark _))))) (pss_one (ps_expr (pe_bm PySem.F.plainAttrs_list PySem.F.slot_list_append PySem.F.type_list_append mt_append (pv 4) (pa_cons (pe_tup (pa_cons (pv 5) (pa_cons (pe_ix (r := rIxT K) ix_tup (pv 3) pe_int (fun _ _ => rfl)) (pa_cons (pe_ix (r := rIxT K) ix_tup (pv 3) pe_int (fun _ _ => rfl)) pa_nil)))) pa_nil)))) pss_nil))))
       (pss_one (ps_ret (pe_revL (pv 4))))))))))), ?_⟩
    have xl := paired_len hx
    have ln := ok.ln
    refine ⟨_, rfl, a, xs, ps, rfl, ha, hx, ok, fun H1 s1 => ?_⟩
    refine ⟨_, rfl, a, xs, ps, rfl, s1 _ _ ha, hx.same s1, ln, fun H2 s2 => ?_⟩
    have s12 := s1.trans s2
    refine ⟨_, rfl, rfl, _, rfl, ?_⟩
    refine ite2 (fun c => ?_) (fun c => ?_)
    · have c0 : aheadG ps = 0 := by have := V.int.inj (of_decide_eq_true c); omega
      cases ps with
      | nil =>
        have x0 : xs = [] := List.length_eq_zero_iff.mp xl
        subst x0
        refine ⟨_, rfl, false, .inl ⟨_, SqL.of (s12 _ _ ha), rfl⟩, iteF ⟨(by show 3 ≤ sizeLine; decide), fun t nt => ⟨(by show 1 ≤ sizeLine; decide), fun l nl => ?_⟩⟩⟩
        exact k l _ _ upd_same (.cons ⟨t, rfl, (Same.upd nl) _ _ upd_same⟩ .nil) ((s12.trans (Same.upd nt)).trans (Same.upd nl)) (none_of (s12.trans (Same.upd nt)) nl)
      | cons q r =>
        refine ⟨_, rfl, true, .inl ⟨_, SqL.of (s12 _ _ ha), ?_⟩, iteT ⟨(by show 0 ≤ sizeLine; decide), fun l nl => ?_⟩⟩
        · cases xs with
          | nil => cases xl
          | cons => rfl
        refine k l [] _ upd_same ?_ (s12.trans (Same.upd nl)) (none_of s12 nl)
        have e : exG (q :: r) = [] := by
          unfold exG
          rw [if_neg (fun z => nomatch z)]
          unfold exUp
          rw [List.flatMap_eq_nil_iff]
          intro j _
          unfold exF
          rw [if_neg (fun z => by have := z.1; omega)]
        rw [e]
        exact .nil
    have h0 : 1 ≤ aheadG ps := by
      have : ¬ aheadG ps = 0 := fun z => c (decide_eq_true (by rw [z]; rfl))
      omega
    have hl := ahead_le ps
    refine ⟨_, rfl, a, xs, ps, rfl, s12 _ _ ha, hx.same s12, by omega, fun lg H3 hg s3 nlg => ?_⟩
    have s13 := s12.trans s3
    refine ⟨(by show 2 ≤ sizeLine; decide), fun tb ntb => ⟨(by show 0 ≤ sizeLine; decide), fun lf nlf => ?_⟩⟩
    have sb := Same.upd (o := .tup [.int 1, .int 1000000000000000000000000000000]) ntb
    have sf := Same.upd (o := .lst []) nlf
    have sbf := sb.trans sf
    have s1f := s13.trans sbf
    have xal : (xs.length : Int) ≤ 1000 := by omega
    refine ⟨_, rfl, a, _, rfl, .inl (SqL.of (s1f _ _ ha)), 1, rfl, _, _, _, _, rfl, RgC.neg (by omega) (by omega) (by decide) (by decide), ?_⟩
    rw [Int.sub_zero, Int.toNat_natCast]
    refine for_rangeC (lo := (xs.length : Int)) (c := -1) (n := xs.length) (fun i σ Hx => ∃ (v5 : Option V) (b : Addr) (ys : List V), σ = [some (.ref a), some (.int (aheadG ps : Int)), some (.ref lg), some (.ref b), some (.ref lf), v5] ∧ Hx b = some (.tup [.int (bnG ps (if i = 0 then ps.length else ps.length - i + 1)).1, .int (bnG ps (if i = 0 then ps.length else ps.length - i + 1)).2]) ∧ Hx lf = some (.lst ys) ∧ Brs Hx ys (exRev ps i) ∧ Same H3 Hx)
      ⟨none, tb, [], rfl, by rw [if_pos rfl, bn_end]; exact sf _ _ upd_same, upd_same, .nil, sbf⟩ ?_ ?_
    · rintro i σ Hx hi ⟨v5, b, ys, rfl, hb, hlf, hys, sx⟩
      have ef : (xs.length : Int) + (i : Int) * -1 = ((ps.length - i : Nat) : Int) := by omega
      rw [ef]
      obtain ⟨f, hf⟩ : ∃ f, f = ps.length - i := ⟨_, rfl⟩
      rw [← hf, exRev_succ, ← hf]
      have sHx := s13.trans sx
      have hax := sHx _ _ ha
      obtain ⟨f1, f2⟩ : 1 ≤ f ∧ f ≤ ps.length := ⟨by omega, by omega⟩
      have yl := hys.len
      have yl2 := exRev_len ps i
      refine ⟨fun σ' H' => ∃ b' : Addr, σ' = [some (.ref a), some (.int (aheadG ps : Int)), some (.ref lg), some (.ref b'), some (.ref lf), some (.int (f : Int))] ∧ H' b' = some (.tup [.int (bnG ps f).1, .int (bnG ps f).2]) ∧ Same Hx H', ?_, ?_⟩
      · refine ⟨_, rfl, _, rfl, a, _, rfl, .inl (SqL.of hax), _, _, rfl, rfl, _, rfl, ?_⟩
        by_cases c0 : i = 0
        · rw [if_pos c0] at hb
          rw [decide_eq_false (show ¬ (f : Int) < (xs.length : Nat) by omega)]
          refine iteF ⟨b, rfl, ?_, Same.refl _⟩
          rw [show f = ps.length by omega]
          exact hb
        · rw [if_neg c0] at hb
          rw [decide_eq_true (show (f : Int) < (xs.length : Nat) by omega)]
          obtain ⟨x, hx1⟩ : ∃ x, xs[f]? = some x := ⟨_, List.getElem?_eq_getElem (by omega)⟩
          obtain ⟨⟨t, p⟩, hp, c, rfl, hc⟩ := paired_get hx hx1
          obtain ⟨q1, u, q2, q3⟩ := bn_step hp f1 h0
          have hgf := gapL_at hp
          rw [q2] at hgf
          have hgf2 : ((gapL ps).map gpV)[f]? = some (.int (t - u)) := by rw [List.getElem?_map, hgf]; rfl
          rw [show ps.length - i + 1 = f + 1 by omega] at hb
          refine iteT ⟨_, rfl, _, rfl, _, rfl, lg, _, (f : Int), .int (t - u), rfl, rfl, SqL.of (sx _ _ hg), atI_nat hgf2, ?_⟩
          refine ⟨_, rfl, _, rfl, a, _, (f : Int), .ref c, rfl, rfl, SqL.of hax, atI_nat hx1, c, _, 1, .bl p, rfl, rfl, SqT.of (sHx _ _ hc), rfl, ?_⟩
          refine ⟨b, bnG ps (f + 1), t - u, p, rfl, hb, fun T' H' hT sT => ⟨T', rfl, ?_, sT⟩⟩
          rw [q1, q3]
          exact hT
      rintro σ' H' ⟨b', rfl, hb', s'⟩
      have eb : (if i + 1 = 0 then ps.length else ps.length - (i + 1) + 1) = f := by rw [if_neg (Nat.succ_ne_zero i)]; omega
      rw [eb]
      have hlf' := s' _ _ hlf
      have hys' : Brs H' ys (exRev ps i) := hys.nl (NL.of s')
      have nof : ∀ q : ¬ (f ≤ aheadG ps ∧ (bnG ps f).1 ≤ (bnG ps f).2), ∃ (v5 : Option V) (b : Addr) (ys : List V), [some (V.ref a), some (V.int (aheadG ps : Int)), some (V.ref lg), some (V.ref b'), some (V.ref lf), some (V.int (f : Int))] = [some (.ref a), some (.int (aheadG ps : Int)), some (.ref lg), some (.ref b), some (.ref lf), v5] ∧ H' b = some (.tup [.int (bnG ps f).1, .int (bnG ps f).2]) ∧ H' lf = some (.lst ys) ∧ Brs H' ys (exRev ps i ++ exF ps f) ∧ Same H3 H' := fun q => by
        unfold exF
        rw [if_neg q, List.append_nil]
        exact ⟨_, _, _, rfl, hb', hlf', hys', sx.trans s'⟩
      refine ⟨_, rfl, _, rfl, _, _, rfl, rfl, _, rfl, ?_⟩
      refine ite2 (fun d1 => ?_) (fun d1 => nof fun q => d1 (decide_eq_true (by omega)))
      have d1' := of_decide_eq_true d1
      refine ⟨_, rfl, b', _, 0, .int (bnG ps f).1, rfl, rfl, SqT.of hb', rfl, _, rfl, b', _, 1, .int (bnG ps f).2, rfl, rfl, SqT.of hb', rfl, _, _, rfl, rfl, _, rfl, ?_⟩
      refine ite2 (fun d2 => ?_) (fun d2 => nof fun q => d2 (decide_eq_true q.2))
      have d2' := of_decide_eq_true d2
      refine ⟨_, rfl, .inl ⟨rfl, _, SqL.of hlf'⟩, _, rfl, _, rfl, b', _, 0, .int (bnG ps f).1, rfl, rfl, SqT.of hb', rfl, _, rfl, b', _, 1, .int (bnG ps f).2, rfl, rfl, SqT.of hb', rfl, (by show 3 ≤ sizeLine; decide), fun t3 nt3 => ?_⟩
      have s3' := Same.upd (o := .tup [.int (f : Int), .int (bnG ps f).1, .int (bnG ps f).2]) nt3
      have hlf3 := s3' _ _ hlf'
      have n6 := NL.upd (o := .lst (ys ++ [.ref t3])) hlf3
      refine ⟨lf, ys, _, rfl, rfl, hlf3, small1 (by omega), _, b', ys ++ [.ref t3], rfl, n6 _ _ (s3' _ _ hb') (fun _ z => nomatch z), upd_same, ?_, fun p o e => ?_⟩
      · unfold exF
        rw [if_pos ⟨by omega, d2'⟩]
        exact Brs.app ((hys'.nl (NL.of s3')).nl n6) (.cons ⟨t3, rfl, n6 _ _ upd_same fun _ z => nomatch z⟩ .nil)
      · rw [upd_ne (ne_of_none e (none_of sb nlf))]
        exact s3' _ _ (s' _ _ (sx _ _ e))
    · rintro σ Hx ⟨v5, b, ys, rfl, hb, hlf, hys, sx⟩
      refine ⟨_, rfl, lf, ys, rfl, SqL.of hlf, fun l nl => ?_⟩
      refine k l _ _ upd_same ?_ ((s13.trans sx).trans (Same.upd nl)) (none_of (s13.trans sx) nl)
      have e : exG ps = (exRev ps xs.length).reverse := by
        rw [xl, ex_all]
        unfold exG
        rw [if_neg (fun z => by rw [z] at h0; exact absurd h0 (by decide))]
      rw [e]
      exact paired_rev (hys.nl (NL.of (Same.upd nl)))
theorem ok_explanations (T : LX K mg L) : CalX P w K mg base "explanations" 5 L.f_explanations ["log"] (spExpl) := T.d_explanations.calX fun fd F => fn_explanations T F
end
/-! ### the first conflict of a log that a breaker explains -/
theorem nar_tight (b : Int × Int) (g : Int) (p : Bool) : b.1 ≤ (nar b g p).1 ∧ (nar b g p).2 ≤ b.2 ∧ (p = true → (nar b g p).2 ≤ g) ∧ (p = false → g + 1 ≤ (nar b g p).1) := by
  obtain ⟨lo, hi⟩ := b
  cases p with
  | true =>
    show lo ≤ lo ∧ (if g < hi then g else hi) ≤ hi ∧ (true = true → (if g < hi then g else hi) ≤ g) ∧ (true = false → _)
    refine ⟨Int.le_refl _, by split <;> omega, fun _ => by split <;> omega, fun z => nomatch z⟩
  | false =>
    show lo ≤ (if lo < g + 1 then g + 1 else lo) ∧ hi ≤ hi ∧ (false = true → _) ∧ (false = false → g + 1 ≤ (if lo < g + 1 then g + 1 else lo))
    refine ⟨by split <;> omega, Int.le_refl _, fun z => (nomatch z), fun _ => by split <;> omega⟩
theorem bn_mono {ps : Lg} (h0 : 1 ≤ aheadG ps) {a : Nat} (a1 : 1 ≤ a) : ∀ n : Nat, a + n ≤ ps.length → (bnG ps (a + n)).1 ≤ (bnG ps a).1 ∧ (bnG ps a).2 ≤ (bnG ps (a + n)).2
  | 0, _ => ⟨Int.le_refl _, Int.le_refl _⟩
  | n + 1, h => by
    obtain ⟨i1, i2⟩ := bn_mono h0 a1 n (by omega)
    obtain ⟨⟨t, p⟩, hp⟩ : ∃ q, ps[a + n]? = some q := ⟨_, List.getElem?_eq_getElem (by omega)⟩
    obtain ⟨e, _⟩ := bn_step hp (by omega) h0
    have tt := nar_tight (bnG ps (a + n + 1)) (t - uG ps (a + n)) p
    rw [← e] at tt
    exact ⟨by show (bnG ps (a + n + 1)).1 ≤ _; omega, by show _ ≤ (bnG ps (a + n + 1)).2; omega⟩
def fwd (ps : Lg) (a : Nat) : Nat → Int × Int
  | 0 => (1, mtE)
  | i + 1 => nar (fwd ps a i) ((ps.getD (a + i) (0, true)).1 - uG ps (a + i)) (ps.getD (a + i) (0, true)).2
theorem fwd_loose {ps : Lg} (h0 : 1 ≤ aheadG ps) {a : Nat} (a1 : 1 ≤ a) (al : a ≤ ps.length) : ∀ i : Nat, a + i ≤ ps.length → (fwd ps a i).1 ≤ (bnG ps a).1 ∧ (bnG ps a).2 ≤ (fwd ps a i).2
  | 0, _ => by
    have := bn_mono h0 a1 (ps.length - a) (by omega)
    rw [show a + (ps.length - a) = ps.length by omega, bn_end] at this
    exact this
  | i + 1, h => by
    obtain ⟨i1, i2⟩ := fwd_loose h0 a1 al i (by omega)
    obtain ⟨⟨t, p⟩, hp⟩ : ∃ q, ps[a + i]? = some q := ⟨_, List.getElem?_eq_getElem (by omega)⟩
    obtain ⟨e, _⟩ := bn_step hp (by omega) h0
    obtain ⟨m1, m2⟩ := bn_mono h0 a1 i (by omega)
    have eg : ps.getD (a + i) (0, true) = (t, p) := by rw [List.getD_eq_getElem?_getD, hp]; rfl
    have tt := nar_tight (bnG ps (a + i + 1)) (t - uG ps (a + i)) p
    rw [← e] at tt
    obtain ⟨_, _, t3, t4⟩ := tt
    show (nar (fwd ps a i) ((ps.getD (a + i) (0, true)).1 - uG ps (a + i)) (ps.getD (a + i) (0, true)).2).1 ≤ _ ∧ _ ≤ (nar (fwd ps a i) ((ps.getD (a + i) (0, true)).1 - uG ps (a + i)) (ps.getD (a + i) (0, true)).2).2
    rw [eg]
    show (nar (fwd ps a i) (t - uG ps (a + i)) p).1 ≤ _ ∧ _ ≤ (nar (fwd ps a i) (t - uG ps (a + i)) p).2
    generalize fwd ps a i = b at i1 i2 ⊢
    obtain ⟨lo, hi⟩ := b
    cases p with
    | true =>
      have := t3 rfl
      show lo ≤ _ ∧ _ ≤ (if t - uG ps (a + i) < hi then t - uG ps (a + i) else hi)
      refine ⟨i1, ?_⟩
      split <;> omega
    | false =>
      have := t4 rfl
      show (if lo < t - uG ps (a + i) + 1 then t - uG ps (a + i) + 1 else lo) ≤ _ ∧ _ ≤ hi
      refine ⟨?_, i2⟩
      split <;> omega
def spFcN : Sp := fun vs H Q _ => ∃ a xs ps, vs = [.ref a] ∧ H a = some (.lst xs) ∧ Lgs H xs ps ∧ OkLog ps ∧ (ps = [] ∨ (1 ≤ aheadG ps ∧ (bnG ps (aheadG ps)).1 ≤ (bnG ps (aheadG ps)).2)) ∧ ∀ H', Same H H' → Q .non H'
section
variable {P : Program} {w : World} {K : PySem.W.Frag} {mg : Str → Option Value} {base : Heap} {L : LA}
end
/-! ### the forecast, for a log that a breaker explains -/
def gapN (ps : Lg) (t : Int) : Int := t - (latA none ps).getD 0
def spFore : Sp := fun vs H Q _ => ∃ a xs ps t, vs = [.ref a, .int t] ∧ H a = some (.lst xs) ∧ Lgs H xs ps ∧ OkLog ps ∧ (ps = [] ∨ (1 ≤ aheadG ps ∧ (bnG ps (aheadG ps)).1 ≤ (bnG ps (aheadG ps)).2)) ∧ (∀ q ∈ ps, q.1 < t) ∧ 0 ≤ t ∧
  ∀ (wd : Str) H', (wd = "pass" ∨ wd = "reject" ∨ wd = "either") → (wd = "pass" → ps ≠ [] → ∀ e ∈ exG ps, e.2.2 ≤ gapN ps t) → (wd = "reject" → ps ≠ [] ∧ ∀ e ∈ exG ps, gapN ps t < e.2.1) → Same H H' → Q (.str wd) H'
theorem ex_ne {ps : Lg} (hn : ps ≠ []) (h0 : 1 ≤ aheadG ps) (hb : (bnG ps (aheadG ps)).1 ≤ (bnG ps (aheadG ps)).2) : exG ps ≠ [] := by
  unfold exG
  rw [if_neg hn]
  have hl := ahead_le ps
  have : ((aheadG ps : Int), (bnG ps (aheadG ps)).1, (bnG ps (aheadG ps)).2) ∈ exUp ps ps.length := by
    unfold exUp
    refine List.mem_flatMap.mpr ⟨aheadG ps - 1, List.mem_range.mpr (by omega), ?_⟩
    rw [show aheadG ps - 1 + 1 = aheadG ps by omega]
    unfold exF
    rw [if_pos ⟨Nat.le_refl _, hb⟩]
    exact List.mem_singleton.mpr rfl
  intro z
  rw [z] at this
  cases this
theorem latA_is {ps : Lg} (h0 : 1 ≤ aheadG ps) : ∃ v, latA none ps = some v := by
  cases ps with
  | nil => cases h0
  | cons q r =>
    obtain ⟨t, p⟩ := q
    cases p with
    | false => cases h0
    | true => exact latA_some r t
section
variable {P : Program} {w : World} {K : PySem.W.Frag} {mg : Str → Option Value} {base : Heap} {L : LA}
end
/-! ### the first conflict of a log: what is true of it -/
/-- a breaker explains it -/
def Ok1 (ps : Lg) : Prop := ps = [] ∨ (1 ≤ aheadG ps ∧ (bnG ps (aheadG ps)).1 ≤ (bnG ps (aheadG ps)).2)
theorem ahead_take : ∀ (ps : Lg) (m : Nat), aheadG (ps.take m) = min m (aheadG ps)
  | [], m => by
    rw [List.take_nil]
    show 0 = min m 0
    omega
  | (t, p) :: r, 0 => by
    show 0 = min 0 _
    omega
  | (t, p) :: r, m + 1 => by
    cases p with
    | true =>
      show aheadG (r.take m) + 1 = min (m + 1) (aheadG r + 1)
      rw [ahead_take r m]
      omega
    | false =>
      show 0 = min (m + 1) 0
      omega
theorem nar_comm (b : Int × Int) (g h : Int) (p q : Bool) : nar (nar b g p) h q = nar (nar b h q) g p := by
  obtain ⟨lo, hi⟩ := b
  cases p <;> cases q <;> simp only [nar, Bool.false_eq_true, if_true, if_false] <;> refine Prod.ext ?_ ?_ <;> simp only <;> repeat' split <;> omega
theorem latA_cons (o : Option Int) (t : Int) (p : Bool) (r : Lg) : latA o ((t, p) :: r) = latA (if p then some t else o) r := rfl
theorem bnd_snoc : ∀ (xs : Lg) (u t : Int) (p : Bool), bndR u (xs ++ [(t, p)]) = nar (bndR u xs) (t - (latA (some u) xs).getD 0) p
  | [], u, t, p => rfl
  | (s, q) :: r, u, t, p => by
    show nar (bndR (if q then s else u) (r ++ [(t, p)])) (s - u) q = nar (nar (bndR (if q then s else u) r) (s - u) q) (t - (latA (some u) ((s, q) :: r)).getD 0) p
    rw [bnd_snoc r, nar_comm, latA_cons]
    cases q <;> rfl
theorem latA_cat : ∀ (xs ys : Lg) (o : Option Int), latA o (xs ++ ys) = latA (latA o xs) ys
  | [], _, _ => rfl
  | (t, p) :: r, ys, o => by
    show latA _ (r ++ ys) = _
    rw [latA_cat r ys]
    rfl
theorem lat_ahead {ps : Lg} (h0 : 1 ≤ aheadG ps) {a : Nat} (a1 : 1 ≤ a) : latA none (ps.take a) = some (uG ps a) := by
  have h1 : 1 ≤ aheadG (ps.take a) := by rw [ahead_take]; omega
  have : ∃ v, latA none (ps.take a) = some v := by
    generalize ps.take a = qs at h1
    cases qs with
    | nil => cases h1
    | cons q r =>
      obtain ⟨t, p⟩ := q
      cases p with
      | false => cases h1
      | true => exact latA_some r t
  obtain ⟨v, hv⟩ := this
  unfold uG
  rw [hv]
  rfl
theorem fwd_is {ps : Lg} (h0 : 1 ≤ aheadG ps) {a : Nat} (a1 : 1 ≤ a) : ∀ i : Nat, a + i ≤ ps.length → fwd ps a i = bndR (uG ps a) ((ps.drop a).take i)
  | 0, _ => rfl
  | i + 1, h => by
    obtain ⟨⟨t, p⟩, hp⟩ : ∃ q, ps[a + i]? = some q := ⟨_, List.getElem?_eq_getElem (by omega)⟩
    have eg : ps.getD (a + i) (0, true) = (t, p) := by rw [List.getD_eq_getElem?_getD, hp]; rfl
    have ed : (ps.drop a)[i]? = some (t, p) := by rw [List.getElem?_drop]; exact hp
    have eu : uG ps (a + i) = (latA (some (uG ps a)) ((ps.drop a).take i)).getD 0 := by
      unfold uG
      rw [List.take_add, latA_cat, lat_ahead h0 a1]
      rfl
    show nar (fwd ps a i) ((ps.getD (a + i) (0, true)).1 - uG ps (a + i)) (ps.getD (a + i) (0, true)).2 = _
    rw [eg, fwd_is h0 a1 i (by omega), List.take_add_one, ed, Option.toList_some, bnd_snoc, eu]
theorem bn_take {ps : Lg} (h0 : 1 ≤ aheadG ps) {a : Nat} (a1 : 1 ≤ a) {i : Nat} (h : a + i ≤ ps.length) : bnG (ps.take (a + i)) a = fwd ps a i := by
  rw [fwd_is h0 a1 i h]
  unfold bnG
  have e1 : uG (ps.take (a + i)) a = uG ps a := by
    unfold uG
    rw [List.take_take, Nat.min_eq_left (by omega)]
  rw [e1, List.drop_take, show a + i - a = i by omega]
/-- up to the entries that are passed at first, a breaker explains all -/
theorem ok_ahead {ps : Lg} {m : Nat} (h : m ≤ aheadG ps) : Ok1 (ps.take m) := by
  by_cases m0 : m = 0
  · subst m0
    exact .inl rfl
  have hl := ahead_le ps
  have e : (ps.take m).length = m := by rw [List.length_take]; omega
  refine .inr ⟨by rw [ahead_take]; omega, ?_⟩
  have ea : aheadG (ps.take m) = (ps.take m).length := by rw [ahead_take, e]; omega
  rw [ea, bn_end]
  decide
theorem ok_fwd {ps : Lg} (h0 : 1 ≤ aheadG ps) {i : Nat} (h : aheadG ps + i ≤ ps.length) : Ok1 (ps.take (aheadG ps + i)) ↔ (fwd ps (aheadG ps) i).1 ≤ (fwd ps (aheadG ps) i).2 := by
  have ea : aheadG (ps.take (aheadG ps + i)) = aheadG ps := by rw [ahead_take]; omega
  unfold Ok1
  rw [ea, bn_take h0 h0 h]
  constructor
  · rintro (z | ⟨_, z⟩)
    · have l : (ps.take (aheadG ps + i)).length = aheadG ps + i := by rw [List.length_take]; omega
      rw [z] at l
      have l : 0 = aheadG ps + i := l
      omega
    · exact z
  · exact fun z => .inr ⟨h0, z⟩
/-- what first_conflict tells -/
def FcR (ps : Lg) (v : V) : Prop := (v = .non ∧ ∀ j, j < ps.length → Ok1 (ps.take (j + 1))) ∨ ∃ i : Nat, v = .int (i : Int) ∧ i < ps.length ∧ ¬ Ok1 (ps.take (i + 1)) ∧ ∀ j, j < i → Ok1 (ps.take (j + 1))
theorem FcR.one {ps : Lg} {v u : V} (h : FcR ps v) (h' : FcR ps u) : v = u := by
  rcases h with ⟨rfl, a⟩ | ⟨i, rfl, a, b, c⟩
  · rcases h' with ⟨rfl, _⟩ | ⟨j, rfl, d, e, f⟩
    · rfl
    · exact absurd (a j d) e
  · rcases h' with ⟨rfl, d⟩ | ⟨j, rfl, d, e, f⟩
    · exact absurd (d i a) b
    · rcases Nat.lt_trichotomy i j with h | h | h
      · exact absurd (f i h) b
      · rw [h]
      · exact absurd (c j h) e
theorem ok_all {ps : Lg} (h : ∀ j, j < ps.length → Ok1 (ps.take (j + 1))) : Ok1 ps := by
  cases e : ps with
  | nil => exact .inl rfl
  | cons q r =>
    have := h r.length (by rw [e]; exact Nat.lt_succ_self _)
    rw [e, List.take_of_length_le (by rw [List.length_cons]; exact Nat.le_refl _)] at this
    exact this
/-! ### the first conflict, and the forecast, of any log -/
def spFc : Sp := fun vs H Q _ => ∃ a xs ps, vs = [.ref a] ∧ H a = some (.lst xs) ∧ Lgs H xs ps ∧ OkLog ps ∧ ∀ v H', FcR ps v → Same H H' → Q v H'
def FoR (ps : Lg) (t : Int) (wd : Str) : Prop := (wd = "pass" ∧ (ps = [] ∨ ∀ e ∈ exG ps, e.2.2 ≤ gapN ps t)) ∨ (wd = "reject" ∧ ps ≠ [] ∧ (¬ ∀ e ∈ exG ps, e.2.2 ≤ gapN ps t) ∧ ∀ e ∈ exG ps, gapN ps t < e.2.1) ∨ (wd = "either" ∧ ps ≠ [] ∧ (¬ ∀ e ∈ exG ps, e.2.2 ≤ gapN ps t) ∧ ¬ ∀ e ∈ exG ps, gapN ps t < e.2.1)
def spFor (C : Addr) : Sp := fun vs H Q E => ∃ a xs ps t, vs = [.ref a, .int t] ∧ H a = some (.lst xs) ∧ Lgs H xs ps ∧ OkLog ps ∧ (∀ q ∈ ps, q.1 < t) ∧ 0 ≤ t ∧ ((∀ j, j < ps.length → Ok1 (ps.take (j + 1))) → ∀ (wd : Str) H', FoR ps t wd → Same H H' → Q (.str wd) H') ∧
  ∀ i : Nat, i < ps.length → ¬ Ok1 (ps.take (i + 1)) → (∀ j, j < i → Ok1 (ps.take (j + 1))) → ∀ d H', H' d = some (.xd [("at", .int (i : Nat))]) → Same H H' → E (.ref C) (some d) H'
section
variable {P : Program} {w : World} {K : PySem.W.Frag} {mg : Str → Option Value} {base : Heap} {L : LA}
abbrev N_firstconflict : List Str := ["log", "ahead", "gaps", "bounds", "at"]
theorem sc_firstconflict : FnScope N_firstconflict ["log"] (defScope st_first_conflict) := ⟨rfl, rfl, rfl, by decide +kernel, rfl, by decide +kernel, by decide +kernel⟩
theorem fn_firstconflict (T : LX K mg L) {fd : FuncData} (F : Fun K "first_conflict" "first_conflict" st_first_conflict L.f_first_conflict fd) : FnOk P w K mg base (L2.CX P w) 6 L.f_first_conflict fd ["log"] (spFc) := by
  have G_checklog := ok_checklog (P := P) (w := w) (base := base) T
  have G_passesahead := ok_passesahead (P := P) (w := w) (base := base) T
  have G_gapsof := ok_gapsof (P := P) (w := w) (base := base) T
  obtain ⟨tk_MOST_TIME, c_MOST_TIME⟩ := T.n_MOST_TIME
  have G_narrowed := ok_narrowed (P := P) (w := w) (base := base) T
  have nd := sc_firstconflict.nd
  refine F.okX sc_firstconflict (fun vs H Q E h => ?_) (fun cdv A outer S H vs Q E hr h => ?_)
  · obtain ⟨a, xs, ps, rfl, _⟩ := h
    rfl
  · obtain ⟨a, xs, ps, rfl, ha, hx, ok, k⟩ := h
    refine ⟨_, (pss_cons (ps_expr (pe_cX G_checklog (hr.mono (by decide)) rfl (fun σ => passAt (takes_of rfl rfl rfl rfl) σ) (pa_cons (pv 0) pa_nil)))
       (pss_cons (ps_set (i := 1) nd rfl (Or.inl rfl) (pe_c G_passesahead (hr.mono (by decide)) rfl (pa_cons (pv 0) pa_nil)))
       (pss_cons (ps_if (pt_cmpR op_eq (pv 1) pe_int (nomark _)) (pss_one (ps_ret (pe_ifExp (pt_truth (pv 0) (fun _ => rfl)) pe_int pe_non))) pss_nil)
       (pss_cons (ps_set (i := 2) nd rfl (Or.inl rfl) (pe_c G_gapsof (hr.mono (by decide)) rfl (pa_cons (pv 0) pa_nil)))
       (pss_cons (ps_set (i := 3) nd rfl (Or.inl rfl) (pe_tup (pa_cons pe_int (pa_cons (pe_gI c_MOST_TIME) pa_nil))))
       (pss_cons (ps_for (passes_of rfl) rfl (pi_range2 rfl T.b_range (pa_cons (pv 1) (pa_cons (pe_callB call_len_seq (by rfl) T.b_len PySem.boot_len (pa_cons (pv 0) pa_nil)) pa_nil))) (pg_name (i := 4) nd rfl (Or.inl rfl)) (pss_cons (ps_set (i := 3) nd rfl (Or.inl rfl) (pe_c G_narrowed (hr.mono (by decide)) rfl (pa_cons (pv 3) (pa_cons (pe_ix (r := rIxL K) ix_list (pv 2) (pv 4) (fun _ _ => rfl)) (pa_cons (pe_ix (r := rIxT K) ix_tup (pe_ix (r := rIxL K) ix_list (pv 0) (pv 4) (fun _ _ => rfl)) pe_int (fun _ _ => rfl)) pa_nil)))))
       (pss_one (ps_if (pt_cmpR op_gt (pe_ix (r := rIxT K) ix_tup (pv 3) pe_int (fun _ _ => rfl)) (pe_ix (r := rIxT K) ix_tup (pv 3) pe_int (fun _ _ => rfl)) (nomark _)) (pss_one (ps_ret (pv 4))) pss_nil))))
       (pss_one (ps_ret pe_non)))))))), ?_⟩
    have xl := paired_len hx
    have ln := ok.ln
    refine ⟨_, rfl, a, xs, ps, rfl, ha, hx, ok, fun H1 s1 => ?_⟩
    refine ⟨_, rfl, a, xs, ps, rfl, s1 _ _ ha, hx.same s1, ln, fun H2 s2 => ?_⟩
    have s12 := s1.trans s2
    refine ⟨_, rfl, rfl, _, rfl, ?_⟩
    refine ite2 (fun c => ?_) (fun c => ?_)
    · have c0 : aheadG ps = 0 := by have := V.int.inj (of_decide_eq_true c); omega
      by_cases hn : ps = []
      · subst hn
        have x0 : xs = [] := List.length_eq_zero_iff.mp xl
        subst x0
        exact ⟨_, rfl, false, .inl ⟨_, SqL.of (s12 _ _ ha), rfl⟩, iteF (k _ _ (.inl ⟨rfl, fun j h => absurd h (Nat.not_lt_zero _)⟩) s12)⟩
      · have l0 : 0 < ps.length := List.length_pos_iff.mpr hn
        refine ⟨_, rfl, true, .inl ⟨_, SqL.of (s12 _ _ ha), ?_⟩, iteT (k _ _ (.inr ⟨0, rfl, l0, ?_, fun j h => absurd h (Nat.not_lt_zero _)⟩) s12)⟩
        · cases xs with
          | nil => rw [← xl] at l0; exact absurd l0 (Nat.lt_irrefl _)
          | cons _ _ => rfl
        · rintro (z | ⟨z, _⟩)
          · have e := congrArg List.length z
            rw [List.length_take] at e
            have e : min (0 + 1) ps.length = 0 := e
            omega
          · rw [ahead_take] at z
            omega
    have h0 : 1 ≤ aheadG ps := by
      have : ¬ aheadG ps = 0 := fun z => c (decide_eq_true (by rw [z]; rfl))
      omega
    have hl := ahead_le ps
    refine ⟨_, rfl, a, xs, ps, rfl, s12 _ _ ha, hx.same s12, by omega, fun lg H3 hg s3 nlg => ?_⟩
    have s13 := s12.trans s3
    refine ⟨(by show 2 ≤ sizeLine; decide), fun tb ntb => ?_⟩
    have sb := Same.upd (o := .tup [.int 1, .int 1000000000000000000000000000000]) ntb
    have s1b := s13.trans sb
    refine ⟨_, rfl, _, rfl, a, _, rfl, .inl (SqL.of (s1b _ _ ha)), _, _, rfl, ⟨by omega, by omega, by omega, by omega⟩, ?_⟩
    have en : ((xs.length : Int) - (aheadG ps : Int)).toNat = ps.length - aheadG ps := by omega
    rw [en]
    refine for_range (lo := (aheadG ps : Int)) (n := ps.length - aheadG ps) (fun i σ Hx => ∃ (v4 : Option V) (b : Addr), σ = [some (.ref a), some (.int (aheadG ps : Int)), some (.ref lg), some (.ref b), v4] ∧ Hx b = some (.tup [.int (fwd ps (aheadG ps) i).1, .int (fwd ps (aheadG ps) i).2]) ∧ Same H3 Hx ∧ ∀ j, j < aheadG ps + i → Ok1 (ps.take (j + 1)))
      ⟨none, tb, rfl, upd_same, sb, fun j hj => ok_ahead (by omega)⟩ ?_ ?_
    rotate_left
    · rintro σ Hx ⟨v4, b, rfl, hbx, sx, oks⟩
      exact k _ Hx (.inl ⟨rfl, fun j hj => oks j (by omega)⟩) (s13.trans sx)
    rintro i σ Hx hi ⟨v4, b, rfl, hbx, sx, oks⟩
    have sHx := s13.trans sx
    obtain ⟨f, hf⟩ : ∃ f, f = aheadG ps + i := ⟨_, rfl⟩
    rw [show (aheadG ps : Int) + (i : Int) = (f : Int) by omega]
    obtain ⟨x, hx1⟩ : ∃ x, xs[f]? = some x := ⟨_, List.getElem?_eq_getElem (by omega)⟩
    obtain ⟨⟨t, p⟩, hp, c', rfl, hcc⟩ := paired_get hx hx1
    obtain ⟨_, u, q2, q3⟩ := bn_step hp (by omega) h0
    have hgf := gapL_at hp
    rw [q2] at hgf
    have hgf2 : ((gapL ps).map gpV)[f]? = some (.int (t - u)) := by rw [List.getElem?_map, hgf]; rfl
    have eg : ps.getD (aheadG ps + i) (0, true) = (t, p) := by rw [List.getD_eq_getElem?_getD, ← hf, hp]; rfl
    refine ⟨_, rfl, _, rfl, _, rfl, lg, _, (f : Int), .int (t - u), rfl, rfl, SqL.of (sx _ _ hg), atI_nat hgf2, ?_⟩
    refine ⟨_, rfl, _, rfl, a, _, (f : Int), .ref c', rfl, rfl, SqL.of (sHx _ _ ha), atI_nat hx1, c', _, 1, .bl p, rfl, rfl, SqT.of (sHx _ _ hcc), rfl, ?_⟩
    refine ⟨b, fwd ps (aheadG ps) i, t - u, p, rfl, hbx, fun b' H4 hb' s4 => ?_⟩
    have ef : nar (fwd ps (aheadG ps) i) (t - u) p = fwd ps (aheadG ps) (i + 1) := by
      show _ = nar (fwd ps (aheadG ps) i) ((ps.getD (aheadG ps + i) (0, true)).1 - uG ps (aheadG ps + i)) (ps.getD (aheadG ps + i) (0, true)).2
      rw [eg, ← hf, q3]
    rw [ef] at hb'
    have of := ok_fwd h0 (i := i + 1) (by omega)
    refine ⟨_, rfl, b', _, 0, .int (fwd ps (aheadG ps) (i + 1)).1, rfl, rfl, SqT.of hb', rfl, _, rfl, b', _, 1, .int (fwd ps (aheadG ps) (i + 1)).2, rfl, rfl, SqT.of hb', rfl, _, _, rfl, rfl, _, rfl, ite2 (fun c => ?_) (fun c => ?_)⟩
    · have c := of_decide_eq_true c
      refine ⟨_, rfl, k _ H4 (.inr ⟨f, rfl, by omega, fun z => ?_, fun j hj => oks j (by omega)⟩) (sHx.trans s4)⟩
      have := of.mp (by rw [show aheadG ps + (i + 1) = f + 1 by omega]; exact z)
      omega
    · have c' : ¬ (fwd ps (aheadG ps) (i + 1)).2 < (fwd ps (aheadG ps) (i + 1)).1 := fun z => c (decide_eq_true z)
      refine ⟨_, b', rfl, hb', sx.trans s4, fun j hj => ?_⟩
      by_cases q : j < aheadG ps + i
      · exact oks j q
      · rw [show j + 1 = aheadG ps + (i + 1) by omega]
        exact of.mpr (by omega)
theorem ok_firstconflict (T : LX K mg L) : CalX P w K mg base "first_conflict" 6 L.f_first_conflict ["log"] (spFc) := T.d_first_conflict.calX fun fd F => fn_firstconflict T F
abbrev N_forecast : List Str := ["log", "time", "conflict", "gap", "found", "failures", "low", "high"]
theorem sc_forecast : FnScope N_forecast ["log", "time"] (defScope st_forecast) := ⟨rfl, rfl, rfl, by decide +kernel, rfl, by decide +kernel, by decide +kernel⟩
theorem fn_forecast (T : LX K mg L) {fd : FuncData} (F : Fun K "forecast" "forecast" st_forecast L.f_forecast fd) : FnOk P w K mg base (L2.CX P w) 7 L.f_forecast fd ["log", "time"] (spFor L.e_InvalidLog) := by
  have G_checklog := ok_checklog (P := P) (w := w) (base := base) T
  have G_firstconflict := ok_firstconflict (P := P) (w := w) (base := base) T
  have G_explanations := ok_explanations (P := P) (w := w) (base := base) T
  have G_isatleast := ok_isatleast (P := P) (w := w) (base := base) T
  have G_gapsof := ok_gapsof (P := P) (w := w) (base := base) T
  have nd := sc_forecast.nd
  refine F.okX sc_forecast (fun vs H Q E h => ?_) (fun cdv A outer S H vs Q E hr h => ?_)
  · obtain ⟨a, xs, ps, t, rfl, _⟩ := h
    rfl
  · obtain ⟨a, xs, ps, t, rfl, ha, hx, ok, ht, t0, k, kb⟩ := h
    refine ⟨_, (pss_cons (ps_expr (pe_cX G_checklog (hr.mono (by decide)) rfl (fun σ => passAt (takes_of rfl rfl rfl rfl) σ) (pa_cons (pv 0) pa_nil)))
       (pss_cons (ps_if (pt_not (pt_val (pe_c G_isatleast (hr.mono (by decide)) rfl (pa_cons (pv 1) (pa_cons (pe_ifExp (pt_truth (pv 0) (fun _ => rfl)) (pe_op op_add (pe_ix (r := rIxT K) ix_tup (pe_ix (r := rIxL K) ix_list (pv 0) (pe_un un_neg pe_int) (fun _ _ => rfl)) pe_int (fun _ _ => rfl)) pe_int) pe_int) pa_nil))))) (pss_one (ps_raise rfl (takes_of rfl rfl rfl rfl) (mk_InvalidTime T (hr.mono (by decide)) rfl (pa_cons (pv 1) pa_nil)))) pss_nil)
       (pss_cons (ps_set (i := 2) nd rfl (Or.inl rfl) (pe_cX G_firstconflict (hr.mono (by decide)) rfl (fun σ => passAt (takes_of rfl rfl rfl rfl) σ) (pa_cons (pv 0) pa_nil)))
       (pss_cons (ps_if (pt_cmp (pc_notN (pv 2))) (pss_one (ps_raise rfl (takes_of rfl rfl rfl rfl) (mk_InvalidLog T (hr.mono (by decide)) rfl (pa_cons (pv 2) pa_nil)))) pss_nil)
       (pss_cons (ps_if (pt_cmpR (op_eqD hr.units) (pv 0) (pe_lst pa_nil) (nomark _)) (pss_one (ps_ret pe_str)) pss_nil)
       (pss_cons (ps_set (i := 3) nd rfl (Or.inl rfl) (pe_ix (r := rIxL K) ix_list (pe_c G_gapsof (hr.mono (by decide)) rfl (pa_cons (pe_op op_cat (pv 0) (pe_lst (pa_cons (pe_tup (pa_cons (pv 1) (pa_cons pe_bl pa_nil))) pa_nil))) pa_nil)) (pe_un un_neg pe_int) (fun _ _ => rfl)))
       (pss_cons (ps_set (i := 4) nd rfl (Or.inl rfl) (pe_cX G_explanations (hr.mono (by decide)) rfl (fun σ => passAt (takes_of rfl rfl rfl rfl) σ) (pa_cons (pv 0) pa_nil)))
       (pss_cons (ps_if (pt_cmpR op_le (pe_callB (cr_max rfl) (by rfl) T.b_max (by decide +kernel) (pa_cons (pe_lc (own := [("failures", 5), ("low", 6), ("high", 7)]) (g := gTup K 3 (gCons (gName 5) (gCons (gName 6) (gCons (gName 7) (gNil))))) (tt := tYes) rfl nd (pi_list (pv 4)) (blkOk_by (own := [("failures", 5), ("low", 6), ("high", 7)]) (N := N_forecast) (sc := defScope st_forecast) (by decide +kernel)) (fun _ _ _ _ _ => pg_tup rfl (pgs_cons (pg_name (i := 5) nd rfl (Or.inl rfl)) (pgs_cons (pg_name (i := 6) nd rfl (Or.inl rfl)) (pgs_cons (pg_name (i := 7) nd rfl (Or.inl rfl)) pgs_nil)))) (fun _ _ _ _ _ => pts_nil) (fun _ _ _ _ _ => (pv 7))) pa_nil)) (pv 3) (nomark _)) (pss_one (ps_ret pe_str)) pss_nil)
       (pss_cons (ps_if (pt_cmpR op_gt (pe_callB (cr_min rfl) (by rfl) T.b_min (by decide +kernel) (pa_cons (pe_lc (own := [("failures", 5), ("low", 6), ("high", 7)]) (g := gTup K 3 (gCons (gName 5) (gCons (gName 6) (gCons (gName 7) (gNil))))) (tt := tYes) rfl nd (pi_list (pv 4)) (blkOk_by (own := [("failures", 5), ("low", 6), ("high", 7)]) (N := N_forecast) (sc := defScope st_forecast) (by decide +kernel)) (fun _ _ _ _ _ => pg_tup rfl (pgs_cons (pg_name (i := 5) nd rfl (Or.inl rfl)) (pgs_cons (pg_name (i := 6) nd rfl (Or.inl rfl)) (pgs_cons (pg_name (i := 7) nd rfl (Or.inl rfl)) pgs_nil)))) (fun _ _ _ _ _ => pts_nil) (fun _ _ _ _ _ => (pv 6))) pa_nil)) (pv 3) (nomark _)) (pss_one (ps_ret pe_str)) pss_nil)
       (pss_one (ps_ret pe_str))))))))))), ?_⟩
    have xl := paired_len hx
    have ln := ok.ln
    refine ⟨_, rfl, a, xs, ps, rfl, ha, hx, ok, fun H1 s1 => ?_⟩
    by_cases hn : ps = []
    · subst hn
      have x0 : xs = [] := List.length_eq_zero_iff.mp xl
      subst x0
      refine ⟨_, rfl, _, rfl, false, .inl ⟨[], SqL.of (s1 _ _ ha), rfl⟩, iteF ⟨_, _, _, rfl, .int _, _, rfl, ?_⟩⟩
      show if (!(decide ((0 : Int) ≤ t))) = true then _ else _
      rw [decide_eq_true t0]
      refine iteF ⟨_, rfl, a, [], [], rfl, s1 _ _ ha, .nil, ok, fun v H2 hv s2 => ?_⟩
      rcases hv with ⟨rfl, _⟩ | ⟨i, _, hi, _⟩
      rotate_left
      · exact absurd hi (Nat.not_lt_zero _)
      refine ⟨_, rfl, _, rfl, iteF ⟨_, rfl, (by show 0 ≤ sizeLine; decide), fun l0 hl0 => ?_⟩⟩
      have s3 := Same.upd (o := .lst []) hl0
      refine ⟨_, _, Lgs.dpl (ps := []) ((s1.trans (s2.trans s3)) _ _ ha) .nil, Lgs.dpl (ps := []) upd_same .nil, lg_sh [], lg_sh [], _, rfl, ?_⟩
      rw [lg_eq, decide_eq_true rfl]
      exact iteT (k (fun j h => absurd h (Nat.not_lt_zero _)) "pass" _ (.inl ⟨rfl, .inl rfl⟩) (s1.trans (s2.trans s3)))
    obtain ⟨yi, v, rfl⟩ : ∃ ys v, xs = ys ++ [v] := by
      rcases List.eq_nil_or_concat xs with h | ⟨ys, v, h⟩
      · rw [h] at xl
        exact absurd (List.length_eq_zero_iff.mp xl.symm) hn
      · exact ⟨ys, v, by rw [h, List.concat_eq_append]⟩
    obtain ⟨⟨tl, pl⟩, hq, c, rfl, hcc⟩ := paired_get hx (i := yi.length) (x := v) (by rw [List.getElem?_append_right (Nat.le_refl _), Nat.sub_self]; rfl)
    have tlt := ht _ (List.mem_of_getElem? hq)
    have tlt : tl < t := tlt
    refine ⟨_, rfl, _, rfl, true, .inl ⟨_, SqL.of (s1 _ _ ha), by cases yi <;> rfl⟩, iteT ⟨_, rfl, 1, rfl, a, _, -1, .ref c, rfl, rfl, SqL.of (s1 _ _ ha), atI_last _ _, c, _, 0, .int tl, rfl, rfl, SqT.of (s1 _ _ hcc), rfl, _, _, rfl, rfl, _, _, _, rfl, .int _, _, rfl, ?_⟩⟩
    show if (!(decide (tl + 1 ≤ t))) = true then _ else _
    rw [decide_eq_true (show tl + 1 ≤ t by omega)]
    refine iteF ⟨_, rfl, a, _, ps, rfl, s1 _ _ ha, hx.same s1, ok, fun v H2 hv s2 => ?_⟩
    rcases hv with ⟨rfl, oks⟩ | ⟨i, rfl, hi, bad, oks⟩
    rotate_left
    · exact ⟨_, rfl, _, rfl, iteT ⟨_, rfl, (by show 1 ≤ 1000; decide), fun e he => raise1 (fun d H' hd s' => kb i hi bad oks d H' hd ((s1.trans s2).trans s')) e he⟩⟩
    have k := k oks
    obtain ⟨h0, hb⟩ : 1 ≤ aheadG ps ∧ (bnG ps (aheadG ps)).1 ≤ (bnG ps (aheadG ps)).2 := by
      rcases ok_all oks with z | z
      · exact absurd z hn
      · exact z
    have ne := ex_ne hn h0 hb
    obtain ⟨u, hu⟩ := latA_is h0
    have eg : gapN ps t = t - u := by unfold gapN; rw [hu]; rfl
    refine ⟨_, rfl, _, rfl, iteF ⟨_, rfl, (by show 0 ≤ sizeLine; decide), fun l0 hl0 => ?_⟩⟩
    have s3 := Same.upd (o := .lst []) hl0
    have s13 := s1.trans (s2.trans s3)
    refine ⟨_, _, Lgs.dpl (s13 _ _ ha) (hx.same s13), Lgs.dpl (ps := []) upd_same .nil, lg_sh ps, lg_sh [], _, rfl, ?_⟩
    rw [lg_eq, decide_eq_false hn]
    refine iteF ?_
    generalize upd H2 l0 (.lst []) = H3 at s3 s13 ⊢
    -- the gap
    refine ⟨_, rfl, _, rfl, (by show 2 ≤ sizeLine; decide), fun tp htp => ⟨(by show 1 ≤ sizeLine; decide), fun l1 hl1 => ?_⟩⟩
    have s4 := Same.upd (o := .tup [.int t, .bl true]) htp
    have s5 := Same.upd (o := .lst [.ref tp]) hl1
    have g4 := s5 _ _ (upd_same (H := H3) (a := tp) (o := .tup [.int t, .bl true]))
    have s15 := s13.trans (s4.trans s5)
    refine ⟨a, l1, _, _, rfl, rfl, s15 _ _ ha, upd_same, small2 (by rw [xl]; show _ + 1 ≤ 100000; omega), fun l2 hl2 => ?_⟩
    have s6 := Same.upd (o := .lst (yi ++ [.ref c] ++ [.ref tp])) hl2
    have s16 := s15.trans s6
    refine ⟨l2, _, ps ++ [(t, true)], rfl, upd_same, paired_app (hx.same s16) (.cons ⟨tp, rfl, s6 _ _ g4⟩ .nil), by rw [List.length_append]; show _ + 1 ≤ 1001; omega, fun lg H7 hlg s7 nlg => ?_⟩
    have s17 := s16.trans s7
    have lastG : (gapL (ps ++ [(t, true)])).map gpV = (((List.range ps.length).map fun i => (latA none ((ps ++ [(t, true)]).take i)).map fun u => ((ps ++ [(t, true)]).getD i (0, true)).1 - u).map gpV) ++ [.int (t - u)] := by
      have e1 : (latA none ((ps ++ [(t, true)]).take ps.length)).map (fun u => ((ps ++ [(t, true)]).getD ps.length (0, true)).1 - u) = some (t - u) := by
        rw [List.take_left, hu, List.getD_eq_getElem?_getD, List.getElem?_append_right (Nat.le_refl _), Nat.sub_self]
        rfl
      unfold gapL
      rw [List.length_append]
      show ((List.range (ps.length + 1)).map _).map gpV = _
      rw [List.range_succ, List.map_append, List.map_append, List.map_cons, e1]
      rfl
    rw [lastG] at hlg
    refine ⟨1, rfl, lg, _, -1, .int (t - u), rfl, rfl, SqL.of hlg, atI_last _ _, ?_⟩
    -- the explanations
    refine ⟨_, rfl, a, _, ps, rfl, s17 _ _ ha, hx.same s17, ok, fun lf ys H8 hlf_H8 hbr_H8 s8 nlf => ?_⟩
    have s18 := s17.trans s8
    have yl := hbr_H8.len
    have el : (exG ps).length ≤ 1000 := by
      unfold exG
      rw [if_neg hn]
      exact Nat.le_trans (exUp_len ps ps.length) ln
    have ep : 0 < (exG ps).length := List.length_pos_iff.mpr ne
    refine ⟨_, rfl, lf, rfl, ⟨_, SqL.of hlf_H8⟩, fun D hD => ?_⟩
    refine lc_list (K := K) (a := lf) (xs := ys) (fun j Hw => Hw D = some (.lst ((((exG ps).take j).map fun (e : Tri) => e.2.2).map V.int)) ∧ Same H8 Hw) ⟨upd_same, Same.upd hD⟩ (fun j Hw _ ⟨_, s⟩ => SqL.of (s _ _ hlf_H8)) ?_ ?_
    · rintro j x Hw hxj ⟨hDw, sw⟩
      obtain ⟨e, he, c, rfl, hce⟩ := paired_get hbr_H8 hxj
      have jl := (List.getElem?_eq_some_iff.mp he).1
      refine ⟨c, _, rfl, SqT.of (sw _ _ hce), rfl, _, _, rfl, _, _, rfl, _, _, rfl, rfl, rfl, tYes_of ⟨_, rfl, _, hDw, small1 (by rw [List.length_map, List.length_map, List.length_take]; omega), ?_, fun b o q => by rw [upd_ne (ne_of_none q hD)]; exact sw _ _ q⟩⟩
      rw [upd_same, List.take_add_one, he, List.map_append, List.map_append]
      rfl
    rintro H9 ⟨hD9, s9⟩
    rw [yl, List.take_length] at hD9
    refine ⟨D, (exG ps).map fun (e : Tri) => e.2.2, rfl, SqL.of hD9, by rw [List.length_map]; exact ep, fun M hM hMb => ⟨_, rfl, _, _, rfl, rfl, _, rfl, ?_⟩⟩
    have s19 := s18.trans s9
    refine ite2 (fun z => ?_) (fun z => ?_)
    · have z := of_decide_eq_true z
      exact k "pass" _ (.inl ⟨rfl, .inr fun e he => by rw [eg]; have := hMb _ (List.mem_map.mpr ⟨e, he, rfl⟩); omega⟩) s19
    have notA : ¬ ∀ e ∈ exG ps, e.2.2 ≤ gapN ps t := fun h => by
      obtain ⟨e, he, eM⟩ := List.mem_map.mp hM
      have := h e he
      rw [eg, eM] at this
      exact z (decide_eq_true this)
    have hlf_H9 := s9 _ _ hlf_H8
    have hbr_H9 := hbr_H8.nl (NL.of s9)
    refine ⟨_, rfl, lf, rfl, ⟨_, SqL.of hlf_H9⟩, fun D2 hD2 => ?_⟩
    refine lc_list (K := K) (a := lf) (xs := ys) (fun j Hw => Hw D2 = some (.lst ((((exG ps).take j).map fun (e : Tri) => e.2.1).map V.int)) ∧ Same H9 Hw) ⟨upd_same, Same.upd hD2⟩ (fun j Hw _ ⟨_, s⟩ => SqL.of (s _ _ hlf_H9)) ?_ ?_
    · rintro j x Hw hxj ⟨hDw, sw⟩
      obtain ⟨e, he, c, rfl, hce⟩ := paired_get hbr_H9 hxj
      have jl := (List.getElem?_eq_some_iff.mp he).1
      refine ⟨c, _, rfl, SqT.of (sw _ _ hce), rfl, _, _, rfl, _, _, rfl, _, _, rfl, rfl, rfl, tYes_of ⟨_, rfl, _, hDw, small1 (by rw [List.length_map, List.length_map, List.length_take]; omega), ?_, fun b o q => by rw [upd_ne (ne_of_none q hD2)]; exact sw _ _ q⟩⟩
      rw [upd_same, List.take_add_one, he, List.map_append, List.map_append]
      rfl
    rintro H10 ⟨hD10, s10⟩
    rw [yl, List.take_length] at hD10
    refine ⟨D2, (exG ps).map fun (e : Tri) => e.2.1, rfl, SqL.of hD10, by rw [List.length_map]; exact ep, fun m hm hmb => ⟨_, rfl, _, _, rfl, rfl, _, rfl, ?_⟩⟩
    refine ite2 (fun z => ?_) (fun z => ?_)
    · have z := of_decide_eq_true z
      exact k "reject" _ (.inr (.inl ⟨rfl, hn, notA, fun e he => by rw [eg]; have := hmb _ (List.mem_map.mpr ⟨e, he, rfl⟩); omega⟩)) (s19.trans s10)
    · refine k "either" _ (.inr (.inr ⟨rfl, hn, notA, fun h => ?_⟩)) (s19.trans s10)
      obtain ⟨e, he, eM⟩ := List.mem_map.mp hm
      have := h e he
      rw [eg, eM] at this
      exact z (decide_eq_true this)
theorem ok_forecast (T : LX K mg L) : CalX P w K mg base "forecast" 7 L.f_forecast ["log", "time"] (spFor L.e_InvalidLog) := T.d_forecast.calX fun fd F => fn_forecast T F
end
/-! ### k49: periods refused -/
def mt30 : Int := 1000000000000000000000000000000
/-- the item at i is as it must be -/
def okAt (ns : List Int) : Nat → Prop
  | 0 => ∃ p, ns[0]? = some p ∧ 1 ≤ p ∧ p ≤ mt30
  | i + 1 => ∃ c p, ns[i]? = some c ∧ ns[i + 1]? = some p ∧ c ≤ p ∧ p ≤ c + mt30 - 1 ∧ p % c = 0
theorem okAt_pos {ns : List Int} : ∀ {j : Nat} {c : Int}, (∀ i, i ≤ j → okAt ns i) → ns[j]? = some c → 1 ≤ c
  | 0, c, h, e => by
    obtain ⟨p, hp, h1, _⟩ := h 0 (Nat.le_refl _)
    rw [e] at hp
    cases hp
    exact h1
  | j + 1, c, h, e => by
    obtain ⟨b, p, hb, hp, h1, _⟩ := h (j + 1) (Nat.le_refl _)
    rw [e] at hp
    cases hp
    have := okAt_pos (j := j) (fun i hi => h i (by omega)) hb
    omega
def spChkP (C : Addr) : Sp := fun vs H Q E => ∃ a ns, vs = [.ref a] ∧ H a = some (.lst (ns.map V.int)) ∧ 1 ≤ ns.length ∧ ns.length ≤ 13 ∧
  ((∀ i, i < ns.length → okAt ns i) → Q .non H) ∧ (∀ i, i < ns.length → (∀ j, j < i → okAt ns j) → ¬ okAt ns i → ∀ d H', H' d = some (.xd [("at", .int (i : Nat))]) → Same H H' → E (.ref C) (some d) H')
section
variable {P : Program} {w : World} {K : PySem.W.Frag} {mg : Str → Option Value} {base : Heap} {L : LA}
abbrev N_checkperiods : List Str := ["period_list", "at", "coming", "period"]
theorem sc_checkperiods : FnScope N_checkperiods ["period_list"] (defScope st_check_periods) := ⟨rfl, rfl, rfl, by decide +kernel, rfl, by decide +kernel, by decide +kernel⟩
theorem fn_checkperiods (T : LX K mg L) {fd : FuncData} (F : Fun K "check_periods" "check_periods" st_check_periods L.f_check_periods fd) : FnOk P w K mg base (L2.CX P w) 3 L.f_check_periods fd ["period_list"] (spChkP L.e_InvalidLog) := by
  have G_iswithin := ok_iswithin (P := P) (w := w) (base := base) T
  obtain ⟨tk_MOST_TIME, c_MOST_TIME⟩ := T.n_MOST_TIME
  obtain ⟨tk_MOST_BREAKERS, c_MOST_BREAKERS⟩ := T.n_MOST_BREAKERS
  have nd := sc_checkperiods.nd
  refine F.okX sc_checkperiods (fun vs H Q E h => ?_) (fun cdv A outer S H vs Q E hr h => ?_)
  · obtain ⟨a, ns, rfl, _⟩ := h
    rfl
  · obtain ⟨a, ns, rfl, ha, l1, l13, kok, kbad⟩ := h
    refine ⟨_, (pss_cons (ps_if (PW.pt (pw_or (pt_not (pt_val (pe_callB call_isi (by rfl) T.b_isinstance (by decide +kernel) (pa_cons (pv 0) (pa_cons (pe_bltn (by rfl) T.b_list (by decide +kernel : bootBuiltins "list" = some (.type "list")) (v := .ty "list") rfl) pa_nil))))) (pw_or1 (pt_not (pt_chain op_le op_le pe_int (pe_callB call_len_seq (by rfl) T.b_len PySem.boot_len (pa_cons (pv 0) pa_nil)) (pe_op op_add (pe_gI c_MOST_BREAKERS) pe_int)))))) (pss_one (ps_raise rfl (takes_of rfl rfl rfl rfl) (mk_InvalidLog T (hr.mono (by decide)) rfl (pa_cons (pe_un un_neg pe_int) pa_nil)))) pss_nil)
       (pss_cons (ps_if (pt_not (pt_val (pe_c G_iswithin (hr.mono (by decide)) rfl (pa_cons (pe_ix (r := rIxL K) ix_list (pv 0) pe_int (fun _ _ => rfl)) (pa_cons pe_int (pa_cons (pe_gI c_MOST_TIME) pa_nil)))))) (pss_one (ps_raise rfl (takes_of rfl rfl rfl rfl) (mk_InvalidLog T (hr.mono (by decide)) rfl (pa_cons pe_int pa_nil)))) pss_nil)
       (pss_one (ps_for (passes_of rfl) rfl (pi_range2 rfl T.b_range (pa_cons pe_int (pa_cons (pe_callB call_len_seq (by rfl) T.b_len PySem.boot_len (pa_cons (pv 0) pa_nil)) pa_nil))) (pg_name (i := 1) nd rfl (Or.inl rfl)) (pss_cons (ps_set (i := 2) nd rfl (Or.inl rfl) (pe_ix (r := rIxL K) ix_list (pv 0) (pe_op op_sub (pv 1) pe_int) (fun _ _ => rfl)))
       (pss_cons (ps_set (i := 3) nd rfl (Or.inl rfl) (pe_ix (r := rIxL K) ix_list (pv 0) (pv 1) (fun _ _ => rfl)))
       (pss_one (ps_if (PW.pt (pw_or (pt_not (pt_val (pe_c G_iswithin (hr.mono (by decide)) rfl (pa_cons (pv 3) (pa_cons (pv 2) (pa_cons (pe_op op_sub (pe_op op_add (pv 2) (pe_gI c_MOST_TIME)) pe_int) pa_nil)))))) (pw_or1 (pt_cmpR op_ne (pe_op op_mod (pv 3) (pv 2)) pe_int (nomark _))))) (pss_one (ps_raise rfl (takes_of rfl rfl rfl rfl) (mk_InvalidLog T (hr.mono (by decide)) rfl (pa_cons (pv 1) pa_nil)))) pss_nil)))))))), ?_⟩
    have at0 : ∃ p, ns[0]? = some p := ⟨_, List.getElem?_eq_getElem (by omega)⟩
    obtain ⟨p0, hp0⟩ := at0
    refine ⟨_, rfl, _, .ty "list", _, _, _, rfl, .ty "list", (Kd.lst ha).ty, (Kd.lst ha).kit "list" _ (.inr ⟨by decide, by decide, rfl⟩), _, rfl, iteF ?_⟩
    refine ⟨_, rfl, a, _, rfl, .inl (SqL.of ha), _, _, rfl, rfl, _, rfl, ?_⟩
    rw [List.length_map]
    rw [decide_eq_true (show (1 : Int) ≤ (ns.length : Nat) by omega)]
    refine iteT ⟨_, _, rfl, rfl, _, _, rfl, rfl, _, rfl, ite2 (fun c => absurd c (by simp; omega)) (fun _ => ?_)⟩
    have atv : ∀ {i : Nat} {x : Int} {H' : Hp}, ns[i]? = some x → H' a = some (.lst (ns.map V.int)) → ∃ v, v = V.int x ∧ SqL K H' a (ns.map V.int) ∧ atI (ns.map V.int) (i : Int) = some v := fun {i x H'} e h => ⟨_, rfl, SqL.of h, atI_nat (by rw [List.getElem?_map, e]; rfl)⟩
    obtain ⟨_, rfl, q1, q2⟩ := atv hp0 ha
    refine ⟨_, rfl, a, _, 0, .int p0, rfl, rfl, q1, q2, .int p0, _, _, _, rfl, Kd.int p0, _, rfl, ?_⟩
    refine ite2 (fun c => ?_) (fun c => ?_)
    · have bad : ¬ okAt ns 0 := fun ⟨p, e, h1, h2⟩ => by
        rw [hp0] at e
        cases e
        simp [isI, toI] at c
        unfold mt30 at h2
        rcases c with c | c
        · exact of_decide_eq_false c h1
        · exact of_decide_eq_false c h2
      exact ⟨by decide, fun e he => raise1 (kbad 0 (by omega) (fun j h => absurd h (Nat.not_lt_zero _)) bad) e he⟩
    have ok0 : okAt ns 0 := by
      have : 1 ≤ p0 ∧ p0 ≤ mt30 := Classical.byContradiction fun h => c (by
        simp [isI, toI]
        by_cases h1 : 1 ≤ p0
        · refine .inr (decide_eq_false fun h2 => h ⟨h1, h2⟩)
        · exact .inl (decide_eq_false h1))
      exact ⟨p0, hp0, this⟩
    refine ⟨_, rfl, a, _, rfl, .inl (SqL.of ha), 1, _, rfl, ⟨by decide, by decide, by omega, by rw [List.length_map]; omega⟩, ?_⟩
    refine for_range (lo := 1) (n := ((((ns.map V.int).length : Nat) : Int) - 1).toNat) (fun j σ Hx => ∃ v1 v2 v3 : Option V, σ = [some (.ref a), v1, v2, v3] ∧ Hx = H ∧ ∀ i, i ≤ j → okAt ns i) ⟨none, none, none, rfl, rfl, fun i hi => by rw [Nat.le_zero.mp hi]; exact ok0⟩ ?_ ?_
    · rintro j σ Hx hj ⟨v1, v2, v3, rfl, rfl, hok⟩
      rw [List.length_map] at hj
      obtain ⟨c, hc⟩ : ∃ c, ns[j]? = some c := ⟨_, List.getElem?_eq_getElem (by omega)⟩
      obtain ⟨p, hp⟩ : ∃ p, ns[j + 1]? = some p := ⟨_, List.getElem?_eq_getElem (by omega)⟩
      have c1 := okAt_pos hok hc
      obtain ⟨_, rfl, q1, q2⟩ := atv hc ha
      obtain ⟨_, rfl, q3, q4⟩ := atv hp ha
      have e1 : (1 : Int) + ((j : Nat) : Int) = ((j + 1 : Nat) : Int) := by omega
      refine ⟨_, rfl, _, rfl, _, _, rfl, rfl, a, _, ((j : Nat) : Int), .int c, rfl, congrArg V.int (by omega), q1, q2, ?_⟩
      refine ⟨_, rfl, _, rfl, a, _, ((j + 1 : Nat) : Int), .int p, rfl, congrArg V.int e1, q3, q4, ?_⟩
      refine ⟨_, rfl, _, rfl, _, rfl, _, _, rfl, rfl, _, _, rfl, rfl, .int p, _, _, _, rfl, Kd.int p, _, rfl, ?_⟩
      have bad : ∀ (h : ¬ (c ≤ p ∧ p ≤ c + mt30 - 1 ∧ p % c = 0)), ¬ okAt ns (j + 1) := fun h ⟨c', p', ec, ep, z⟩ => by
        rw [hc] at ec
        rw [hp] at ep
        cases ec
        cases ep
        exact h z
      have hk := kbad (j + 1) (by omega) (fun i hi => hok i (by omega))
      refine ite2 (fun w => ?_) (fun w => ?_)
      · have h : ¬ (c ≤ p ∧ p ≤ c + mt30 - 1 ∧ p % c = 0) := fun ⟨h1, h2, _⟩ => by
          unfold mt30 at h2
          simp [isI, toI] at w
          rcases w with w | w
          · exact of_decide_eq_false w h1
          · exact of_decide_eq_false w h2
        refine iteT ⟨_, rfl, (by show 1 ≤ 1000; decide), fun e he => ?_⟩
        show spEI1 _ _ [.ref e, .int (1 + ((j : Nat) : Int))] _ _ _
        rw [e1]
        exact raise1 (hk (bad h)) e he
      · have h12 : c ≤ p ∧ p ≤ c + mt30 - 1 := Classical.byContradiction fun h => w (by
          simp [isI, toI]
          by_cases h1 : c ≤ p
          · exact .inr (decide_eq_false fun h2 => h ⟨h1, h2⟩)
          · exact .inl (decide_eq_false h1))
        refine ⟨_, rfl, _, rfl, _, _, rfl, rfl, by omega, rfl, _, rfl, ite2 (fun u => ?_) (fun u => ?_)⟩
        · have h : ¬ (c ≤ p ∧ p ≤ c + mt30 - 1 ∧ p % c = 0) := fun ⟨_, _, h3⟩ => by simp [h3] at u
          refine ⟨_, rfl, (by show 1 ≤ 1000; decide), fun e he => ?_⟩
          show spEI1 _ _ [.ref e, .int (1 + ((j : Nat) : Int))] _ _ _
          rw [e1]
          exact raise1 (hk (bad h)) e he
        · have h3 : p % c = 0 := by simpa using u
          refine ⟨_, _, _, rfl, rfl, fun i hi => ?_⟩
          by_cases q : i ≤ j
          · exact hok i q
          · have : i = j + 1 := by omega
            subst this
            exact ⟨c, p, hc, hp, h12.1, h12.2, h3⟩
    · rintro σ Hx ⟨v1, v2, v3, rfl, rfl, hok⟩
      rw [List.length_map] at hok
      exact kok fun i hi => hok i (by omega)
theorem ok_checkperiods (T : LX K mg L) : CalX P w K mg base "check_periods" 3 L.f_check_periods ["period_list"] (spChkP L.e_InvalidLog) := T.d_check_periods.calX fun fd F => fn_checkperiods T F
end
/-! ### the waits that a breaker can have -/
def PrW (H : Hp) (xs : List V) (ps : List (Int × Int)) : Prop := Paired (fun x o => ∃ c, x = .ref c ∧ H c = some (.tup [.int o.1, .int o.2])) xs ps
theorem PrW.nl {H H' : Hp} (k : NL H H') {xs : List V} {ps : List (Int × Int)} (h : PrW H xs ps) : PrW H' xs ps := L2.Paired.mapP h fun _ _ ⟨c, e, z⟩ => ⟨c, e, k _ _ z fun _ q => nomatch q⟩
theorem cut_dr (xs : List V) (k : Nat) (h : k ≤ xs.length) : cutV xs (some (k : Int)) none = xs.drop k := by
  unfold cutV
  rw [HT.sIx_nat, HT.sIx_none, Nat.min_eq_left h, List.take_of_length_le (by rw [List.length_drop]; exact Nat.le_refl _)]
def wtG (ns : List Int) : List (Int × Int) := List.zipWith (fun c p => (p - c + 1, if mt30 < p then mt30 else p)) ns (ns.drop 1)
def spWaits (C : Addr) : Sp := fun vs H Q E => ∃ a ns, vs = [.ref a] ∧ H a = some (.lst (ns.map V.int)) ∧ 1 ≤ ns.length ∧ ns.length ≤ 13 ∧
  ((∀ i, i < ns.length → okAt ns i) → ∀ l xs H', H' l = some (.lst xs) → PrW H' xs (wtG ns) → Same H H' → H l = none → Q (.ref l) H') ∧ (∀ i, i < ns.length → (∀ j, j < i → okAt ns j) → ¬ okAt ns i → ∀ d H', H' d = some (.xd [("at", .int (i : Nat))]) → Same H H' → E (.ref C) (some d) H')
section
variable {P : Program} {w : World} {K : PySem.W.Frag} {mg : Str → Option Value} {base : Heap} {L : LA}
abbrev N_waitsof : List Str := ["period_list", "coming", "period"]
theorem sc_waitsof : FnScope N_waitsof ["period_list"] (defScope st_waits_of) := ⟨rfl, rfl, rfl, by decide +kernel, rfl, by decide +kernel, by decide +kernel⟩
theorem fn_waitsof (T : LX K mg L) {fd : FuncData} (F : Fun K "waits_of" "waits_of" st_waits_of L.f_waits_of fd) : FnOk P w K mg base (L2.CX P w) 4 L.f_waits_of fd ["period_list"] (spWaits L.e_InvalidLog) := by
  have G_checkperiods := ok_checkperiods (P := P) (w := w) (base := base) T
  obtain ⟨tk_MOST_TIME, c_MOST_TIME⟩ := T.n_MOST_TIME
  have nd := sc_waitsof.nd
  refine F.okX sc_waitsof (fun vs H Q E h => ?_) (fun cdv A outer S H vs Q E hr h => ?_)
  · obtain ⟨a, ns, rfl, _⟩ := h
    rfl
  · obtain ⟨a, ns, rfl, ha, l1, l13, kok, kbad⟩ := h
    refine ⟨_, (pss_cons (ps_expr (pe_cX G_checkperiods (hr.mono (by decide)) rfl (fun σ => passAt (takes_of rfl rfl rfl rfl) σ) (pa_cons (pv 0) pa_nil)))
       (pss_one (ps_ret (pe_lc (own := [("coming", 1), ("period", 2)]) (g := gTup K 2 (gCons (gName 1) (gCons (gName 2) (gNil)))) (tt := tYes) rfl nd (pi_zip (by rfl) T.b_zip (pa_cons (pv 0) (pa_cons (pe_slice (r := rSlL K) sl_list (pv 0) (po_some pe_int) po_none) pa_nil))) (blkOk_by (own := [("coming", 1), ("period", 2)]) (N := N_waitsof) (sc := defScope st_waits_of) (by decide +kernel)) (fun _ _ _ _ _ => pg_tup rfl (pgs_cons (pg_name (i := 1) nd rfl (Or.inl rfl)) (pgs_cons (pg_name (i := 2) nd rfl (Or.inl rfl)) pgs_nil))) (fun _ _ _ _ _ => pts_nil) (fun _ _ _ _ _ => (pe_tup (pa_cons (pe_op op_add (pe_op op_sub (pv 2) (pv 1)) pe_int) (pa_cons (pe_callB (call_min2 rfl) (by rfl) T.b_min (by decide +kernel) (pa_cons (pv 2) (pa_cons (pe_gI c_MOST_TIME) pa_nil))) pa_nil)))))))), ?_⟩
    refine ⟨_, rfl, a, ns, rfl, ha, l1, l13, fun hok => ?_, fun i hi hj hb d H' hd s => kbad i hi hj hb d H' hd s⟩
    have kok := kok hok
    refine ⟨_, rfl, _, rfl, 1, rfl, a, _, rfl, SqL.of ha, fun l2 nl2 => ?_⟩
    rw [show cutV (ns.map V.int) (some 1) none = (ns.drop 1).map V.int from by rw [show (some (1 : Int)) = some ((1 : Nat) : Int) from rfl, cut_dr _ _ (by rw [List.length_map]; omega), List.map_drop]]
    have s1 := Same.upd (o := .lst ((ns.drop 1).map V.int)) nl2
    refine ⟨a, l2, _, _, rfl, SqL.of (s1 _ _ ha), SqL.of upd_same, fun D nD => ?_⟩
    refine lc_zip (K := K) (a := a) (b := l2) (xs := ns.map V.int) (ys := (ns.drop 1).map V.int) (by rw [List.length_map, List.length_map, List.length_drop]; omega) (fun j Hy => ∃ ws, Hy D = some (.lst ws) ∧ PrW Hy ws ((wtG ns).take j) ∧ Same (upd H l2 (.lst ((ns.drop 1).map V.int))) Hy)
      ⟨[], upd_same, .nil, Same.upd nD⟩ (fun j Hy ⟨_, _, _, sy⟩ => ⟨SqL.of (sy _ _ (s1 _ _ ha)), SqL.of (sy _ _ upd_same)⟩) ?_ ?_
    · rintro j x y T' Hy hx hy ⟨ws, hws, hz, sy⟩ hT
      rw [List.getElem?_map] at hx hy
      obtain ⟨c, hc, rfl⟩ := Option.map_eq_some_iff.mp hx
      obtain ⟨p, hp, rfl⟩ := Option.map_eq_some_iff.mp hy
      have sT := Same.upd (o := .tup [.int c, .int p]) hT
      have wl := paired_len hz
      refine ⟨T', _, rfl, SqT.of upd_same, rfl, _, _, rfl, _, _, rfl, rfl, rfl, tYes_of ?_⟩
      refine ⟨_, rfl, _, rfl, _, _, rfl, rfl, _, _, rfl, rfl, _, rfl, ?_⟩
      refine ⟨_, _, rfl, (by show 2 ≤ sizeLine; decide), fun q nq => ?_⟩
      have sq := Same.upd (o := .tup [.int (p - c + 1), .int (if mt30 < p then mt30 else p)]) nq
      have hwq := sq _ _ (sT _ _ hws)
      have ez : (wtG ns)[j]? = some (p - c + 1, if mt30 < p then mt30 else p) := by
        unfold wtG
        rw [List.getElem?_zipWith, hc, hp]
      have wj := (List.getElem?_eq_some_iff.mp ez).1
      have wll : (wtG ns).length ≤ 13 := by
        unfold wtG
        rw [List.length_zipWith]
        omega
      rw [List.length_take] at wl
      have n7 := NL.upd (o := .lst (ws ++ [.ref q])) hwq
      refine ⟨ws, hwq, small1 (by omega), ws ++ [.ref q], upd_same, ?_, fun b o e => by rw [upd_ne (ne_of_none e nD)]; exact sq _ _ (sT _ _ (sy _ _ e))⟩
      rw [List.take_add_one, ez]
      exact paired_app (((hz.nl (NL.of sT)).nl (NL.of sq)).nl n7) (.cons ⟨q, rfl, n7 _ _ upd_same fun _ z => nomatch z⟩ .nil)
    · rintro Hy ⟨ws, hws, hz, sy⟩
      rw [List.take_of_length_le (by unfold wtG; rw [List.length_zipWith, List.length_map]; omega)] at hz
      exact kok D ws Hy hws hz (s1.trans sy) (none_of s1 nD)
theorem ok_waitsof (T : LX K mg L) : CalX P w K mg base "waits_of" 4 L.f_waits_of ["period_list"] (spWaits L.e_InvalidLog) := T.d_waits_of.calX fun fd F => fn_waitsof T F
end
/-! ### k50: what is no log, no breaker, no list of times, no list of periods -/
theorem FnOk.or0 {P : Program} {w : World} {K : PySem.W.Frag} {mg : Str → Option Value} {base : Heap} {CX : CXT} {k : Nat} {f : Addr} {fd : FuncData} {ps : List Str} {sp1 sp2 : Sp} (F1 : FnOk P w K mg base CX k f fd ps sp1) (F2 : FnOk P w K mg base CX k f fd ps sp2) : FnOk P w K mg base CX k f fd ps (fun vs H Q E => sp1 vs H Q E ∨ sp2 vs H Q E) :=
  ⟨fun vs H Q E h => h.elim (F1.len vs H Q E) (F2.len vs H Q E), fun A outer s H args us vs Q E hr e0 hb hv h => h.elim (F1.run A outer s H args us vs Q E hr e0 hb hv) (F2.run A outer s H args us vs Q E hr e0 hb hv)⟩
theorem Kd.sameK {H H' : Hp} {v : V} {nm : String} (k : Kd H v nm) (s : Same H H') : Kd H' v nm := by
  cases k with
  | non => exact .non
  | bl b => exact .bl b
  | int i => exact .int i
  | str x => exact .str x
  | lst e => exact .lst (s _ _ e)
  | tup e => exact .tup (s _ _ e)
  | dK e => exact .dK (s _ _ e)
inductive NoEnt (H : Hp) : V → Prop
  | kind {v : V} {nm : String} (k : Kd H v nm) (n : nm ≠ "tuple") : NoEnt H v
  | len {a : Addr} {xs : List V} (e : H a = some (.tup xs)) (n : xs.length ≠ 2) : NoEnt H (.ref a)
  | num {a : Addr} {x y : V} {n1 n2 : String} (e : H a = some (.tup [x, y])) (k1 : Kd H x n1) (k2 : Kd H y n2) (bad : ((isI x && decide (0 ≤ toI x)) && (n2 == "bool")) = false) : NoEnt H (.ref a)
theorem NoEnt.same {H H' : Hp} {v : V} (h : NoEnt H v) (s : Same H H') : NoEnt H' v := by
  cases h with
  | kind k n => exact .kind (Kd.sameK k s) n
  | len e n => exact .len (s _ _ e) n
  | num e k1 k2 bad => exact .num (s _ _ e) (Kd.sameK k1 s) (Kd.sameK k2 s) bad
def spIsEntN : Sp := fun vs H Q _ => ∃ x, vs = [x] ∧ NoEnt H x ∧ Q (.bl false) H
inductive NoBr (H : Hp) : V → Prop
  | kind {v : V} {nm : String} (k : Kd H v nm) (n : nm ≠ "tuple") : NoBr H v
  | len {a : Addr} {xs : List V} (e : H a = some (.tup xs)) (n : xs.length ≠ 3) : NoBr H (.ref a)
  | num {a : Addr} {x y z : V} {n1 n2 n3 : String} (e : H a = some (.tup [x, y, z])) (k1 : Kd H x n1) (k2 : Kd H y n2) (k3 : Kd H z n3)
      (bad : ((isI x && (decide (1 ≤ toI x) && decide (toI x ≤ 1000000000000))) && ((isI y && (decide (1 ≤ toI y) && decide (toI y ≤ 1000000000000000000000000000000))) && (isI z && (decide (1 ≤ toI z) && decide (toI z ≤ 1000000000000))))) = false) : NoBr H (.ref a)
theorem NoBr.same {H H' : Hp} {v : V} (h : NoBr H v) (s : Same H H') : NoBr H' v := by
  cases h with
  | kind k n => exact .kind (Kd.sameK k s) n
  | len e n => exact .len (s _ _ e) n
  | num e k1 k2 k3 bad => exact .num (s _ _ e) (Kd.sameK k1 s) (Kd.sameK k2 s) (Kd.sameK k3 s) bad
def spIsBrN : Sp := fun vs H Q _ => ∃ x, vs = [x] ∧ NoBr H x ∧ Q (.bl false) H
namespace N
section
variable {P : Program} {w : World} {K : PySem.W.Frag} {mg : Str → Option Value} {base : Heap} {L : LA}
abbrev N_isentry : List Str := ["value", "time", "passed"]
theorem sc_isentry : FnScope N_isentry ["value"] (defScope st_is_entry) := ⟨rfl, rfl, rfl, by decide +kernel, rfl, by decide +kernel, by decide +kernel⟩
theorem fn_isentry (T : LX K mg L) {fd : FuncData} (F : Fun K "is_entry" "is_entry" st_is_entry L.f_is_entry fd) : FnOk P w K mg base CX0 3 L.f_is_entry fd ["value"] (spIsEntN) := by
  have G_isatleast := ok_isatleast (P := P) (w := w) (base := base) T
  have nd := sc_isentry.nd
  refine F.ok sc_isentry (fun vs H Q E h => ?_) (fun cdv A outer S H vs Q E hr h => ?_)
  · obtain ⟨x, rfl, _⟩ := h
    rfl
  · obtain ⟨x, rfl, nt, k⟩ := h
    refine ⟨_, (pss_cons (ps_if (PW.pt (pw_or (pt_not (pt_val (pe_callB call_isi (by rfl) T.b_isinstance (by decide +kernel) (pa_cons (pv 0) (pa_cons (pe_bltn (by rfl) T.b_tuple (by decide +kernel : bootBuiltins "tuple" = some (.type "tuple")) (v := .ty "tuple") rfl) pa_nil))))) (pw_or1 (pt_cmpR op_ne (pe_callB call_len_seq (by rfl) T.b_len PySem.boot_len (pa_cons (pv 0) pa_nil)) pe_int (nomark _))))) (pss_one (ps_ret pe_bl)) pss_nil)
       (pss_cons (ps_asg (pv 0) (pg_tup rfl (pgs_cons (pg_name (i := 1) nd rfl (Or.inl rfl)) (pgs_cons (pg_name (i := 2) nd rfl (Or.inl rfl)) pgs_nil))))
       (pss_one (ps_ret (pe_and (pe_c G_isatleast (hr.mono (by decide)) rfl (pa_cons (pv 1) (pa_cons pe_int pa_nil))) (pe_one (pe_callB call_isi (by rfl) T.b_isinstance (by decide +kernel) (pa_cons (pv 2) (pa_cons (pe_bltn (by rfl) T.b_bool (by decide +kernel : bootBuiltins "bool" = some (.type "bool")) (v := .ty "bool") rfl) pa_nil))))))))), ?_⟩
    cases nt with
    | @kind _ nm kd n =>
      refine ⟨_, rfl, _, .ty "tuple", _, _, _, rfl, .ty "tuple", kd.ty, kd.kit "tuple" _ (.inr ⟨by decide, by decide, rfl⟩), _, rfl, ?_⟩
      rw [show (nm == "tuple") = false from beq_false_of_ne n]
      exact iteT (iteT k)
    | @len a xs e n =>
      refine ⟨_, rfl, _, .ty "tuple", _, _, _, rfl, .ty "tuple", (Kd.tup e).ty, (Kd.tup e).kit "tuple" _ (.inr ⟨by decide, by decide, rfl⟩), _, rfl, iteF ?_⟩
      refine ⟨_, rfl, a, _, rfl, .inr (SqT.of e), rfl, _, rfl, ?_⟩
      rw [show (!decide (V.int (xs.length : Int) = V.int 2)) = true by
        rw [decide_eq_false fun z => n (by have := V.int.inj z; omega)]
        rfl]
      exact iteT k
    | @num a x y n1 n2 e k1 k2 bad =>
      refine ⟨_, rfl, _, .ty "tuple", _, _, _, rfl, .ty "tuple", (Kd.tup e).ty, (Kd.tup e).kit "tuple" _ (.inr ⟨by decide, by decide, rfl⟩), _, rfl, iteF ?_⟩
      refine ⟨_, rfl, a, _, rfl, .inr (SqT.of e), rfl, _, rfl, iteF ?_⟩
      refine ⟨_, rfl, a, _, rfl, SqT.of e, rfl, _, _, rfl, _, _, rfl, rfl, ?_⟩
      refine ⟨_, rfl, _, _, _, rfl, k1, _, rfl, ?_⟩
      cases b1 : (isI x && decide (0 ≤ toI x)) with
      | false => exact iteF k
      | true =>
        rw [b1, Bool.true_and] at bad
        refine iteT ⟨_, rfl, _, .ty "bool", _, _, _, rfl, .ty "bool", k2.ty, k2.kit "bool" _ (.inr ⟨by decide, by decide, rfl⟩), ?_⟩
        rw [bad]
        exact k
theorem ok_isentry (T : LX K mg L) : Cal P w K mg base "is_entry" 3 L.f_is_entry ["value"] (spIsEntN) := T.d_is_entry.cal fun fd F => fn_isentry T F
abbrev N_isbreaker : List Str := ["value", "failures", "wait", "successes"]
theorem sc_isbreaker : FnScope N_isbreaker ["value"] (defScope st_is_breaker) := ⟨rfl, rfl, rfl, by decide +kernel, rfl, by decide +kernel, by decide +kernel⟩
theorem fn_isbreaker (T : LX K mg L) {fd : FuncData} (F : Fun K "is_breaker" "is_breaker" st_is_breaker L.f_is_breaker fd) : FnOk P w K mg base CX0 3 L.f_is_breaker fd ["value"] (spIsBrN) := by
  have G_iswithin := ok_iswithin (P := P) (w := w) (base := base) T
  obtain ⟨tk_MOST_COUNT, c_MOST_COUNT⟩ := T.n_MOST_COUNT
  obtain ⟨tk_MOST_TIME, c_MOST_TIME⟩ := T.n_MOST_TIME
  have nd := sc_isbreaker.nd
  refine F.ok sc_isbreaker (fun vs H Q E h => ?_) (fun cdv A outer S H vs Q E hr h => ?_)
  · obtain ⟨x, rfl, _⟩ := h
    rfl
  · obtain ⟨x, rfl, nt, k⟩ := h
    refine ⟨_, (pss_cons (ps_if (PW.pt (pw_or (pt_not (pt_val (pe_callB call_isi (by rfl) T.b_isinstance (by decide +kernel) (pa_cons (pv 0) (pa_cons (pe_bltn (by rfl) T.b_tuple (by decide +kernel : bootBuiltins "tuple" = some (.type "tuple")) (v := .ty "tuple") rfl) pa_nil))))) (pw_or1 (pt_cmpR op_ne (pe_callB call_len_seq (by rfl) T.b_len PySem.boot_len (pa_cons (pv 0) pa_nil)) pe_int (nomark _))))) (pss_one (ps_ret pe_bl)) pss_nil)
       (pss_cons (ps_asg (pv 0) (pg_tup rfl (pgs_cons (pg_name (i := 1) nd rfl (Or.inl rfl)) (pgs_cons (pg_name (i := 2) nd rfl (Or.inl rfl)) (pgs_cons (pg_name (i := 3) nd rfl (Or.inl rfl)) pgs_nil)))))
       (pss_one (ps_ret (pe_and (pe_c G_iswithin (hr.mono (by decide)) rfl (pa_cons (pv 1) (pa_cons pe_int (pa_cons (pe_gI c_MOST_COUNT) pa_nil)))) (pe_and (pe_c G_iswithin (hr.mono (by decide)) rfl (pa_cons (pv 2) (pa_cons pe_int (pa_cons (pe_gI c_MOST_TIME) pa_nil)))) (pe_one (pe_c G_iswithin (hr.mono (by decide)) rfl (pa_cons (pv 3) (pa_cons pe_int (pa_cons (pe_gI c_MOST_COUNT) pa_nil))))))))))), ?_⟩
    cases nt with
    | @kind _ nm kd n =>
      refine ⟨_, rfl, _, .ty "tuple", _, _, _, rfl, .ty "tuple", kd.ty, kd.kit "tuple" _ (.inr ⟨by decide, by decide, rfl⟩), _, rfl, ?_⟩
      rw [show (nm == "tuple") = false from beq_false_of_ne n]
      exact iteT (iteT k)
    | @len a xs e n =>
      refine ⟨_, rfl, _, .ty "tuple", _, _, _, rfl, .ty "tuple", (Kd.tup e).ty, (Kd.tup e).kit "tuple" _ (.inr ⟨by decide, by decide, rfl⟩), _, rfl, iteF ?_⟩
      refine ⟨_, rfl, a, _, rfl, .inr (SqT.of e), rfl, _, rfl, ?_⟩
      rw [show (!decide (V.int (xs.length : Int) = V.int 3)) = true by
        rw [decide_eq_false fun z => n (by have := V.int.inj z; omega)]
        rfl]
      exact iteT k
    | @num a x y z n1 n2 n3 e k1 k2 k3 bad =>
      refine ⟨_, rfl, _, .ty "tuple", _, _, _, rfl, .ty "tuple", (Kd.tup e).ty, (Kd.tup e).kit "tuple" _ (.inr ⟨by decide, by decide, rfl⟩), _, rfl, iteF ?_⟩
      refine ⟨_, rfl, a, _, rfl, .inr (SqT.of e), rfl, _, rfl, iteF ?_⟩
      refine ⟨_, rfl, a, _, rfl, SqT.of e, rfl, _, _, rfl, _, _, rfl, _, _, rfl, rfl, ?_⟩
      refine ⟨_, rfl, _, _, _, _, rfl, k1, _, rfl, ?_⟩
      show if (isI x && (decide (1 ≤ toI x) && decide (toI x ≤ 1000000000000))) = true then _ else _
      cases b1 : (isI x && (decide (1 ≤ toI x) && decide (toI x ≤ 1000000000000))) with
      | false => exact iteF k
      | true =>
        rw [b1, Bool.true_and] at bad
        refine iteT ⟨_, rfl, _, _, _, _, rfl, k2, _, rfl, ?_⟩
        show if (isI y && (decide (1 ≤ toI y) && decide (toI y ≤ 1000000000000000000000000000000))) = true then _ else _
        cases b2 : (isI y && (decide (1 ≤ toI y) && decide (toI y ≤ 1000000000000000000000000000000))) with
        | false => exact iteF k
        | true =>
          rw [b2, Bool.true_and] at bad
          refine iteT ⟨_, rfl, _, _, _, _, rfl, k3, ?_⟩
          show Q (.bl (isI z && (decide (1 ≤ toI z) && decide (toI z ≤ 1000000000000)))) H
          rw [bad]
          exact k
theorem ok_isbreaker (T : LX K mg L) : Cal P w K mg base "is_breaker" 3 L.f_is_breaker ["value"] (spIsBrN) := T.d_is_breaker.cal fun fd F => fn_isbreaker T F
end
end N
/-! ### the errors of logs -/
inductive LogBad (H : Hp) : V → Int → Prop
  | kind {v : V} {nm : String} (k : Kd H v nm) (n : nm ≠ "list") : LogBad H v (-1)
  | many {a : Addr} {xs : List V} (e : H a = some (.lst xs)) (m : 1000 < xs.length) : LogBad H (.ref a) (-1)
  | item {a : Addr} {pre post : List V} {x : V} {ps : Lg} (e : H a = some (.lst (pre ++ x :: post))) (hp : Lgs H pre ps) (ok : OkLog ps) (ln : (pre ++ x :: post).length ≤ 1000)
      (bad : NoEnt H x ∨ ∃ p, LgAt H x p ∧ 0 ≤ p.1 ∧ p.1 ≤ lstG 0 (ps.map (·.1)) - 1) : LogBad H (.ref a) pre.length
theorem LogBad.same {H H' : Hp} {v : V} {i : Int} (h : LogBad H v i) (s : Same H H') : LogBad H' v i := by
  cases h with
  | kind k n => exact .kind (Kd.sameK k s) n
  | many e m => exact .many (s _ _ e) m
  | item e hp ok ln bad =>
    refine .item (s _ _ e) (hp.same s) ok ln ?_
    rcases bad with h | ⟨p, ⟨a, e1, e2⟩, r⟩
    · exact .inl (h.same s)
    · exact .inr ⟨p, ⟨a, e1, s _ _ e2⟩, r⟩
def spCkLX (L : LA) : Sp := fun vs H _ E => ∃ v i, vs = [v] ∧ LogBad H v i ∧ ∀ d H', H' d = some (.xd [("at", .int i)]) → Same H H' → E (.ref L.e_InvalidLog) (some d) H'
inductive TmsBad (H : Hp) : V → Int → Prop
  | kind {v : V} {nm : String} (k : Kd H v nm) (n : nm ≠ "list") : TmsBad H v (-1)
  | many {a : Addr} {xs : List V} (e : H a = some (.lst xs)) (m : 1000 < xs.length) : TmsBad H (.ref a) (-1)
  | item {a : Addr} {ns : List Int} {post : List V} {x : V} {nm : String} (e : H a = some (.lst (ns.map V.int ++ x :: post))) (asc : Asc 0 ns) (ln : (ns.map V.int ++ x :: post).length ≤ 1000)
      (k : Kd H x nm) (bad : (isI x && decide (lstG 0 ns ≤ toI x)) = false) : TmsBad H (.ref a) ns.length
theorem TmsBad.same {H H' : Hp} {v : V} {i : Int} (h : TmsBad H v i) (s : Same H H') : TmsBad H' v i := by
  cases h with
  | kind k n => exact .kind (Kd.sameK k s) n
  | many e m => exact .many (s _ _ e) m
  | item e asc ln k bad => exact .item (s _ _ e) asc ln (Kd.sameK k s) bad
def spCkTX (L : LA) : Sp := fun vs H _ E => ∃ v i, vs = [v] ∧ TmsBad H v i ∧ ∀ d H', H' d = some (.xd [("at", .int i)]) → Same H H' → E (.ref L.e_InvalidLog) (some d) H'
namespace X1
section
variable {P : Program} {w : World} {K : PySem.W.Frag} {mg : Str → Option Value} {base : Heap} {L : LA}
theorem ok_isentry (T : LX K mg L) : Cal P w K mg base "is_entry" 3 L.f_is_entry ["value"] (fun vs H Q E => spIsEnt vs H Q E ∨ spIsEntN vs H Q E) := T.d_is_entry.cal fun fd F => FnOk.or0 (fn_isentry T F) (N.fn_isentry T F)
abbrev N_checklog : List Str := ["log", "latest", "at", "entry"]
theorem sc_checklog : FnScope N_checklog ["log"] (defScope st_check_log) := ⟨rfl, rfl, rfl, by decide +kernel, rfl, by decide +kernel, by decide +kernel⟩
theorem fn_checklog (T : LX K mg L) {fd : FuncData} (F : Fun K "check_log" "check_log" st_check_log L.f_check_log fd) : FnOk P w K mg base (L2.CX P w) 4 L.f_check_log fd ["log"] (spCkLX L) := by
  obtain ⟨tk_MOST_ENTRIES, c_MOST_ENTRIES⟩ := T.n_MOST_ENTRIES
  have G_isentry := ok_isentry (P := P) (w := w) (base := base) T
  have nd := sc_checklog.nd
  refine F.okX sc_checklog (fun vs H Q E h => ?_) (fun cdv A outer S H vs Q E hr h => ?_)
  · obtain ⟨v, i, rfl, _⟩ := h
    rfl
  · obtain ⟨v, i, rfl, bad, k⟩ := h
    refine ⟨_, (pss_cons (ps_if (PW.pt (pw_or (pt_not (pt_val (pe_callB call_isi (by rfl) T.b_isinstance (by decide +kernel) (pa_cons (pv 0) (pa_cons (pe_bltn (by rfl) T.b_list (by decide +kernel : bootBuiltins "list" = some (.type "list")) (v := .ty "list") rfl) pa_nil))))) (pw_or1 (pt_cmpR op_gt (pe_callB call_len_seq (by rfl) T.b_len PySem.boot_len (pa_cons (pv 0) pa_nil)) (pe_gI c_MOST_ENTRIES) (nomark _))))) (pss_one (ps_raise rfl (takes_of rfl rfl rfl rfl) (mk_InvalidLog T (hr.mono (by decide)) rfl (pa_cons (pe_un un_neg pe_int) pa_nil)))) pss_nil)
       (pss_cons (ps_set (i := 1) nd rfl (Or.inl rfl) (pe_un un_neg pe_int))
       (pss_one (ps_for (passes_of rfl) rfl (pi_enum (by rfl) T.b_enumerate (pa_cons (pv 0) pa_nil)) (pg_tup rfl (pgs_cons (pg_name (i := 2) nd rfl (Or.inl rfl)) (pgs_cons (pg_name (i := 3) nd rfl (Or.inl rfl)) pgs_nil))) (pss_cons (ps_if (PW.pt (pw_or (pt_not (pt_val (pe_c G_isentry (hr.mono (by decide)) rfl (pa_cons (pv 3) pa_nil)))) (pw_or1 (pt_cmpR op_le (pe_ix (r := rIxT K) ix_tup (pv 3) pe_int (fun _ _ => rfl)) (pv 1) (nomark _))))) (pss_one (ps_raise rfl (takes_of rfl rfl rfl rfl) (mk_InvalidLog T (hr.mono (by decide)) rfl (pa_cons (pv 2) pa_nil)))) pss_nil)
       (pss_one (ps_set (i := 1) nd rfl (Or.inl rfl) (pe_ix (r := rIxT K) ix_tup (pv 3) pe_int (fun _ _ => rfl))))))))), ?_⟩
    cases bad with
    | @kind _ nm kd n =>
      refine ⟨_, rfl, _, .ty "list", _, _, _, rfl, .ty "list", kd.ty, kd.kit "list" _ (.inr ⟨by decide, by decide, rfl⟩), _, rfl, ?_⟩
      rw [show (nm == "list") = false from beq_false_of_ne n]
      exact iteT (iteT ⟨1, rfl, (by show 1 ≤ 1000; decide), fun e he => raise1 k e he⟩)
    | @many a xs e m =>
      refine ⟨_, rfl, _, .ty "list", _, _, _, rfl, .ty "list", (Kd.lst e).ty, (Kd.lst e).kit "list" _ (.inr ⟨by decide, by decide, rfl⟩), _, rfl, iteF ?_⟩
      refine ⟨_, rfl, a, _, rfl, .inl (SqL.of e), _, _, rfl, rfl, _, rfl, ?_⟩
      rw [decide_eq_true (show (1000 : Int) < (xs.length : Nat) by omega)]
      exact iteT ⟨1, rfl, (by show 1 ≤ 1000; decide), fun e he => raise1 k e he⟩
    | @item a pre post x ps ha hx ok ln bad =>
      have hxl := paired_len hx
      obtain ⟨xs, hxs⟩ : ∃ xs, xs = pre ++ x :: post := ⟨_, rfl⟩
      rw [← hxs] at ha ln
      have hpl : pre.length < xs.length := by rw [hxs, List.length_append, List.length_cons]; omega
      refine ⟨_, rfl, _, .ty "list", _, _, _, rfl, .ty "list", (Kd.lst ha).ty, (Kd.lst ha).kit "list" _ (.inr ⟨by decide, by decide, rfl⟩), _, rfl, iteF ?_⟩
      refine ⟨_, rfl, a, _, rfl, .inl (SqL.of ha), _, _, rfl, rfl, _, rfl, ?_⟩
      rw [decide_eq_false (show ¬ ((1000 : Int) < (xs.length : Nat)) by omega)]
      refine iteF ⟨1, rfl, ?_⟩
      refine ⟨_, rfl, a, xs, rfl, SqL.of ha, for_enum (K := K) (a := a) (xs := xs) (fun i σ H2 => ∃ u v : Option V, σ = [some (.ref a), some (.int (lstG 0 ((ps.map (·.1)).take i) - 1)), u, v] ∧ Same H H2 ∧ i ≤ pre.length)
        ⟨none, none, rfl, Same.refl H, Nat.zero_le _⟩ (fun i σ H2 _ ⟨_, _, _, s2, _⟩ => SqL.of (s2 _ _ ha)) ?_ ?_⟩
      · rintro i y T' σ H2 hyi ⟨u, v, rfl, s2, il⟩ hT
        have s3 : Same H (upd H2 T' (.tup [.int (i : Nat), y])) := s2.trans (Same.upd hT)
        refine ⟨T', _, rfl, SqT.of upd_same, rfl, _, _, rfl, _, _, rfl, rfl, ?_⟩
        by_cases ie : i = pre.length
        · have hyx : y = x := by
            rw [hxs, ie, List.getElem?_append_right (Nat.le_refl _), Nat.sub_self] at hyi
            exact (Option.some.inj hyi).symm
          subst hyx
          subst ie
          have RS : ∀ e, (upd H2 T' (.tup [.int (pre.length : Nat), y])) e = none → spEI1 L.e_InvalidLog "at" [.ref e, .int (pre.length : Nat)] (upd (upd H2 T' (.tup [.int (pre.length : Nat), y])) e (L2.exo e L.e_InvalidLog none)) (fun x H3 => x = .non ∧ ∃ (d : Addr) (fs : List (Str × V)), H3 e = some (L2.exo e L.e_InvalidLog (some d)) ∧ H3 d = some (L2.exd d fs) ∧ (upd H2 T' (.tup [.int (pre.length : Nat), y])) d = none ∧ E (.ref L.e_InvalidLog) (some d) (upd (L2.del H3 e) d (.xd fs))) E := fun e he => raise1 (fun d H' hd s' => k d H' hd (s3.trans s')) e he
          have etk : (ps.map (·.1)).take pre.length = ps.map (·.1) := List.take_of_length_le (by rw [List.length_map]; omega)
          rw [etk]
          rcases bad with nt | ⟨p, lg, p0, le⟩
          · exact ⟨_, rfl, .inr ⟨y, rfl, nt.same s3, _, rfl, iteT ⟨_, rfl, (by show 1 ≤ 1000; decide), RS⟩⟩⟩
          · obtain ⟨c, rfl, hc⟩ := lg
            have hc3 := s3 _ _ hc
            refine ⟨_, rfl, .inl ⟨.ref c, p, rfl, ⟨c, rfl, hc3⟩, p0, _, rfl, iteF ⟨_, rfl, c, _, 0, .int p.1, rfl, rfl, SqT.of hc3, rfl, _, rfl, _, _, rfl, rfl, _, rfl, ?_⟩⟩⟩
            rw [decide_eq_true le]
            exact iteT ⟨_, rfl, (by show 1 ≤ 1000; decide), RS⟩
        · have hil : i < pre.length := by omega
          have hyi : pre[i]? = some y := by rwa [hxs, List.getElem?_append_left hil] at hyi
          obtain ⟨p, hp, hox⟩ := paired_get hx hyi
          have hpt : (ps.map (·.1))[i]? = some p.1 := by rw [List.getElem?_map, hp]; rfl
          have at' := asc_take ok.asc hpt
          have nn := asc_nn (Int.le_refl 0) ok.asc p.1 (List.mem_of_getElem? hpt)
          obtain ⟨c, rfl, hc⟩ := hox
          have hc3 := s3 _ _ hc
          refine ⟨_, rfl, .inl ⟨.ref c, p, rfl, ⟨c, rfl, hc3⟩, nn, _, rfl, iteF ⟨_, rfl, c, _, 0, .int p.1, rfl, rfl, SqT.of hc3, rfl, _, rfl, _, _, rfl, rfl, _, rfl, ?_⟩⟩⟩
          rw [decide_eq_false (show ¬ p.1 ≤ lstG 0 ((ps.map (·.1)).take i) - 1 by omega)]
          have el : lstG 0 ((ps.map (·.1)).take (i + 1)) - 1 = p.1 := by
            rw [List.take_add_one, hpt]
            show lstG 0 ((ps.map (·.1)).take i ++ [p.1]) - 1 = p.1
            rw [lst_app, Int.add_sub_cancel]
          rw [el]
          exact iteF ⟨_, rfl, c, _, 0, .int p.1, rfl, rfl, SqT.of hc3, rfl, _, _, rfl, s3, hil⟩
      · rintro σ H2 ⟨u, v, rfl, s2, il⟩
        exact absurd il (by omega)
theorem ok_checklog (T : LX K mg L) : CalX P w K mg base "check_log" 4 L.f_check_log ["log"] (spCkLX L) := T.d_check_log.calX fun fd F => fn_checklog T F
abbrev N_checktimes : List Str := ["times", "least", "at", "time"]
theorem sc_checktimes : FnScope N_checktimes ["times"] (defScope st_check_times) := ⟨rfl, rfl, rfl, by decide +kernel, rfl, by decide +kernel, by decide +kernel⟩
theorem fn_checktimes (T : LX K mg L) {fd : FuncData} (F : Fun K "check_times" "check_times" st_check_times L.f_check_times fd) : FnOk P w K mg base (L2.CX P w) 3 L.f_check_times fd ["times"] (spCkTX L) := by
  obtain ⟨tk_MOST_ENTRIES, c_MOST_ENTRIES⟩ := T.n_MOST_ENTRIES
  have G_isatleast := ok_isatleast (P := P) (w := w) (base := base) T
  have nd := sc_checktimes.nd
  refine F.okX sc_checktimes (fun vs H Q E h => ?_) (fun cdv A outer S H vs Q E hr h => ?_)
  · obtain ⟨v, i, rfl, _⟩ := h
    rfl
  · obtain ⟨v, i, rfl, bad, k⟩ := h
    refine ⟨_, (pss_cons (ps_if (PW.pt (pw_or (pt_not (pt_val (pe_callB call_isi (by rfl) T.b_isinstance (by decide +kernel) (pa_cons (pv 0) (pa_cons (pe_bltn (by rfl) T.b_list (by decide +kernel : bootBuiltins "list" = some (.type "list")) (v := .ty "list") rfl) pa_nil))))) (pw_or1 (pt_cmpR op_gt (pe_callB call_len_seq (by rfl) T.b_len PySem.boot_len (pa_cons (pv 0) pa_nil)) (pe_gI c_MOST_ENTRIES) (nomark _))))) (pss_one (ps_raise rfl (takes_of rfl rfl rfl rfl) (mk_InvalidLog T (hr.mono (by decide)) rfl (pa_cons (pe_un un_neg pe_int) pa_nil)))) pss_nil)
       (pss_cons (ps_set (i := 1) nd rfl (Or.inl rfl) pe_int)
       (pss_one (ps_for (passes_of rfl) rfl (pi_enum (by rfl) T.b_enumerate (pa_cons (pv 0) pa_nil)) (pg_tup rfl (pgs_cons (pg_name (i := 2) nd rfl (Or.inl rfl)) (pgs_cons (pg_name (i := 3) nd rfl (Or.inl rfl)) pgs_nil))) (pss_cons (ps_if (pt_not (pt_val (pe_c G_isatleast (hr.mono (by decide)) rfl (pa_cons (pv 3) (pa_cons (pv 1) pa_nil))))) (pss_one (ps_raise rfl (takes_of rfl rfl rfl rfl) (mk_InvalidLog T (hr.mono (by decide)) rfl (pa_cons (pv 2) pa_nil)))) pss_nil)
       (pss_one (ps_set (i := 1) nd rfl (Or.inl rfl) (pe_op op_add (pv 3) pe_int)))))))), ?_⟩
    cases bad with
    | @kind _ nm kd n =>
      refine ⟨_, rfl, _, .ty "list", _, _, _, rfl, .ty "list", kd.ty, kd.kit "list" _ (.inr ⟨by decide, by decide, rfl⟩), _, rfl, ?_⟩
      rw [show (nm == "list") = false from beq_false_of_ne n]
      exact iteT (iteT ⟨1, rfl, (by show 1 ≤ 1000; decide), fun e he => raise1 k e he⟩)
    | @many a xs e m =>
      refine ⟨_, rfl, _, .ty "list", _, _, _, rfl, .ty "list", (Kd.lst e).ty, (Kd.lst e).kit "list" _ (.inr ⟨by decide, by decide, rfl⟩), _, rfl, iteF ?_⟩
      refine ⟨_, rfl, a, _, rfl, .inl (SqL.of e), _, _, rfl, rfl, _, rfl, ?_⟩
      rw [decide_eq_true (show (1000 : Int) < (xs.length : Nat) by omega)]
      exact iteT ⟨1, rfl, (by show 1 ≤ 1000; decide), fun e he => raise1 k e he⟩
    | @item a ns post x nm ha asc ln kd bad =>
      obtain ⟨xs, hxs⟩ : ∃ xs, xs = ns.map V.int ++ x :: post := ⟨_, rfl⟩
      rw [← hxs] at ha ln
      have hpl : ns.length < xs.length := by rw [hxs, List.length_append, List.length_cons, List.length_map]; omega
      refine ⟨_, rfl, _, .ty "list", _, _, _, rfl, .ty "list", (Kd.lst ha).ty, (Kd.lst ha).kit "list" _ (.inr ⟨by decide, by decide, rfl⟩), _, rfl, iteF ?_⟩
      refine ⟨_, rfl, a, _, rfl, .inl (SqL.of ha), _, _, rfl, rfl, _, rfl, ?_⟩
      rw [decide_eq_false (show ¬ ((1000 : Int) < (xs.length : Nat)) by omega)]
      refine iteF ?_
      refine ⟨_, rfl, a, xs, rfl, SqL.of ha, for_enum (K := K) (a := a) (xs := xs) (fun i σ H2 => ∃ u v : Option V, σ = [some (.ref a), some (.int (lstG 0 (ns.take i))), u, v] ∧ Same H H2 ∧ i ≤ ns.length) ⟨none, none, rfl, Same.refl H, Nat.zero_le _⟩ (fun i σ H2 _ ⟨_, _, _, s2, _⟩ => SqL.of (s2 _ _ ha)) ?_ ?_⟩
      · rintro i y T' σ H2 hyi ⟨u, v, rfl, s2, il⟩ hT
        have s3 : Same H (upd H2 T' (.tup [.int (i : Nat), y])) := s2.trans (Same.upd hT)
        refine ⟨T', _, rfl, SqT.of upd_same, rfl, _, _, rfl, _, _, rfl, rfl, ?_⟩
        by_cases ie : i = ns.length
        · have hyx : y = x := by
            rw [hxs, ie, List.getElem?_append_right (by rw [List.length_map]; exact Nat.le_refl _), List.length_map, Nat.sub_self] at hyi
            exact (Option.some.inj hyi).symm
          subst hyx
          subst ie
          rw [List.take_length]
          refine ⟨_, rfl, _, rfl, _, _, _, rfl, Kd.sameK kd s3, _, rfl, ?_⟩
          rw [bad]
          exact iteT ⟨_, rfl, (by show 1 ≤ 1000; decide), fun e he => raise1 (fun d H' hd s' => k d H' hd (s3.trans s')) e he⟩
        · have hil : i < ns.length := by omega
          rw [hxs, List.getElem?_append_left (by rw [List.length_map]; exact hil), List.getElem?_map] at hyi
          obtain ⟨t, ht, rfl⟩ := Option.map_eq_some_iff.mp hyi
          refine ⟨_, rfl, _, rfl, _, _, _, rfl, .int _, _, rfl, ?_⟩
          show if (!(decide (lstG 0 (ns.take i) ≤ t))) = true then _ else _
          rw [decide_eq_true (asc_take asc ht)]
          refine iteF ?_
          have e : ns.take (i + 1) = ns.take i ++ [t] := by rw [List.take_add_one, ht]; rfl
          rw [e, lst_app]
          exact ⟨_, rfl, _, _, rfl, rfl, _, _, rfl, s3, hil⟩
      · rintro σ H2 ⟨u, v, rfl, s2, il⟩
        exact absurd il (by omega)
theorem ok_checktimes (T : LX K mg L) : CalX P w K mg base "check_times" 3 L.f_check_times ["times"] (spCkTX L) := T.d_check_times.calX fun fd F => fn_checktimes T F
end
end X1
namespace EX
section
variable {P : Program} {w : World} {K : PySem.W.Frag} {mg : Str → Option Value} {base : Heap} {L : LA}
theorem ok_checklog (T : LX K mg L) : CalX P w K mg base "check_log" 4 L.f_check_log ["log"] (fun vs H Q E => spChkL vs H Q E ∨ spCkLX L vs H Q E) := T.d_check_log.calX fun fd F => FnOk.or0 (fn_checklog T F) (X1.fn_checklog T F)
theorem ok_checktimes (T : LX K mg L) : CalX P w K mg base "check_times" 3 L.f_check_times ["times"] (fun vs H Q E => spChkT vs H Q E ∨ spCkTX L vs H Q E) := T.d_check_times.calX fun fd F => FnOk.or0 (fn_checktimes T F) (X1.fn_checktimes T F)
theorem ok_isbreaker (T : LX K mg L) : Cal P w K mg base "is_breaker" 3 L.f_is_breaker ["value"] (fun vs H Q E => spIsBr vs H Q E ∨ spIsBrN vs H Q E) := T.d_is_breaker.cal fun fd F => FnOk.or0 (fn_isbreaker T F) (N.fn_isbreaker T F)
def spLogX (L : LA) : Sp := fun vs H _ E => ∃ x y, vs = [x, y] ∧ ((NoBr H x ∧ ∀ d H', H' d = some (.xd [("at", .int (-1)), ("part", .str "breaker")]) → Same H H' → E (.ref L.e_InvalidRow) (some d) H') ∨
  ∃ b i, BrAt H x b ∧ OkT b ∧ TmsBad H y i ∧ ∀ d H', H' d = some (.xd [("at", .int i)]) → Same H H' → E (.ref L.e_InvalidLog) (some d) H')
def spForX (L : LA) : Sp := fun vs H _ E => ∃ x y, vs = [x, y] ∧ ((∃ i, LogBad H x i ∧ ∀ d H', H' d = some (.xd [("at", .int i)]) → Same H H' → E (.ref L.e_InvalidLog) (some d) H') ∨
  ∃ a xs ps nm, x = .ref a ∧ H a = some (.lst xs) ∧ Lgs H xs ps ∧ OkLog ps ∧ Kd H y nm ∧ (isI y && decide (lstG 0 (ps.map (·.1)) ≤ toI y)) = false ∧ ∀ d H', H' d = some (.xd [("time", y)]) → Same H H' → E (.ref L.e_InvalidTime) (some d) H')
abbrev N_explanations : List Str := ["log", "ahead", "gaps", "bounds", "found", "failures"]
theorem sc_explanations : FnScope N_explanations ["log"] (defScope st_explanations) := ⟨rfl, rfl, rfl, by decide +kernel, rfl, by decide +kernel, by decide +kernel⟩
theorem fn_explanations (T : LX K mg L) {fd : FuncData} (F : Fun K "explanations" "explanations" st_explanations L.f_explanations fd) : FnOk P w K mg base (L2.CX P w) 5 L.f_explanations fd ["log"] (spCkLX L) := by
  have G_checklog := ok_checklog (P := P) (w := w) (base := base) T
  have G_passesahead := ok_passesahead (P := P) (w := w) (base := base) T
  have G_gapsof := ok_gapsof (P := P) (w := w) (base := base) T
  obtain ⟨tk_MOST_TIME, c_MOST_TIME⟩ := T.n_MOST_TIME
  have G_narrowed := ok_narrowed (P := P) (w := w) (base := base) T
  have nd := sc_explanations.nd
  refine F.okX sc_explanations (fun vs H Q E h => ?_) (fun cdv A outer S H vs Q E hr h => ?_)
  · obtain ⟨v, i, rfl, _⟩ := h
    rfl
  · obtain ⟨v, i, rfl, bad, k⟩ := h
    refine ⟨_, (pss_cons (ps_expr (pe_cX G_checklog (hr.mono (by decide)) rfl (fun σ => passAt (takes_of rfl rfl rfl rfl) σ) (pa_cons (pv 0) pa_nil)))
       (pss_cons (ps_set (i := 1) nd rfl (Or.inl rfl) (pe_c G_passesahead (hr.mono (by decide)) rfl (pa_cons (pv 0) pa_nil)))
       (pss_cons (ps_if (pt_cmpR op_eq (pv 1) pe_int (nomark _)) (pss_one (ps_ret (pe_ifExp (pt_truth (pv 0) (fun _ => rfl)) (pe_lst pa_nil) (pe_lst (pa_cons (pe_tup (pa_cons pe_int (pa_cons pe_int (pa_cons (pe_gI c_MOST_TIME) pa_nil)))) pa_nil))))) pss_nil)
       (pss_cons (ps_set (i := 2) nd rfl (Or.inl rfl) (pe_c G_gapsof (hr.mono (by decide)) rfl (pa_cons (pv 0) pa_nil)))
       (pss_cons (ps_set (i := 3) nd rfl (Or.inl rfl) (pe_tup (pa_cons pe_int (pa_cons (pe_gI c_MOST_TIME) pa_nil))))
       (pss_cons (ps_set (i := 4) nd rfl (Or.inl rfl) (pe_lst pa_nil))
       (pss_cons (ps_for (passes_of rfl) rfl (pi_range3 rfl T.b_range (pa_cons (pe_callB call_len_seq (by rfl) T.b_len PySem.boot_len (pa_cons (pv 0) pa_nil)) (pa_cons pe_int (pa_cons (pe_un un_neg pe_int) pa_nil)))) (pg_name (i := 5) nd rfl (Or.inl rfl)) (C8.pss_cut (ps_if (pt_cmpR op_lt (pv 5) (pe_callB call_len_seq (by rfl) T.b_len PySem.boot_len (pa_cons (pv 0) pa_nil)) (nomark _)) (pss_one (ps_set (i := 3) nd rfl (Or.inl rfl) (pe_c G_narrowed (hr.mono (by decide)) rfl (pa_cons (pv 3) (pa_cons (pe_ix (r := rIxL K) ix_list (pv 2) (pv 5) (fun _ _ => rfl)) (pa_cons (pe_ix (r := rIxT K) ix_tup (pe_ix (r := rIxL K) ix_list (pv 0) (pv 5) (fun _ _ => rfl)) pe_int (fun _ _ => rfl)) pa_nil)))))) pss_nil)
       (pss_one (ps_if (PW.pt (pw_and (pt_cmpR op_le (pv 5) (pv 1) (nomark _)) (pw_and1 (pt_cmpR op_le (pe_ix (r := rIxT K) ix_tup (pv 3) pe_int (fun _ _ => rfl)) (pe_ix (r := rIxT K) ix_tup (pv 3) pe_int (fun _ _ => rfl)) (nomark _))))) (pss_one (ps_expr (pe_bm PySem.F.plainAttrs_list PySem.F.slot_list_append PySem.F.type_list_append mt_append (pv 4) (pa_cons (pe_tup (pa_cons (pv 5) (pa_cons (pe_ix (r := rIxT K) ix_tup (pv 3) pe_int (fun _ _ => rfl)) (pa_cons (pe_ix (r := rIxT K) ix_tup (pv 3) pe_int (fun _ _ => rfl)) pa_nil)))) pa_nil)))) pss_nil))))
       (pss_one (ps_ret (pe_revL (pv 4))))))))))), ?_⟩
    exact ⟨_, rfl, .inr ⟨v, i, rfl, bad, k⟩⟩
theorem ok_explanations (T : LX K mg L) : CalX P w K mg base "explanations" 5 L.f_explanations ["log"] (spCkLX L) := T.d_explanations.calX fun fd F => fn_explanations T F
abbrev N_firstconflict : List Str := ["log", "ahead", "gaps", "bounds", "at"]
theorem sc_firstconflict : FnScope N_firstconflict ["log"] (defScope st_first_conflict) := ⟨rfl, rfl, rfl, by decide +kernel, rfl, by decide +kernel, by decide +kernel⟩
theorem fn_firstconflict (T : LX K mg L) {fd : FuncData} (F : Fun K "first_conflict" "first_conflict" st_first_conflict L.f_first_conflict fd) : FnOk P w K mg base (L2.CX P w) 6 L.f_first_conflict fd ["log"] (spCkLX L) := by
  have G_checklog := ok_checklog (P := P) (w := w) (base := base) T
  have G_passesahead := ok_passesahead (P := P) (w := w) (base := base) T
  have G_gapsof := ok_gapsof (P := P) (w := w) (base := base) T
  obtain ⟨tk_MOST_TIME, c_MOST_TIME⟩ := T.n_MOST_TIME
  have G_narrowed := ok_narrowed (P := P) (w := w) (base := base) T
  have nd := sc_firstconflict.nd
  refine F.okX sc_firstconflict (fun vs H Q E h => ?_) (fun cdv A outer S H vs Q E hr h => ?_)
  · obtain ⟨v, i, rfl, _⟩ := h
    rfl
  · obtain ⟨v, i, rfl, bad, k⟩ := h
    refine ⟨_, (pss_cons (ps_expr (pe_cX G_checklog (hr.mono (by decide)) rfl (fun σ => passAt (takes_of rfl rfl rfl rfl) σ) (pa_cons (pv 0) pa_nil)))
       (pss_cons (ps_set (i := 1) nd rfl (Or.inl rfl) (pe_c G_passesahead (hr.mono (by decide)) rfl (pa_cons (pv 0) pa_nil)))
       (pss_cons (ps_if (pt_cmpR op_eq (pv 1) pe_int (nomark _)) (pss_one (ps_ret (pe_ifExp (pt_truth (pv 0) (fun _ => rfl)) pe_int pe_non))) pss_nil)
       (pss_cons (ps_set (i := 2) nd rfl (Or.inl rfl) (pe_c G_gapsof (hr.mono (by decide)) rfl (pa_cons (pv 0) pa_nil)))
       (pss_cons (ps_set (i := 3) nd rfl (Or.inl rfl) (pe_tup (pa_cons pe_int (pa_cons (pe_gI c_MOST_TIME) pa_nil))))
       (pss_cons (ps_for (passes_of rfl) rfl (pi_range2 rfl T.b_range (pa_cons (pv 1) (pa_cons (pe_callB call_len_seq (by rfl) T.b_len PySem.boot_len (pa_cons (pv 0) pa_nil)) pa_nil))) (pg_name (i := 4) nd rfl (Or.inl rfl)) (pss_cons (ps_set (i := 3) nd rfl (Or.inl rfl) (pe_c G_narrowed (hr.mono (by decide)) rfl (pa_cons (pv 3) (pa_cons (pe_ix (r := rIxL K) ix_list (pv 2) (pv 4) (fun _ _ => rfl)) (pa_cons (pe_ix (r := rIxT K) ix_tup (pe_ix (r := rIxL K) ix_list (pv 0) (pv 4) (fun _ _ => rfl)) pe_int (fun _ _ => rfl)) pa_nil)))))
       (pss_one (ps_if (pt_cmpR op_gt (pe_ix (r := rIxT K) ix_tup (pv 3) pe_int (fun _ _ => rfl)) (pe_ix (r := rIxT K) ix_tup (pv 3) pe_int (fun _ _ => rfl)) (nomark _)) (pss_one (ps_ret (pv 4))) pss_nil))))
       (pss_one (ps_ret pe_non)))))))), ?_⟩
    exact ⟨_, rfl, .inr ⟨v, i, rfl, bad, k⟩⟩
theorem ok_firstconflict (T : LX K mg L) : CalX P w K mg base "first_conflict" 6 L.f_first_conflict ["log"] (spCkLX L) := T.d_first_conflict.calX fun fd F => fn_firstconflict T F
abbrev N_logof : List Str := ["breaker", "times", "log", "state", "time", "passed"]
theorem sc_logof : FnScope N_logof ["breaker", "times"] (defScope st_log_of) := ⟨rfl, rfl, rfl, by decide +kernel, rfl, by decide +kernel, by decide +kernel⟩
theorem fn_logof (T : LX K mg L) {fd : FuncData} (F : Fun K "log_of" "log_of" st_log_of L.f_log_of fd) : FnOk P w K mg base (L2.CX P w) 4 L.f_log_of fd ["breaker", "times"] (spLogX L) := by
  have G_checktimes := ok_checktimes (P := P) (w := w) (base := base) T
  have G_isbreaker := ok_isbreaker (P := P) (w := w) (base := base) T
  have G_passes := ok_passes (P := P) (w := w) (base := base) T
  have G_statebehind := ok_statebehind (P := P) (w := w) (base := base) T
  have nd := sc_logof.nd
  refine F.okX sc_logof (fun vs H Q E h => ?_) (fun cdv A outer S H vs Q E hr h => ?_)
  · obtain ⟨x, y, rfl, _⟩ := h
    rfl
  · obtain ⟨x, y, rfl, alt⟩ := h
    refine ⟨_, (pss_cons (ps_if (pt_not (pt_val (pe_c G_isbreaker (hr.mono (by decide)) rfl (pa_cons (pv 0) pa_nil)))) (pss_one (ps_raise rfl (takes_of rfl rfl rfl rfl) (mk_InvalidRow T (hr.mono (by decide)) rfl (pa_cons pe_str (pa_cons (pe_un un_neg pe_int) pa_nil))))) pss_nil)
       (pss_cons (ps_expr (pe_cX G_checktimes (hr.mono (by decide)) rfl (fun σ => passAt (takes_of rfl rfl rfl rfl) σ) (pa_cons (pv 1) pa_nil)))
       (pss_cons (ps_set (i := 2) nd rfl (Or.inl rfl) (pe_lst pa_nil))
       (pss_cons (ps_set (i := 3) nd rfl (Or.inl rfl) (pe_tup (pa_cons pe_str (pa_cons pe_int pa_nil))))
       (pss_cons (ps_for (passes_of rfl) rfl (pi_list (pv 1)) (pg_name (i := 4) nd rfl (Or.inl rfl)) (pss_cons (ps_set (i := 5) nd rfl (Or.inl rfl) (pe_c G_passes (hr.mono (by decide)) rfl (pa_cons (pv 0) (pa_cons (pv 3) (pa_cons (pv 4) pa_nil)))))
       (C8.pss_cut (ps_if (pt_val (pv 5)) (pss_one (ps_set (i := 3) nd rfl (Or.inl rfl) (pe_c G_statebehind (hr.mono (by decide)) rfl (pa_cons (pv 0) (pa_cons (pv 3) (pa_cons (pv 4) (pa_cons pe_bl pa_nil))))))) pss_nil)
       (pss_one (ps_expr (pe_bm PySem.F.plainAttrs_list PySem.F.slot_list_append PySem.F.type_list_append mt_append (pv 2) (pa_cons (pe_tup (pa_cons (pv 4) (pa_cons (pv 5) pa_nil))) pa_nil)))))))
       (pss_one (ps_ret (pv 2)))))))), ?_⟩
    rcases alt with ⟨nb, k⟩ | ⟨b, i, br, okb, bad, k⟩
    · refine ⟨_, rfl, .inr ⟨x, rfl, nb, _, rfl, iteT ?_⟩⟩
      exact ⟨1, rfl, (by show 2 ≤ 1000; decide), fun e he => raise2 k e he⟩
    · refine ⟨_, rfl, .inl ⟨x, b, rfl, br, okb, _, rfl, iteF ?_⟩⟩
      exact ⟨_, rfl, .inr ⟨y, i, rfl, bad, k⟩⟩
theorem ok_logof (T : LX K mg L) : CalX P w K mg base "log_of" 4 L.f_log_of ["breaker", "times"] (spLogX L) := T.d_log_of.calX fun fd F => fn_logof T F
abbrev N_forecast : List Str := ["log", "time", "conflict", "gap", "found", "failures", "low", "high"]
theorem sc_forecast : FnScope N_forecast ["log", "time"] (defScope st_forecast) := ⟨rfl, rfl, rfl, by decide +kernel, rfl, by decide +kernel, by decide +kernel⟩
theorem fn_forecast (T : LX K mg L) {fd : FuncData} (F : Fun K "forecast" "forecast" st_forecast L.f_forecast fd) : FnOk P w K mg base (L2.CX P w) 7 L.f_forecast fd ["log", "time"] (spForX L) := by
  have G_checklog := ok_checklog (P := P) (w := w) (base := base) T
  have G_firstconflict := ok_firstconflict (P := P) (w := w) (base := base) T
  have G_explanations := ok_explanations (P := P) (w := w) (base := base) T
  have G_isatleast := ok_isatleast (P := P) (w := w) (base := base) T
  have G_gapsof := ok_gapsof (P := P) (w := w) (base := base) T
  have nd := sc_forecast.nd
  refine F.okX sc_forecast (fun vs H Q E h => ?_) (fun cdv A outer S H vs Q E hr h => ?_)
  · obtain ⟨x, y, rfl, _⟩ := h
    rfl
  · obtain ⟨x, y, rfl, alt⟩ := h
    refine ⟨_, (pss_cons (ps_expr (pe_cX G_checklog (hr.mono (by decide)) rfl (fun σ => passAt (takes_of rfl rfl rfl rfl) σ) (pa_cons (pv 0) pa_nil)))
       (pss_cons (ps_if (pt_not (pt_val (pe_c G_isatleast (hr.mono (by decide)) rfl (pa_cons (pv 1) (pa_cons (pe_ifExp (pt_truth (pv 0) (fun _ => rfl)) (pe_op op_add (pe_ix (r := rIxT K) ix_tup (pe_ix (r := rIxL K) ix_list (pv 0) (pe_un un_neg pe_int) (fun _ _ => rfl)) pe_int (fun _ _ => rfl)) pe_int) pe_int) pa_nil))))) (pss_one (ps_raise rfl (takes_of rfl rfl rfl rfl) (mk_InvalidTime T (hr.mono (by decide)) rfl (pa_cons (pv 1) pa_nil)))) pss_nil)
       (pss_cons (ps_set (i := 2) nd rfl (Or.inl rfl) (pe_cX G_firstconflict (hr.mono (by decide)) rfl (fun σ => passAt (takes_of rfl rfl rfl rfl) σ) (pa_cons (pv 0) pa_nil)))
       (pss_cons (ps_if (pt_cmp (pc_notN (pv 2))) (pss_one (ps_raise rfl (takes_of rfl rfl rfl rfl) (mk_InvalidLog T (hr.mono (by decide)) rfl (pa_cons (pv 2) pa_nil)))) pss_nil)
       (pss_cons (ps_if (pt_cmpR (op_eqD hr.units) (pv 0) (pe_lst pa_nil) (nomark _)) (pss_one (ps_ret pe_str)) pss_nil)
       (pss_cons (ps_set (i := 3) nd rfl (Or.inl rfl) (pe_ix (r := rIxL K) ix_list (pe_c G_gapsof (hr.mono (by decide)) rfl (pa_cons (pe_op op_cat (pv 0) (pe_lst (pa_cons (pe_tup (pa_cons (pv 1) (pa_cons pe_bl pa_nil))) pa_nil))) pa_nil)) (pe_un un_neg pe_int) (fun _ _ => rfl)))
       (pss_cons (ps_set (i := 4) nd rfl (Or.inl rfl) (pe_cX G_explanations (hr.mono (by decide)) rfl (fun σ => passAt (takes_of rfl rfl rfl rfl) σ) (pa_cons (pv 0) pa_nil)))
       (pss_cons (ps_if (pt_cmpR op_le (pe_callB (cr_max rfl) (by rfl) T.b_max (by decide +kernel) (pa_cons (pe_lc (own := [("failures", 5), ("low", 6), ("high", 7)]) (g := gTup K 3 (gCons (gName 5) (gCons (gName 6) (gCons (gName 7) (gNil))))) (tt := tYes) rfl nd (pi_list (pv 4)) (blkOk_by (own := [("failures", 5), ("low", 6), ("high", 7)]) (N := N_forecast) (sc := defScope st_forecast) (by decide +kernel)) (fun _ _ _ _ _ => pg_tup rfl (pgs_cons (pg_name (i := 5) nd rfl (Or.inl rfl)) (pgs_cons (pg_name (i := 6) nd rfl (Or.inl rfl)) (pgs_cons (pg_name (i := 7) nd rfl (Or.inl rfl)) pgs_nil)))) (fun _ _ _ _ _ => pts_nil) (fun _ _ _ _ _ => (pv 7))) pa_nil)) (pv 3) (nomark _)) (pss_one (ps_ret pe_str)) pss_nil)
       (pss_cons (ps_if (pt_cmpR op_gt (pe_callB (cr_min rfl) (by rfl) T.b_min (by decide +kernel) (pa_cons (pe_lc (own := [("failures", 5), ("low", 6), ("high", 7)]) (g := gTup K 3 (gCons (gName 5) (gCons (gName 6) (gCons (gName 7) (gNil))))) (tt := tYes) rfl nd (pi_list (pv 4)) (blkOk_by (own := [("failures", 5), ("low", 6), ("high", 7)]) (N := N_forecast) (sc := defScope st_forecast) (by decide +kernel)) (fun _ _ _ _ _ => pg_tup rfl (pgs_cons (pg_name (i := 5) nd rfl (Or.inl rfl)) (pgs_cons (pg_name (i := 6) nd rfl (Or.inl rfl)) (pgs_cons (pg_name (i := 7) nd rfl (Or.inl rfl)) pgs_nil)))) (fun _ _ _ _ _ => pts_nil) (fun _ _ _ _ _ => (pv 6))) pa_nil)) (pv 3) (nomark _)) (pss_one (ps_ret pe_str)) pss_nil)
       (pss_one (ps_ret pe_str))))))))))), ?_⟩
    rcases alt with ⟨i, bad, k⟩ | ⟨a, xs, ps, nm, rfl, ha, hx, ok, kd, bad, k⟩
    · exact ⟨_, rfl, .inr ⟨x, i, rfl, bad, k⟩⟩
    · have xl := paired_len hx
      refine ⟨_, rfl, .inl ⟨a, xs, ps, rfl, ha, hx, ok, fun H1 s1 => ?_⟩⟩
      have kd1 := Kd.sameK kd s1
      have RS : ∀ e, H1 e = none → spEI1 L.e_InvalidTime "time" [.ref e, y] (upd H1 e (L2.exo e L.e_InvalidTime none)) (fun x H3 => x = .non ∧ ∃ (d : Addr) (fs : List (Str × V)), H3 e = some (L2.exo e L.e_InvalidTime (some d)) ∧ H3 d = some (L2.exd d fs) ∧ H1 d = none ∧ E (.ref L.e_InvalidTime) (some d) (upd (L2.del H3 e) d (.xd fs))) E := fun e he => raise1 (fun d H' hd s' => k d H' hd (s1.trans s')) e he
      by_cases hn : ps = []
      · subst hn
        have x0 : xs = [] := List.length_eq_zero_iff.mp xl
        subst x0
        refine ⟨_, rfl, _, rfl, false, .inl ⟨[], SqL.of (s1 _ _ ha), rfl⟩, iteF ⟨_, _, _, rfl, kd1, _, rfl, ?_⟩⟩
        have bad : (isI y && decide ((0 : Int) ≤ toI y)) = false := bad
        rw [bad]
        exact iteT ⟨_, rfl, (by show 1 ≤ 1000; decide), RS⟩
      obtain ⟨yi, v, rfl⟩ : ∃ ys v, xs = ys ++ [v] := by
        rcases List.eq_nil_or_concat xs with h | ⟨ys, v, h⟩
        · rw [h] at xl
          exact absurd (List.length_eq_zero_iff.mp xl.symm) hn
        · exact ⟨ys, v, by rw [h, List.concat_eq_append]⟩
      obtain ⟨⟨tl, pl⟩, hq, c, rfl, hcc⟩ := paired_get hx (i := yi.length) (x := v) (by rw [List.getElem?_append_right (Nat.le_refl _), Nat.sub_self]; rfl)
      have el : lstG 0 (ps.map (·.1)) = tl + 1 := by
        have e : ps = ps.take yi.length ++ [(tl, pl)] := by
          have l1 : ps.length = yi.length + 1 := by rw [← xl, List.length_append, List.length_singleton]
          have := List.take_append_drop yi.length ps
          rw [← this, List.take_left' (by rw [List.length_take]; omega)]
          congr 1
          rw [List.drop_eq_getElem_cons (by omega), List.drop_of_length_le (by omega)]
          rw [List.getElem?_eq_getElem (by omega)] at hq
          rw [Option.some.inj hq]
        rw [e, List.map_append]
        exact lst_app _ _ _
      rw [el] at bad
      refine ⟨_, rfl, _, rfl, true, .inl ⟨_, SqL.of (s1 _ _ ha), by cases yi <;> rfl⟩, iteT ⟨_, rfl, 1, rfl, a, _, -1, .ref c, rfl, rfl, SqL.of (s1 _ _ ha), atI_last _ _, c, _, 0, .int tl, rfl, rfl, SqT.of (s1 _ _ hcc), rfl, _, _, rfl, rfl, _, _, _, rfl, kd1, _, rfl, ?_⟩⟩
      rw [bad]
      exact iteT ⟨_, rfl, (by show 1 ≤ 1000; decide), RS⟩
theorem ok_forecast (T : LX K mg L) : CalX P w K mg base "forecast" 7 L.f_forecast ["log", "time"] (spForX L) := T.d_forecast.calX fun fd F => fn_forecast T F
end
end EX
namespace U
section
variable {P : Program} {w : World} {K : PySem.W.Frag} {mg : Str → Option Value} {base : Heap} {L : LA}
theorem ok_explanations (T : LX K mg L) : CalX P w K mg base "explanations" 5 L.f_explanations ["log"] (fun vs H Q E => spExpl vs H Q E ∨ spCkLX L vs H Q E) := T.d_explanations.calX fun fd F => FnOk.or0 (fn_explanations T F) (EX.fn_explanations T F)
theorem ok_firstconflict (T : LX K mg L) : CalX P w K mg base "first_conflict" 6 L.f_first_conflict ["log"] (fun vs H Q E => spFc vs H Q E ∨ spCkLX L vs H Q E) := T.d_first_conflict.calX fun fd F => FnOk.or0 (fn_firstconflict T F) (EX.fn_firstconflict T F)
theorem ok_forecast (T : LX K mg L) : CalX P w K mg base "forecast" 7 L.f_forecast ["log", "time"] (fun vs H Q E => spFor L.e_InvalidLog vs H Q E ∨ EX.spForX L vs H Q E) := T.d_forecast.calX fun fd F => FnOk.or0 (fn_forecast T F) (EX.fn_forecast T F)
theorem ok_logof (T : LX K mg L) : CalX P w K mg base "log_of" 4 L.f_log_of ["breaker", "times"] (fun vs H Q E => spLogOf vs H Q E ∨ EX.spLogX L vs H Q E) := T.d_log_of.calX fun fd F => FnOk.or0 (fn_logof T F) (EX.fn_logof T F)
end
end U
/-! ### k50: what is no list of periods -/
inductive PerBad (H : Hp) : V → Int → Prop
  | kind {v : V} {nm : String} (k : Kd H v nm) (n : nm ≠ "list") : PerBad H v (-1)
  | size {a : Addr} {xs : List V} (e : H a = some (.lst xs)) (n : xs.length = 0 ∨ 13 < xs.length) : PerBad H (.ref a) (-1)
  | item {a : Addr} {ns : List Int} {post : List V} {x : V} {nm : String} (e : H a = some (.lst (ns.map V.int ++ x :: post))) (ln : (ns.map V.int ++ x :: post).length ≤ 13) (ok : ∀ i, i < ns.length → okAt ns i) (k : Kd H x nm) (bad : isI x = false) : PerBad H (.ref a) ns.length
theorem PerBad.same {H H' : Hp} {v : V} {i : Int} (h : PerBad H v i) (s : Same H H') : PerBad H' v i := by
  cases h with
  | kind k n => exact .kind (Kd.sameK k s) n
  | size e n => exact .size (s _ _ e) n
  | item e ln ok k bad => exact .item (s _ _ e) ln ok (Kd.sameK k s) bad
def spCkPX (L : LA) : Sp := fun vs H _ E => ∃ v i, vs = [v] ∧ PerBad H v i ∧ ∀ d H', H' d = some (.xd [("at", .int i)]) → Same H H' → E (.ref L.e_InvalidLog) (some d) H'
namespace X1
section
variable {P : Program} {w : World} {K : PySem.W.Frag} {mg : Str → Option Value} {base : Heap} {L : LA}
abbrev N_checkperiods : List Str := ["period_list", "at", "coming", "period"]
theorem sc_checkperiods : FnScope N_checkperiods ["period_list"] (defScope st_check_periods) := ⟨rfl, rfl, rfl, by decide +kernel, rfl, by decide +kernel, by decide +kernel⟩
theorem fn_checkperiods (T : LX K mg L) {fd : FuncData} (F : Fun K "check_periods" "check_periods" st_check_periods L.f_check_periods fd) : FnOk P w K mg base (L2.CX P w) 3 L.f_check_periods fd ["period_list"] (spCkPX L) := by
  have G_iswithin := ok_iswithin (P := P) (w := w) (base := base) T
  obtain ⟨tk_MOST_TIME, c_MOST_TIME⟩ := T.n_MOST_TIME
  obtain ⟨tk_MOST_BREAKERS, c_MOST_BREAKERS⟩ := T.n_MOST_BREAKERS
  have nd := sc_checkperiods.nd
  refine F.okX sc_checkperiods (fun vs H Q E h => ?_) (fun cdv A outer S H vs Q E hr h => ?_)
  · obtain ⟨v, i, rfl, _⟩ := h
    rfl
  · obtain ⟨v, i, rfl, bad, k⟩ := h
    refine ⟨_, (pss_cons (ps_if (PW.pt (pw_or (pt_not (pt_val (pe_callB call_isi (by rfl) T.b_isinstance (by decide +kernel) (pa_cons (pv 0) (pa_cons (pe_bltn (by rfl) T.b_list (by decide +kernel : bootBuiltins "list" = some (.type "list")) (v := .ty "list") rfl) pa_nil))))) (pw_or1 (pt_not (pt_chain op_le op_le pe_int (pe_callB call_len_seq (by rfl) T.b_len PySem.boot_len (pa_cons (pv 0) pa_nil)) (pe_op op_add (pe_gI c_MOST_BREAKERS) pe_int)))))) (pss_one (ps_raise rfl (takes_of rfl rfl rfl rfl) (mk_InvalidLog T (hr.mono (by decide)) rfl (pa_cons (pe_un un_neg pe_int) pa_nil)))) pss_nil)
       (pss_cons (ps_if (pt_not (pt_val (pe_c G_iswithin (hr.mono (by decide)) rfl (pa_cons (pe_ix (r := rIxL K) ix_list (pv 0) pe_int (fun _ _ => rfl)) (pa_cons pe_int (pa_cons (pe_gI c_MOST_TIME) pa_nil)))))) (pss_one (ps_raise rfl (takes_of rfl rfl rfl rfl) (mk_InvalidLog T (hr.mono (by decide)) rfl (pa_cons pe_int pa_nil)))) pss_nil)
       (pss_one (ps_for (passes_of rfl) rfl (pi_range2 rfl T.b_range (pa_cons pe_int (pa_cons (pe_callB call_len_seq (by rfl) T.b_len PySem.boot_len (pa_cons (pv 0) pa_nil)) pa_nil))) (pg_name (i := 1) nd rfl (Or.inl rfl)) (pss_cons (ps_set (i := 2) nd rfl (Or.inl rfl) (pe_ix (r := rIxL K) ix_list (pv 0) (pe_op op_sub (pv 1) pe_int) (fun _ _ => rfl)))
       (pss_cons (ps_set (i := 3) nd rfl (Or.inl rfl) (pe_ix (r := rIxL K) ix_list (pv 0) (pv 1) (fun _ _ => rfl)))
       (pss_one (ps_if (PW.pt (pw_or (pt_not (pt_val (pe_c G_iswithin (hr.mono (by decide)) rfl (pa_cons (pv 3) (pa_cons (pv 2) (pa_cons (pe_op op_sub (pe_op op_add (pv 2) (pe_gI c_MOST_TIME)) pe_int) pa_nil)))))) (pw_or1 (pt_cmpR op_ne (pe_op op_mod (pv 3) (pv 2)) pe_int (nomark _))))) (pss_one (ps_raise rfl (takes_of rfl rfl rfl rfl) (mk_InvalidLog T (hr.mono (by decide)) rfl (pa_cons (pv 1) pa_nil)))) pss_nil)))))))), ?_⟩
    cases bad with
    | @kind _ nm kd n =>
      refine ⟨_, rfl, _, .ty "list", _, _, _, rfl, .ty "list", kd.ty, kd.kit "list" _ (.inr ⟨by decide, by decide, rfl⟩), _, rfl, ?_⟩
      rw [show (nm == "list") = false from beq_false_of_ne n]
      exact iteT (iteT ⟨1, rfl, (by show 1 ≤ 1000; decide), fun e he => raise1 k e he⟩)
    | @size a xs e n =>
      refine ⟨_, rfl, _, .ty "list", _, _, _, rfl, .ty "list", (Kd.lst e).ty, (Kd.lst e).kit "list" _ (.inr ⟨by decide, by decide, rfl⟩), _, rfl, iteF ?_⟩
      refine ⟨_, rfl, a, _, rfl, .inl (SqL.of e), _, _, rfl, rfl, _, rfl, ?_⟩
      rcases n with n | n
      · rw [decide_eq_false (show ¬ ((1 : Int) ≤ (xs.length : Nat)) by omega)]
        exact iteF ⟨_, rfl, iteT ⟨1, rfl, (by show 1 ≤ 1000; decide), fun e he => raise1 k e he⟩⟩
      · rw [decide_eq_true (show (1 : Int) ≤ (xs.length : Nat) by omega)]
        refine iteT ⟨_, _, rfl, rfl, _, _, rfl, rfl, _, rfl, ite2 (fun _ => ?_) (fun c => absurd (show _ = true from ?_) c)⟩
        · exact ⟨1, rfl, (by show 1 ≤ 1000; decide), fun e he => raise1 k e he⟩
        · simp
          omega
    | @item a ns post x nm ha ln ok kd bad =>
      obtain ⟨xs, hxs⟩ : ∃ xs, xs = ns.map V.int ++ x :: post := ⟨_, rfl⟩
      rw [← hxs] at ha ln
      have hpl : ns.length < xs.length := by rw [hxs, List.length_append, List.length_cons, List.length_map]; omega
      have atx : xs[ns.length]? = some x := by rw [hxs, List.getElem?_append_right (by rw [List.length_map]; exact Nat.le_refl _), List.length_map, Nat.sub_self]; rfl
      have atn : ∀ {i : Nat} {c : Int}, ns[i]? = some c → xs[i]? = some (.int c) := fun {i c} h => by
        have hi := (List.getElem?_eq_some_iff.mp h).1
        rw [hxs, List.getElem?_append_left (by rw [List.length_map]; exact hi), List.getElem?_map, h]
        rfl
      refine ⟨_, rfl, _, .ty "list", _, _, _, rfl, .ty "list", (Kd.lst ha).ty, (Kd.lst ha).kit "list" _ (.inr ⟨by decide, by decide, rfl⟩), _, rfl, iteF ?_⟩
      refine ⟨_, rfl, a, _, rfl, .inl (SqL.of ha), _, _, rfl, rfl, _, rfl, ?_⟩
      rw [decide_eq_true (show (1 : Int) ≤ (xs.length : Nat) by omega)]
      refine iteT ⟨_, _, rfl, rfl, _, _, rfl, rfl, _, rfl, ite2 (fun c => absurd c (by simp; omega)) (fun _ => ?_)⟩
      by_cases h0 : ns = []
      · subst h0
        refine ⟨_, rfl, a, _, 0, x, rfl, rfl, SqL.of ha, atI_nat (j := 0) atx, _, _, _, _, rfl, kd, _, rfl, ?_⟩
        rw [bad, Bool.false_and]
        exact iteT ⟨(by show 1 ≤ 1000; decide), fun e he => raise1 k e he⟩
      · have l0 : 0 < ns.length := List.length_pos_iff.mpr h0
        obtain ⟨p0, hp0⟩ : ∃ p0, ns[0]? = some p0 := ⟨_, List.getElem?_eq_getElem l0⟩
        obtain ⟨p', e', h1, h2⟩ := ok 0 l0
        have : p' = p0 := by rw [hp0] at e'; exact (Option.some.inj e').symm
        subst this
        refine ⟨_, rfl, a, _, 0, .int p', rfl, rfl, SqL.of ha, atI_nat (j := 0) (atn hp0), .int p', _, _, _, rfl, Kd.int p', _, rfl, ?_⟩
        have w0 : (isI (.int p') && (decide ((1 : Int) ≤ toI (.int p')) && decide (toI (.int p') ≤ 1000000000000000000000000000000))) = true := by
          show (true && (decide ((1 : Int) ≤ p') && decide (p' ≤ 1000000000000000000000000000000))) = true
          unfold mt30 at h2
          rw [decide_eq_true h1, decide_eq_true h2]
          rfl
        refine ite2 (fun c => absurd c (by simpa using w0)) (fun _ => ?_)
        refine ⟨_, rfl, a, _, rfl, .inl (SqL.of ha), 1, _, rfl, ⟨by decide, by decide, by omega, by omega⟩, ?_⟩
        refine for_range (lo := 1) (n := (((xs.length : Nat) : Int) - 1).toNat) (fun j σ Hx => ∃ v1 v2 v3 : Option V, σ = [some (.ref a), v1, v2, v3] ∧ Hx = H ∧ j < ns.length) ⟨none, none, none, rfl, rfl, l0⟩ ?_ ?_
        · rintro j σ Hx hj ⟨v1, v2, v3, rfl, rfl, hjn⟩
          obtain ⟨c, hc⟩ : ∃ c, ns[j]? = some c := ⟨_, List.getElem?_eq_getElem hjn⟩
          have c1 := okAt_pos (fun i hi => ok i (by omega)) hc
          have e1 : (1 : Int) + ((j : Nat) : Int) = ((j + 1 : Nat) : Int) := by omega
          refine ⟨_, rfl, _, rfl, _, _, rfl, rfl, a, _, ((j : Nat) : Int), .int c, rfl, congrArg V.int (by omega), SqL.of ha, atI_nat (atn hc), ?_⟩
          by_cases q : j + 1 = ns.length
          · refine ⟨_, rfl, _, rfl, a, _, ((j + 1 : Nat) : Int), x, rfl, congrArg V.int e1, SqL.of ha, atI_nat (by rw [q]; exact atx), ?_⟩
            refine ⟨_, rfl, _, rfl, _, rfl, _, _, rfl, rfl, _, _, rfl, rfl, x, _, _, _, rfl, kd, _, rfl, ?_⟩
            rw [bad, Bool.false_and]
            refine iteT (iteT ⟨_, rfl, (by show 1 ≤ 1000; decide), fun e he => ?_⟩)
            show spEI1 _ _ [.ref e, .int (1 + ((j : Nat) : Int))] _ _ _
            rw [e1, q]
            exact raise1 k e he
          · obtain ⟨p, hp⟩ : ∃ p, ns[j + 1]? = some p := ⟨_, List.getElem?_eq_getElem (by omega)⟩
            obtain ⟨c', p', ec, ep, g1, g2, g3⟩ := ok (j + 1) (by omega)
            rw [hc] at ec
            rw [hp] at ep
            cases ec
            cases ep
            refine ⟨_, rfl, _, rfl, a, _, ((j + 1 : Nat) : Int), .int p, rfl, congrArg V.int e1, SqL.of ha, atI_nat (atn hp), ?_⟩
            refine ⟨_, rfl, _, rfl, _, rfl, _, _, rfl, rfl, _, _, rfl, rfl, .int p, _, _, _, rfl, Kd.int p, _, rfl, ?_⟩
            have w1 : (isI (.int p) && (decide (c ≤ toI (.int p)) && decide (toI (.int p) ≤ c + 1000000000000000000000000000000 - 1))) = true := by
              show (true && (decide (c ≤ p) && decide (p ≤ c + 1000000000000000000000000000000 - 1))) = true
              unfold mt30 at g2
              rw [decide_eq_true g1, decide_eq_true g2]
              rfl
            refine ite2 (fun z => absurd z (by simpa using w1)) (fun _ => ?_)
            refine ⟨_, rfl, _, rfl, _, _, rfl, rfl, by omega, rfl, _, rfl, ite2 (fun z => absurd z (by simp [g3])) (fun _ => ⟨_, _, _, rfl, rfl, by omega⟩)⟩
        · rintro σ Hx ⟨v1, v2, v3, rfl, rfl, hjn⟩
          exact absurd hjn (by omega)
theorem ok_checkperiods (T : LX K mg L) : CalX P w K mg base "check_periods" 3 L.f_check_periods ["period_list"] (spCkPX L) := T.d_check_periods.calX fun fd F => fn_checkperiods T F
end
end X1
namespace EX
section
variable {P : Program} {w : World} {K : PySem.W.Frag} {mg : Str → Option Value} {base : Heap} {L : LA}
theorem ok_checkperiods (T : LX K mg L) : CalX P w K mg base "check_periods" 3 L.f_check_periods ["period_list"] (fun vs H Q E => spChkP L.e_InvalidLog vs H Q E ∨ spCkPX L vs H Q E) := T.d_check_periods.calX fun fd F => FnOk.or0 (fn_checkperiods T F) (X1.fn_checkperiods T F)
abbrev N_waitsof : List Str := ["period_list", "coming", "period"]
theorem sc_waitsof : FnScope N_waitsof ["period_list"] (defScope st_waits_of) := ⟨rfl, rfl, rfl, by decide +kernel, rfl, by decide +kernel, by decide +kernel⟩
theorem fn_waitsof (T : LX K mg L) {fd : FuncData} (F : Fun K "waits_of" "waits_of" st_waits_of L.f_waits_of fd) : FnOk P w K mg base (L2.CX P w) 4 L.f_waits_of fd ["period_list"] (spCkPX L) := by
  have G_checkperiods := ok_checkperiods (P := P) (w := w) (base := base) T
  obtain ⟨tk_MOST_TIME, c_MOST_TIME⟩ := T.n_MOST_TIME
  have nd := sc_waitsof.nd
  refine F.okX sc_waitsof (fun vs H Q E h => ?_) (fun cdv A outer S H vs Q E hr h => ?_)
  · obtain ⟨v, i, rfl, _⟩ := h
    rfl
  · obtain ⟨v, i, rfl, bad, k⟩ := h
    refine ⟨_, (pss_cons (ps_expr (pe_cX G_checkperiods (hr.mono (by decide)) rfl (fun σ => passAt (takes_of rfl rfl rfl rfl) σ) (pa_cons (pv 0) pa_nil)))
       (pss_one (ps_ret (pe_lc (own := [("coming", 1), ("period", 2)]) (g := gTup K 2 (gCons (gName 1) (gCons (gName 2) (gNil)))) (tt := tYes) rfl nd (pi_zip (by rfl) T.b_zip (pa_cons (pv 0) (pa_cons (pe_slice (r := rSlL K) sl_list (pv 0) (po_some pe_int) po_none) pa_nil))) (blkOk_by (own := [("coming", 1), ("period", 2)]) (N := N_waitsof) (sc := defScope st_waits_of) (by decide +kernel)) (fun _ _ _ _ _ => pg_tup rfl (pgs_cons (pg_name (i := 1) nd rfl (Or.inl rfl)) (pgs_cons (pg_name (i := 2) nd rfl (Or.inl rfl)) pgs_nil))) (fun _ _ _ _ _ => pts_nil) (fun _ _ _ _ _ => (pe_tup (pa_cons (pe_op op_add (pe_op op_sub (pv 2) (pv 1)) pe_int) (pa_cons (pe_callB (call_min2 rfl) (by rfl) T.b_min (by decide +kernel) (pa_cons (pv 2) (pa_cons (pe_gI c_MOST_TIME) pa_nil))) pa_nil)))))))), ?_⟩
    exact ⟨_, rfl, .inr ⟨v, i, rfl, bad, k⟩⟩
theorem ok_waitsof (T : LX K mg L) : CalX P w K mg base "waits_of" 4 L.f_waits_of ["period_list"] (spCkPX L) := T.d_waits_of.calX fun fd F => fn_waitsof T F
end
end EX
namespace U
section
variable {P : Program} {w : World} {K : PySem.W.Frag} {mg : Str → Option Value} {base : Heap} {L : LA}
theorem ok_waitsof (T : LX K mg L) : CalX P w K mg base "waits_of" 4 L.f_waits_of ["period_list"] (fun vs H Q E => spWaits L.e_InvalidLog vs H Q E ∨ spCkPX L vs H Q E) := T.d_waits_of.calX fun fd F => FnOk.or0 (fn_waitsof T F) (EX.fn_waitsof T F)
end
end U
/-! ### calls that are sure not to raise -/
theorem FnOk.no {P : Program} {w : World} {K : PySem.W.Frag} {mg : Str → Option Value} {base : Heap} {k : Nat} {f : Addr} {fd : FuncData} {ps : List Str} {sp : Sp} (F : FnOk P w K mg base (L2.CX P w) k f fd ps sp) : FnOk P w K mg base CX0 k f fd ps (fun vs H Q _ => sp vs H Q E0) :=
  ⟨fun vs H Q _ h => F.len vs H Q E0 h, fun A outer s H args us vs Q E hr e0 hb hv h => codeAny_mono (F.run A outer s H args us vs Q E0 hr e0 hb hv h) fun r s' z => by
    cases r with
    | error e =>
      obtain ⟨_, _, _, _, _, _, _, _, _, _, _, _, no⟩ := z
      exact no
    | ok fl => cases fl <;> exact z⟩
namespace P0
section
variable {P : Program} {w : World} {K : PySem.W.Frag} {mg : Str → Option Value} {base : Heap} {L : LA}
theorem fn_explanations (T : LX K mg L) {fd : FuncData} (F : Fun K "explanations" "explanations" st_explanations L.f_explanations fd) : FnOk P w K mg base CX0 5 L.f_explanations fd ["log"] (fun vs H Q _ => spExpl vs H Q E0) := FnOk.no (Toy.fn_explanations T F)
theorem ok_explanations (T : LX K mg L) : Cal P w K mg base "explanations" 5 L.f_explanations ["log"] (fun vs H Q _ => spExpl vs H Q E0) := T.d_explanations.cal fun fd F => fn_explanations T F
theorem fn_firstconflict (T : LX K mg L) {fd : FuncData} (F : Fun K "first_conflict" "first_conflict" st_first_conflict L.f_first_conflict fd) : FnOk P w K mg base CX0 6 L.f_first_conflict fd ["log"] (fun vs H Q _ => spFc vs H Q E0) := FnOk.no (Toy.fn_firstconflict T F)
theorem ok_firstconflict (T : LX K mg L) : Cal P w K mg base "first_conflict" 6 L.f_first_conflict ["log"] (fun vs H Q _ => spFc vs H Q E0) := T.d_first_conflict.cal fun fd F => fn_firstconflict T F
theorem fn_forecast (T : LX K mg L) {fd : FuncData} (F : Fun K "forecast" "forecast" st_forecast L.f_forecast fd) : FnOk P w K mg base CX0 7 L.f_forecast fd ["log", "time"] (fun vs H Q _ => spFor L.e_InvalidLog vs H Q E0) := FnOk.no (Toy.fn_forecast T F)
theorem ok_forecast (T : LX K mg L) : Cal P w K mg base "forecast" 7 L.f_forecast ["log", "time"] (fun vs H Q _ => spFor L.e_InvalidLog vs H Q E0) := T.d_forecast.cal fun fd F => fn_forecast T F
theorem fn_logof (T : LX K mg L) {fd : FuncData} (F : Fun K "log_of" "log_of" st_log_of L.f_log_of fd) : FnOk P w K mg base CX0 4 L.f_log_of fd ["breaker", "times"] (fun vs H Q _ => spLogOf vs H Q E0) := FnOk.no (Toy.fn_logof T F)
theorem ok_logof (T : LX K mg L) : Cal P w K mg base "log_of" 4 L.f_log_of ["breaker", "times"] (fun vs H Q _ => spLogOf vs H Q E0) := T.d_log_of.cal fun fd F => fn_logof T F
theorem fn_waitsof (T : LX K mg L) {fd : FuncData} (F : Fun K "waits_of" "waits_of" st_waits_of L.f_waits_of fd) : FnOk P w K mg base CX0 4 L.f_waits_of fd ["period_list"] (fun vs H Q _ => spWaits L.e_InvalidLog vs H Q E0) := FnOk.no (Toy.fn_waitsof T F)
theorem ok_waitsof (T : LX K mg L) : Cal P w K mg base "waits_of" 4 L.f_waits_of ["period_list"] (fun vs H Q _ => spWaits L.e_InvalidLog vs H Q E0) := T.d_waits_of.cal fun fd F => fn_waitsof T F
end
end P0
/-! ### k50: the law's turns -/
theorem asc_topX : ∀ {ns : List Int} {lo : Int}, Asc lo ns → lo ≤ lstG lo ns ∧ ∀ x ∈ ns, x + 1 ≤ lstG lo ns
  | [], lo, _ => ⟨Int.le_refl _, fun x h => nomatch h⟩
  | x :: r, lo, ⟨h1, h2⟩ => by
    obtain ⟨i1, i2⟩ := asc_topX h2
    have i1 : x + 1 ≤ lstG (x + 1) r := i1
    refine ⟨?_, fun y hy => ?_⟩
    · show lo ≤ lstG (x + 1) r
      omega
    · show y + 1 ≤ lstG (x + 1) r
      rcases List.mem_cons.mp hy with rfl | hy
      · exact i1
      · exact i2 y hy
theorem FoR.one {ps : Lg} {t : Int} {a b : Str} (h : FoR ps t a) (h' : FoR ps t b) : a = b := by
  rcases h with ⟨rfl, h⟩ | ⟨rfl, n, h, h2⟩ | ⟨rfl, n, h, h2⟩ <;> rcases h' with ⟨rfl, z⟩ | ⟨rfl, m, z, z2⟩ | ⟨rfl, m, z, z2⟩
  · rfl
  · rcases h with h | h
    · exact absurd h m
    · exact absurd h z
  · rcases h with h | h
    · exact absurd h m
    · exact absurd h z
  · rcases z with z | z
    · exact absurd z n
    · exact absurd z h
  · rfl
  · exact absurd h2 z2
  · rcases z with z | z
    · exact absurd z n
    · exact absurd z h
  · exact absurd z2 h2
  · rfl
theorem gap_bd {ps : Lg} {t M : Int} (hn : ps ≠ []) (M0 : 0 ≤ M) (hb : ∀ p ∈ ps, 0 ≤ p.1 ∧ p.1 ≤ M) (ht : M < t) : 1 ≤ gapN ps t ∧ gapN ps t ≤ t := by
  have up : ∀ (xs : Lg) (o : Option Int), (∀ v, o = some v → v ≤ M) → (∀ p ∈ xs, p.1 ≤ M) → ∀ v, latA o xs = some v → v ≤ M := by
    intro xs
    induction xs with
    | nil => exact fun o ho _ => ho
    | cons q r ih =>
      obtain ⟨u, p⟩ := q
      exact fun o ho h => ih _ (fun v e => by
        cases p
        · exact ho v e
        · have e : some u = some v := e
          rw [← Option.some.inj e]
          exact h (u, true) (List.mem_cons_self ..)) fun q hq => h q (List.mem_cons_of_mem _ hq)
  unfold gapN
  cases z : latA none ps with
  | none =>
    show 1 ≤ t - 0 ∧ t - 0 ≤ t
    omega
  | some v =>
    have h1 := up ps none (fun v e => nomatch e) (fun p hp => (hb p hp).2) v z
    have h2 := latA_nn ps none (fun v e => nomatch e) (fun p hp => (hb p hp).1) v z
    show 1 ≤ t - v ∧ t - v ≤ t
    omega
def KS (s : Addr) (H H' : Hp) : Prop := ∀ b o, b ≠ s → H b = some o → (∀ ps, o ≠ .tbl ps) → H' b = some o
theorem KS.of {s : Addr} {H H' : Hp} (h : Kp s H H') : KS s H H' := fun b o n e _ => h b o n e
theorem KS.ext {s : Addr} {H H' : Hp} (h : LamX.ExtN H H') : KS s H H' := fun b o _ e n => h b o e n
theorem KS.trans {s : Addr} {H H1 H2 : Hp} (h : KS s H H1) (h' : KS s H1 H2) : KS s H H2 := fun b o n e z => h' b o n (h b o n e z) z
theorem TabS.nl {H H' : Hp} {P : Addr} {q : Str} (t : LamX.TabS H P q) (n : NL H H') : LamX.TabS H' P q := by
  obtain ⟨ps, h1, h2, h3⟩ := t
  refine ⟨ps, n _ _ h1 (fun _ z => nomatch z), h2, fun pos cv hc => ?_⟩
  obtain ⟨c, e1, e2⟩ := h3 pos cv hc
  exact ⟨c, e1, n _ _ e2 (fun _ z => by unfold LamX.CodeO at z; cases z)⟩
theorem Tabs.nl {T : List (Addr × Str)} {H H' : Hp} (t : LamX.Tabs T H) (n : NL H H') : LamX.Tabs T H' := fun p hp => TabS.nl (t p hp) n
theorem Lgs.ext {H H' : Hp} (e : LamX.ExtN H H') {xs : List V} {ps : Lg} (h : Lgs H xs ps) : Lgs H' xs ps := L2.Paired.mapP h fun _ _ ⟨a, x, z⟩ => ⟨a, x, e _ _ z fun _ q => nomatch q⟩
def logD (i : Int) : PyData := .tuple [.str "log", .int i]
theorem shLog (i : Int) : SeqAt.shaped (logD i) = true := by
  refine Bool.and_eq_true_iff.mpr ⟨by simp [logD, PyData.canLay0, PyData.canLayAll0]; decide +kernel, decide_eq_true (by simp [logD, PyData.depth, PyData.depthAll])⟩
theorem eqLog (i : Int) : PyData.eqv (logD i) (logD i) = true := SeqAt.eqv_refl _ (Bool.and_eq_true_iff.mp (shLog i)).1
theorem dpLog {K : PySem.W.Frag} {H : Hp} {p : Addr} {i : Int} (h : H p = some (.tup [.str "log", .int i])) : Dp K H (.ref p) (logD i) := .tup (SqT.of h) (.cons (.str _) (.cons (.int _) .nil))
theorem errF_InvalidRow {K : PySem.W.Frag} {mg : Str → Option Value} {L : LA} (T : LX K mg L) : ErrF K L L.e_InvalidRow true false false false false false :=
  ⟨T.is_InvalidRow, T.xe_InvalidRow, (kit_of T.xe_InvalidRow T.te_InvalidRow T.se_InvalidRow_InvalidRow T.se_InvalidRow_InvalidRow), (kit_of T.xe_InvalidTime T.te_InvalidTime T.se_InvalidRow_InvalidRow T.se_InvalidRow_InvalidTime), (kit_of T.xe_InvalidOutages T.te_InvalidOutages T.se_InvalidRow_InvalidRow T.se_InvalidRow_InvalidOutages), (kit_of T.xe_InvalidIndex T.te_InvalidIndex T.se_InvalidRow_InvalidRow T.se_InvalidRow_InvalidIndex), (kit_of T.xe_InvalidBound T.te_InvalidBound T.se_InvalidRow_InvalidRow T.se_InvalidRow_InvalidBound), (kit_of T.xe_InvalidLog T.te_InvalidLog T.se_InvalidRow_InvalidRow T.se_InvalidRow_InvalidLog), (L2.kitAny_cons (b := false) (kit_of T.xe_InvalidTrains T.te_InvalidTrains T.se_InvalidRow_InvalidRow T.se_InvalidRow_InvalidTrains) (fun _ => (L2.kitAny_cons (b := false) (kit_of T.xe_InvalidCall T.te_InvalidCall T.se_InvalidRow_InvalidRow T.se_InvalidRow_InvalidCall) (fun _ => (L2.kitAny_cons (b := false) (kit_of T.xe_InvalidText T.te_InvalidText T.se_InvalidRow_InvalidRow T.se_InvalidRow_InvalidText) (fun _ => (L2.kitAny_cons (b := false) (kit_of T.xe_LimitExceeded T.te_LimitExceeded T.se_InvalidRow_InvalidRow T.se_InvalidRow_LimitExceeded) (fun _ => L2.kitAny_nil) (fun z => nomatch z))) (fun z => nomatch z))) (fun z => nomatch z))) (fun z => nomatch z)), kit_ar (x := "ArithmeticError") (by decide) T.sa_InvalidRow, exm_of T.xe_BreakerError T.te_BreakerError T.se_InvalidRow_BreakerError⟩
theorem errF_InvalidTime {K : PySem.W.Frag} {mg : Str → Option Value} {L : LA} (T : LX K mg L) : ErrF K L L.e_InvalidTime false true false false false false :=
  ⟨T.is_InvalidTime, T.xe_InvalidTime, (kit_of T.xe_InvalidRow T.te_InvalidRow T.se_InvalidTime_InvalidTime T.se_InvalidTime_InvalidRow), (kit_of T.xe_InvalidTime T.te_InvalidTime T.se_InvalidTime_InvalidTime T.se_InvalidTime_InvalidTime), (kit_of T.xe_InvalidOutages T.te_InvalidOutages T.se_InvalidTime_InvalidTime T.se_InvalidTime_InvalidOutages), (kit_of T.xe_InvalidIndex T.te_InvalidIndex T.se_InvalidTime_InvalidTime T.se_InvalidTime_InvalidIndex), (kit_of T.xe_InvalidBound T.te_InvalidBound T.se_InvalidTime_InvalidTime T.se_InvalidTime_InvalidBound), (kit_of T.xe_InvalidLog T.te_InvalidLog T.se_InvalidTime_InvalidTime T.se_InvalidTime_InvalidLog), (L2.kitAny_cons (b := false) (kit_of T.xe_InvalidTrains T.te_InvalidTrains T.se_InvalidTime_InvalidTime T.se_InvalidTime_InvalidTrains) (fun _ => (L2.kitAny_cons (b := false) (kit_of T.xe_InvalidCall T.te_InvalidCall T.se_InvalidTime_InvalidTime T.se_InvalidTime_InvalidCall) (fun _ => (L2.kitAny_cons (b := false) (kit_of T.xe_InvalidText T.te_InvalidText T.se_InvalidTime_InvalidTime T.se_InvalidTime_InvalidText) (fun _ => (L2.kitAny_cons (b := false) (kit_of T.xe_LimitExceeded T.te_LimitExceeded T.se_InvalidTime_InvalidTime T.se_InvalidTime_LimitExceeded) (fun _ => L2.kitAny_nil) (fun z => nomatch z))) (fun z => nomatch z))) (fun z => nomatch z))) (fun z => nomatch z)), kit_ar (x := "ArithmeticError") (by decide) T.sa_InvalidTime, exm_of T.xe_BreakerError T.te_BreakerError T.se_InvalidTime_BreakerError⟩
theorem errF_InvalidLog {K : PySem.W.Frag} {mg : Str → Option Value} {L : LA} (T : LX K mg L) : ErrF K L L.e_InvalidLog false false false false false true :=
  ⟨T.is_InvalidLog, T.xe_InvalidLog, (kit_of T.xe_InvalidRow T.te_InvalidRow T.se_InvalidLog_InvalidLog T.se_InvalidLog_InvalidRow), (kit_of T.xe_InvalidTime T.te_InvalidTime T.se_InvalidLog_InvalidLog T.se_InvalidLog_InvalidTime), (kit_of T.xe_InvalidOutages T.te_InvalidOutages T.se_InvalidLog_InvalidLog T.se_InvalidLog_InvalidOutages), (kit_of T.xe_InvalidIndex T.te_InvalidIndex T.se_InvalidLog_InvalidLog T.se_InvalidLog_InvalidIndex), (kit_of T.xe_InvalidBound T.te_InvalidBound T.se_InvalidLog_InvalidLog T.se_InvalidLog_InvalidBound), (kit_of T.xe_InvalidLog T.te_InvalidLog T.se_InvalidLog_InvalidLog T.se_InvalidLog_InvalidLog), (L2.kitAny_cons (b := false) (kit_of T.xe_InvalidTrains T.te_InvalidTrains T.se_InvalidLog_InvalidLog T.se_InvalidLog_InvalidTrains) (fun _ => (L2.kitAny_cons (b := false) (kit_of T.xe_InvalidCall T.te_InvalidCall T.se_InvalidLog_InvalidLog T.se_InvalidLog_InvalidCall) (fun _ => (L2.kitAny_cons (b := false) (kit_of T.xe_InvalidText T.te_InvalidText T.se_InvalidLog_InvalidLog T.se_InvalidLog_InvalidText) (fun _ => (L2.kitAny_cons (b := false) (kit_of T.xe_LimitExceeded T.te_LimitExceeded T.se_InvalidLog_InvalidLog T.se_InvalidLog_LimitExceeded) (fun _ => L2.kitAny_nil) (fun z => nomatch z))) (fun z => nomatch z))) (fun z => nomatch z))) (fun z => nomatch z)), kit_ar (x := "ArithmeticError") (by decide) T.sa_InvalidLog, exm_of T.xe_BreakerError T.te_BreakerError T.se_InvalidLog_BreakerError⟩
theorem lt_mem_wlogsright {K : PySem.W.Frag} {mg : Str → Option Value} {L : LA} (T : LX K mg L) : (L.t__law_logs_right, (("_law_logs_right" : Str) ++ ".<locals>.") ++ "<lambda>") ∈ LT L := by simp [LT]
theorem lt_one_wlogsright {K : PySem.W.Frag} {mg : Str → Option Value} {L : LA} (T : LX K mg L) : ∀ p ∈ LT L, p.1 = L.t__law_logs_right → p.2 = (("_law_logs_right" : Str) ++ ".<locals>.") ++ "<lambda>" := by
  intro p hp e
  simp only [LT, List.mem_cons, List.mem_nil_iff, or_false] at hp
  rcases hp with rfl | rfl | rfl
  · rfl
  · exact absurd e (fun z => T.nt__law_logs_right__law_others_right z.symm)
  · exact absurd e (fun z => T.nt__law_logs_right__law_right z.symm)
theorem lt_mem_wothersright {K : PySem.W.Frag} {mg : Str → Option Value} {L : LA} (T : LX K mg L) : (L.t__law_others_right, (("_law_others_right" : Str) ++ ".<locals>.") ++ "<lambda>") ∈ LT L := by simp [LT]
theorem lt_one_wothersright {K : PySem.W.Frag} {mg : Str → Option Value} {L : LA} (T : LX K mg L) : ∀ p ∈ LT L, p.1 = L.t__law_others_right → p.2 = (("_law_others_right" : Str) ++ ".<locals>.") ++ "<lambda>" := by
  intro p hp e
  simp only [LT, List.mem_cons, List.mem_nil_iff, or_false] at hp
  rcases hp with rfl | rfl | rfl
  · exact absurd e T.nt__law_logs_right__law_others_right
  · rfl
  · exact absurd e (fun z => T.nt__law_others_right__law_right z.symm)
theorem lt_mem_wright {K : PySem.W.Frag} {mg : Str → Option Value} {L : LA} (T : LX K mg L) : (L.t__law_right, (("_law_right" : Str) ++ ".<locals>.") ++ "<lambda>") ∈ LT L := by simp [LT]
theorem lt_one_wright {K : PySem.W.Frag} {mg : Str → Option Value} {L : LA} (T : LX K mg L) : ∀ p ∈ LT L, p.1 = L.t__law_right → p.2 = (("_law_right" : Str) ++ ".<locals>.") ++ "<lambda>" := by
  intro p hp e
  simp only [LT, List.mem_cons, List.mem_nil_iff, or_false] at hp
  rcases hp with rfl | rfl | rfl
  · exact absurd e T.nt__law_logs_right__law_right
  · exact absurd e T.nt__law_others_right__law_right
  · rfl

/-! ### facts over calls that make lambdas -/
theorem Kd.ext {H H' : Hp} {v : V} {nm : String} (k : Kd H v nm) (s : LamX.ExtN H H') : Kd H' v nm := by
  cases k with
  | non => exact .non
  | bl b => exact .bl b
  | int i => exact .int i
  | str x => exact .str x
  | lst e => exact .lst (s _ _ e fun _ z => nomatch z)
  | tup e => exact .tup (s _ _ e fun _ z => nomatch z)
  | dK e => exact .dK (s _ _ e fun _ z => nomatch z)
theorem NoEnt.ext {H H' : Hp} {v : V} (h : NoEnt H v) (s : LamX.ExtN H H') : NoEnt H' v := by
  cases h with
  | kind k n => exact .kind (Kd.ext k s) n
  | len e n => exact .len (s _ _ e fun _ z => nomatch z) n
  | num e k1 k2 bad => exact .num (s _ _ e fun _ z => nomatch z) (Kd.ext k1 s) (Kd.ext k2 s) bad
theorem NoBr.ext {H H' : Hp} {v : V} (h : NoBr H v) (s : LamX.ExtN H H') : NoBr H' v := by
  cases h with
  | kind k n => exact .kind (Kd.ext k s) n
  | len e n => exact .len (s _ _ e fun _ z => nomatch z) n
  | num e k1 k2 k3 bad => exact .num (s _ _ e fun _ z => nomatch z) (Kd.ext k1 s) (Kd.ext k2 s) (Kd.ext k3 s) bad
theorem LogBad.ext {H H' : Hp} {v : V} {i : Int} (h : LogBad H v i) (s : LamX.ExtN H H') : LogBad H' v i := by
  cases h with
  | kind k n => exact .kind (Kd.ext k s) n
  | many e m => exact .many (s _ _ e fun _ z => nomatch z) m
  | item e hp ok ln bad =>
    refine .item (s _ _ e fun _ z => nomatch z) (Lgs.ext s hp) ok ln ?_
    rcases bad with h | ⟨p, ⟨a, e1, e2⟩, r⟩
    · exact .inl (h.ext s)
    · exact .inr ⟨p, ⟨a, e1, s _ _ e2 fun _ z => nomatch z⟩, r⟩
theorem TmsBad.ext {H H' : Hp} {v : V} {i : Int} (h : TmsBad H v i) (s : LamX.ExtN H H') : TmsBad H' v i := by
  cases h with
  | kind k n => exact .kind (Kd.ext k s) n
  | many e m => exact .many (s _ _ e fun _ z => nomatch z) m
  | item e asc ln k bad => exact .item (s _ _ e fun _ z => nomatch z) asc ln (Kd.ext k s) bad
theorem PerBad.ext {H H' : Hp} {v : V} {i : Int} (h : PerBad H v i) (s : LamX.ExtN H H') : PerBad H' v i := by
  cases h with
  | kind k n => exact .kind (Kd.ext k s) n
  | size e n => exact .size (s _ _ e fun _ z => nomatch z) n
  | item e ln ok k bad => exact .item (s _ _ e fun _ z => nomatch z) ln ok (Kd.ext k s) bad
/-- not a list of periods, also one of numbers only -/
inductive PerBad2 (H : Hp) : V → Int → Prop
  | odd {v : V} {i : Int} (h : PerBad H v i) : PerBad2 H v i
  | num {b : Addr} {ns : List Int} {i : Nat} (e : H b = some (.lst (ns.map V.int))) (l1 : 1 ≤ ns.length) (l13 : ns.length ≤ 13) (lt : i < ns.length) (low : ∀ j, j < i → okAt ns j) (bad : ¬ okAt ns i) : PerBad2 H (.ref b) (i : Nat)
theorem PerBad2.ext {H H' : Hp} {v : V} {i : Int} (h : PerBad2 H v i) (s : LamX.ExtN H H') : PerBad2 H' v i := by
  cases h with
  | odd h => exact .odd (h.ext s)
  | num e l1 l13 lt low bad => exact .num (s _ _ e fun _ z => nomatch z) l1 l13 lt low bad
/-- a row of the law's lists: a value, and the place that the error names -/
def RowP (P : Hp → V → Int → Prop) (H : Hp) (r : V) : Prop := ∃ (b : Addr) (v : V) (i : Int), r = .ref b ∧ H b = some (.tup [v, .int i]) ∧ P H v i
theorem RowP.ext {P : Hp → V → Int → Prop} (hP : ∀ (H H' : Hp) (v : V) (i : Int), P H v i → LamX.ExtN H H' → P H' v i) {H H' : Hp} {r : V} (h : RowP P H r) (s : LamX.ExtN H H') : RowP P H' r := by
  obtain ⟨b, v, i, rfl, e, p⟩ := h
  exact ⟨b, v, i, rfl, s _ _ e (fun _ z => nomatch z), hP _ _ _ _ p s⟩
/-! ### what _law_said makes of the errors -/
section
variable {K : PySem.W.Frag} {mg : Str → Option Value} {L : LA} {g0 : List Code} {Q : VK} {E : XK}
theorem said_log (T : LX K mg L) (hE : ∀ cls d H', SaidR K L g0 cls d H' Q → E cls d H') {Hy : Hp} {i : Int} (k : ∀ p H', H' p = some (.tup [.str "log", .int i]) → Same Hy H' → Q (.ref p) H') : ∀ d H', H' d = some (.xd [("at", .int i)]) → Same Hy H' → E (.ref L.e_InvalidLog) (some d) H' :=
  fun d H' hd s => hE _ _ _ ⟨L.e_InvalidLog, d, _, _, _, _, _, _, rfl, rfl, errF_InvalidLog T, .log _ T.ne_InvalidLog_at hd fun p H'' hp s2 _ => k p H'' hp (s.trans s2)⟩
theorem said_row (T : LX K mg L) (hE : ∀ cls d H', SaidR K L g0 cls d H' Q → E cls d H') {Hy : Hp} {x y : V} (k : ∀ p H', H' p = some (.tup [.str "row", x, y]) → Same Hy H' → Q (.ref p) H') : ∀ d H', H' d = some (.xd [("at", y), ("part", x)]) → Same Hy H' → E (.ref L.e_InvalidRow) (some d) H' :=
  fun d H' hd s => hE _ _ _ ⟨L.e_InvalidRow, d, _, _, _, _, _, _, rfl, rfl, errF_InvalidRow T, .row _ _ T.ne_InvalidRow_part T.ne_InvalidRow_at hd fun p H'' hp s2 _ => k p H'' hp (s.trans s2)⟩
theorem said_time (T : LX K mg L) (hE : ∀ cls d H', SaidR K L g0 cls d H' Q → E cls d H') {Hy : Hp} {v : V} {z : Str} (r : ReprG g0 Hy v z) (k : ∀ p H', H' p = some (.tup [.str "time", .str z]) → Same Hy H' → Q (.ref p) H') : ∀ d H', H' d = some (.xd [("time", v)]) → Same Hy H' → E (.ref L.e_InvalidTime) (some d) H' :=
  fun d H' hd s => hE _ _ _ ⟨L.e_InvalidTime, d, _, _, _, _, _, _, rfl, rfl, errF_InvalidTime T, .time _ z T.ne_InvalidTime_time hd (r.mv fun b o _ e _ => s _ _ e) fun p H'' hp s2 _ => k p H'' hp (s.trans s2)⟩
theorem said_per (T : LX K mg L) (hE : ∀ cls d H', SaidR K L g0 cls d H' Q → E cls d H') {Hy : Hp} {v : V} {i : Int} {N : VK} (h : PerBad2 Hy v i) (k : ∀ p H', H' p = some (.tup [.str "log", .int i]) → Same Hy H' → Q (.ref p) H') : (fun vs H Q E => spWaits L.e_InvalidLog vs H Q E ∨ spCkPX L vs H Q E) [v] Hy N E := by
  cases h with
  | odd h => exact .inr ⟨v, i, rfl, h, said_log T hE k⟩
  | @num b ns i e l1 l13 lt low bad =>
    refine .inl ⟨b, ns, rfl, e, l1, l13, fun all => absurd (all i lt) bad, fun j hj hlow hbad => ?_⟩
    have ej : j = i := by
      rcases Nat.lt_trichotomy j i with h | h | h
      · exact absurd (low j h) hbad
      · exact h
      · exact absurd (hlow i h) bad
    subst ej
    exact said_log T hE k
end
def rowD : PyData := .tuple [.str "row", .str "breaker", .int (-1)]
theorem shRow : SeqAt.shaped rowD = true := by
  refine Bool.and_eq_true_iff.mpr ⟨by simp [rowD, PyData.canLay0, PyData.canLayAll0]; decide +kernel, decide_eq_true (by simp [rowD, PyData.depth, PyData.depthAll])⟩
theorem eqRow : PyData.eqv rowD rowD = true := SeqAt.eqv_refl _ (Bool.and_eq_true_iff.mp shRow).1
theorem dpRow {K : PySem.W.Frag} {H : Hp} {p : Addr} (h : H p = some (.tup [.str "row", .str "breaker", .int (-1)])) : Dp K H (.ref p) rowD := .tup (SqT.of h) (.cons (.str _) (.cons (.str _) (.cons (.int _) .nil)))
def tmD (z : Str) : PyData := .tuple [.str "time", .str z]
theorem shTm {z : Str} (h : PyData.strOk z = true) : SeqAt.shaped (tmD z) = true := by
  refine Bool.and_eq_true_iff.mpr ⟨by simp [tmD, PyData.canLay0, PyData.canLayAll0, h]; decide +kernel, decide_eq_true (by simp [tmD, PyData.depth, PyData.depthAll])⟩
theorem eqTm {z : Str} (h : PyData.strOk z = true) : PyData.eqv (tmD z) (tmD z) = true := SeqAt.eqv_refl _ (Bool.and_eq_true_iff.mp (shTm h)).1
theorem dpTm {K : PySem.W.Frag} {H : Hp} {p : Addr} {z : Str} (h : H p = some (.tup [.str "time", .str z])) : Dp K H (.ref p) (tmD z) := .tup (SqT.of h) (.cons (.str _) (.cons (.str _) .nil))
/-! ### a list or a dict is in no tuple of numbers -/
theorem dict_eq_int (l : Addr) (b : Int) (u : Tok) (es : Array DictEntry) (n : Nat) (dd : Option Addr) (sl : Array (Option Value)) :
    Meets (Builtin.«dict.__eq__» ⟨[.ref l, .int b u], []⟩) (fun _ R s => s.heap.get? l = some { cls := .type "dict", dict := dd, data := .dict es n, slots := sl } ∧ R (.ok (.ret .notImplemented)) s) :=
  .of_wp fun prog w A R s h => by obtain ⟨hp, g, d, tk, os⟩ := s; obtain ⟨hl, h⟩ := h; have f1 := F.sub_int_dict; wp_walk using wpAny_loadPart' hl; exact ⟨_, rfl, h⟩
theorem int_eq_dict (l : Addr) (b : Int) (u : Tok) (c : Value) (es : Array DictEntry) (n : Nat) (dd : Option Addr) (sl : Array (Option Value)) :
    Meets (Builtin.«int.__eq__» ⟨[.int b u, .ref l], []⟩) (fun _ R s => s.heap.get? l = some { cls := c, dict := dd, data := .dict es n, slots := sl } ∧ R (.ok (.ret .notImplemented)) s) :=
  .of_wp fun prog w A R s h => by obtain ⟨hp, g, d, tk, os⟩ := s; obtain ⟨hl, h⟩ := h; wp_walk using wpAny_loadPart' hl, wpAny_load hl; exact ⟨_, rfl, h⟩
theorem rc_int_dict {A : Around} {s : Shared} {l : Addr} {es : Array DictEntry} {n : Nat} {dd : Option Addr} {sl : Array (Option Value)} (b : Int) (u : Tok) (ho : s.heap.get? l = some { cls := .type "dict", dict := dd, data := .dict es n, slots := sl }) (hu : A.units < cLine) : SeqAt.EqAt A s (.int b u) (.ref l) false := fun prog w E Q h => by
  unfold eqBool
  refine wpAny_holding ?_
  refine wpAny_ite_split (fun hab => absurd (eq_of_beq hab) nofun) (fun _ => ?_)
  exact wpAny_bind (PySem.SeqAt.rc_eq_decline_or (k := false) (typeIs_int s b u) ⟨_, ho, rfl⟩ (by decide) F.sub_dict_int F.slot_int_eq F.slot_dict_eq_refl
    (fun _ hq => call_meets F.slot_int_eq (typeIs_int s b u) F.entry_int_eq (F.args_int_eq_2 _ _) (int_eq_dict l b u (.type "dict") es n dd sl) ⟨ho, hq⟩)
    (fun _ hq => call_meets F.slot_dict_eq_refl ⟨_, ho, rfl⟩ F.entry_dict_eq (F.args_dict_eq_2 _ _) (dict_eq_int l b u es n dd sl) ⟨ho, hq⟩)
    (fun _ hq => wpAny_of_eq (rfl : isSame (.int b u) (.ref l) = pure false) hq) (.inr hu) (wpAny_truthy_bool h))
/-- x not in (n, m): flat, or a list, or an empty dict -/
def rNi50 (K : PySem.W.Frag) : R2 := fun x y H Q => rIn K true x y H Q ∨ ∃ (a b : Addr) (ns : List Int), x = .ref a ∧ y = .ref b ∧ ((∃ xs, H a = some (.lst xs)) ∨ H a = some (.dK [])) ∧ H b = some (.tup (ns.map V.int)) ∧ Q (.bl true) H
theorem vals_ints : ∀ {ns : List Int} {us : List Value}, Vals (ns.map V.int) us → ∀ u ∈ us, ∃ i t, u = .int i t
  | [], _, .nil => fun u h => nomatch h
  | n :: ns, _, .cons r t => fun u h => by
    rcases List.mem_cons.mp h with rfl | h
    · obtain ⟨t, rfl⟩ := r
      exact ⟨n, t, rfl⟩
    · exact vals_ints t u h
theorem op_ni50 {X : Cx} (hu : X.A.units + 64 < cLine) : OpR X (compareOp .NotIn) (rNi50 X.K) := by
  intro pins s σ H x y v u Q I rx ry h
  rcases h with h | ⟨a, b, ns, rfl, rfl, ha, hb, q⟩
  · exact op_notIn_seq pins s σ H x y v u Q I rx ry h
  · cases rx
    cases ry
    obtain ⟨its, r, pl, hz⟩ := I.tuple (SqT.of hb)
    have hin : X.A.in1.units < cLine := by have : X.A.in1.units ≤ X.A.units + 64 := by first | exact Nat.le_add_right _ _ | (show _ + _ ≤ _; omega) | decide
                                           omega
    have all : ∀ w ∈ its, SeqAt.EqAt X.A.in1 s w (.ref a) false := by
      intro w hw
      obtain ⟨i, t, rfl⟩ := vals_ints r w hw
      rcases ha with ⟨xs, ha⟩ | ha
      · obtain ⟨jts, r2, pl2, hz2⟩ := I.list (SqL.of ha)
        exact SeqAt.EqAt.int_list i t pl2.isList hin
      · obtain ⟨_, hsys, kvs, kv, ⟨dc, ddd, dda, dsl⟩, es, ep, ho, ex, hd, _⟩ := I.hok a _ ha
        have hdc := ex.1
        dsimp only at hdc hd
        subst hdc hd
        exact rc_int_dict i t ho hin
    refine SeqAt.notIn_tupleAt (fun _ => false) pl (fun w hw => all w (by simpa using hw)) ⟨.bl _, H, I, rfl, ?_⟩
    rw [show its.toArray.any (fun _ => false) = false by simp]
    exact q
/-- what is no time after the last one of the log, with what repr shows of it -/
def OddTm (g0 : List Code) (H : Hp) (v : V) : Prop := ∃ (nm : String) (z : Str), Kd H v nm ∧ ReprG g0 H v z ∧ PyData.strOk z = true ∧ (isI v && decide (21 ≤ toI v)) = false ∧
  ((flatV v = true ∧ (inV v [.int 20, .int 19] = true ∨ (inV v [.int 20, .int 19] = false ∧ (isI v && decide (0 ≤ toI v)) = false))) ∨ ∃ a, v = .ref a ∧ ((∃ xs, H a = some (.lst xs)) ∨ H a = some (.dK [])))
theorem OddTm.ext {g0 : List Code} {H H' : Hp} {v : V} (h : OddTm g0 H v) (s : LamX.ExtN H H') : OddTm g0 H' v := by
  obtain ⟨nm, z, k, r, ok, b, alt⟩ := h
  refine ⟨nm, z, k.ext s, r.mv fun a o _ e n => s _ _ e n, ok, b, ?_⟩
  rcases alt with h | ⟨a, rfl, h⟩
  · exact .inl h
  · refine .inr ⟨a, rfl, ?_⟩
    rcases h with ⟨xs, h⟩ | h
    · exact .inl ⟨xs, s _ _ h fun _ z => nomatch z⟩
    · exact .inr (s _ _ h fun _ z => nomatch z)
theorem strOk_ite {c : Bool} {a b : Str} (ha : PyData.strOk a = true) (hb : PyData.strOk b = true) : PyData.strOk (if c then a else b) = true := by
  cases c
  · exact hb
  · exact ha
/-! ### k50: what is no breaker, no time, no list of periods -/
def spOthers (K : PySem.W.Frag) (L : LA) : Sp := fun vs H Q _ => ∃ a xs ps, vs = [.ref a, .int 20] ∧ H a = some (.lst xs) ∧ Lgs H xs ps ∧ OkLog ps ∧ lstG 0 (ps.map (·.1)) = 21 ∧ LamX.Tabs (LT L) H ∧ ∀ H', LamX.ExtN H H' → LamX.Tabs (LT L) H' → Q (.bl true) H'
section
variable {P : Program} {w : World} {K : PySem.W.Frag} {mg : Str → Option Value} {base : Heap} {L : LA}
abbrev N_wothersright : List Str := ["_law_seen", "_law_last", "_law_odds", "_law_rows", "_law_at", "_law_odd"]
theorem sc_wothersright : FnScope N_wothersright ["_law_seen", "_law_last"] (defScope st__law_others_right) := ⟨rfl, rfl, rfl, by decide +kernel, rfl, by decide +kernel, by decide +kernel⟩
theorem fn_wothersright (T : LX K mg L) (B : TX base mg L) {fd : FuncData} (F : FunT K "_law_others_right" "_law_others_right" st__law_others_right L.f__law_others_right L.k__law_others_right fd) : FnOk P w K mg base CX0 12 L.f__law_others_right fd ["_law_seen", "_law_last"] (spOthers K L) := by
  have G_logof := P0.ok_logof (P := P) (w := w) (base := base) T
  have G_forecast := P0.ok_forecast (P := P) (w := w) (base := base) T
  have G_waitsof := P0.ok_waitsof (P := P) (w := w) (base := base) T
  have nd := sc_wothersright.nd
  refine F.okG sc_wothersright (fun vs H Q E h => ?_) (fun g0 A outer S H vs Q E hgd hr h => ?_)
  · obtain ⟨sa, sx, sp, rfl, _⟩ := h
    rfl
  · obtain ⟨sa, sx, sp, rfl, hsa, hsx, sok, stp, tabs, k⟩ := h
    refine ⟨_, (pss_cons (ps_set (i := 2) nd rfl (Or.inl rfl) (pe_lst (pa_cons pe_non (pa_cons (pe_tup (pa_cons pe_int (pa_cons pe_int pa_nil))) (pa_cons (pe_tup (pa_cons pe_int (pa_cons pe_int (pa_cons pe_int pa_nil)))) (pa_cons (pe_tup (pa_cons pe_int (pa_cons pe_int (pa_cons pe_int pa_nil)))) (pa_cons (pe_tup (pa_cons pe_int (pa_cons pe_int (pa_cons pe_int pa_nil)))) (pa_cons (pe_lst (pa_cons pe_int (pa_cons pe_int (pa_cons pe_int pa_nil)))) (pa_cons (pe_tup (pa_cons pe_bl (pa_cons pe_int (pa_cons pe_int pa_nil)))) (pa_cons (pe_tup (pa_cons pe_int (pa_cons (pe_op op_add (pe_op op_pow pe_int pe_int) pe_int) (pa_cons pe_int pa_nil)))) (pa_cons pe_dnewK (pa_cons pe_str pa_nil))))))))))))
       (pss_cons (ps_for PassesOwn.never rfl (pi_list (pv 2)) (pg_name (i := 5) nd rfl (Or.inr rfl)) (pss_one (ps_if (pt_cmpR (op_neD hr.units) (pe_lamc (T := LT L) (TT := TTsaid K L g0) (c := L.k__law_others_right) (P := L.t__law_others_right) (k := 8) T.d__law_said sc_wsaid rfl (Or.inl rfl) (fun _ => said_gives T (hr.mono (by decide)) (by exact hgd)) B.b__law_others_right rfl (lt_mem_wothersright T) (lt_one_wothersright T) (hr.mono (by decide)) (LamX.lamS_by (sc := defScope st__law_others_right) (by decide +kernel)) rfl (fun _ _ _ _ _ => rfl) (fun A outer s H E f c2 hr => by exact (pe_cX (U.ok_logof (P := P) (w := w) (base := base) T) (hr.mono (by decide)) rfl (fun σ => passAt (takes_of rfl rfl rfl rfl) σ) (pa_cons (pv 5) (pa_cons pe_non pa_nil))))) (pe_tup (pa_cons pe_str (pa_cons pe_str (pa_cons (pe_un un_neg pe_int) pa_nil)))) (nomark _)) (pss_one (ps_ret pe_bl)) pss_nil)))
       (pss_cons (ps_set (i := 3) nd rfl (Or.inl rfl) (pe_lst (pa_cons (pe_tup (pa_cons pe_non (pa_cons (pe_un un_neg pe_int) pa_nil))) (pa_cons (pe_tup (pa_cons (pe_tup (pa_cons pe_int (pa_cons pe_int pa_nil))) (pa_cons (pe_un un_neg pe_int) pa_nil))) (pa_cons (pe_tup (pa_cons pe_dnewK (pa_cons (pe_un un_neg pe_int) pa_nil))) (pa_cons (pe_tup (pa_cons (pe_listRg rfl (by rfl) T.b_list (prg_1 (by rfl) T.b_range pe_int)) (pa_cons (pe_un un_neg pe_int) pa_nil))) (pa_cons (pe_tup (pa_cons (pe_lst (pa_cons (pe_un un_neg pe_int) pa_nil)) (pa_cons pe_int pa_nil))) (pa_cons (pe_tup (pa_cons (pe_lst (pa_cons pe_int (pa_cons pe_int pa_nil))) (pa_cons pe_int pa_nil))) (pa_cons (pe_tup (pa_cons (pe_lst (pa_cons pe_int (pa_cons pe_int (pa_cons pe_int pa_nil)))) (pa_cons pe_int pa_nil))) pa_nil)))))))))
       (pss_cons (ps_for PassesOwn.never rfl (pi_list (pe_op op_cat (pv 3) (pe_lst (pa_cons (pe_tup (pa_cons (pe_lst (pa_cons pe_bl pa_nil)) (pa_cons pe_int pa_nil))) (pa_cons (pe_tup (pa_cons (pe_lst (pa_cons pe_int (pa_cons pe_str pa_nil))) (pa_cons pe_int pa_nil))) (pa_cons (pe_tup (pa_cons (pe_lst (pa_cons pe_int (pa_cons (pe_lst (pa_cons pe_int pa_nil)) pa_nil))) (pa_cons pe_int pa_nil))) (pa_cons (pe_tup (pa_cons (pe_lst (pa_cons pe_non pa_nil)) (pa_cons pe_int pa_nil))) (pa_cons (pe_tup (pa_cons (pe_lst (pa_cons pe_dnewK pa_nil)) (pa_cons pe_int pa_nil))) pa_nil)))))))) (pg_tup rfl (pgs_cons (pg_name (i := 5) nd rfl (Or.inr rfl)) (pgs_cons (pg_name (i := 4) nd rfl (Or.inl rfl)) pgs_nil))) (pss_one (ps_if (pt_cmpR (op_neD hr.units) (pe_lamc (T := LT L) (TT := TTsaid K L g0) (c := L.k__law_others_right) (P := L.t__law_others_right) (k := 8) T.d__law_said sc_wsaid rfl (Or.inl rfl) (fun _ => said_gives T (hr.mono (by decide)) (by exact hgd)) B.b__law_others_right rfl (lt_mem_wothersright T) (lt_one_wothersright T) (hr.mono (by decide)) (LamX.lamS_by (sc := defScope st__law_others_right) (by decide +kernel)) rfl (fun _ _ _ _ _ => rfl) (fun A outer s H E f c2 hr => by exact (pe_cX (U.ok_logof (P := P) (w := w) (base := base) T) (hr.mono (by decide)) rfl (fun σ => passAt (takes_of rfl rfl rfl rfl) σ) (pa_cons (pe_tup (pa_cons pe_int (pa_cons pe_int (pa_cons pe_int pa_nil)))) (pa_cons (pv 5) pa_nil))))) (pe_tup (pa_cons pe_str (pa_cons (pv 4) pa_nil))) (nomark _)) (pss_one (ps_ret pe_bl)) pss_nil)))
       (pss_cons (ps_for PassesOwn.never rfl (pi_list (pe_lst (pa_cons (pv 1) (pa_cons (pe_op op_sub (pv 1) pe_int) (pa_cons (pe_un un_neg pe_int) (pa_cons pe_bl (pa_cons pe_non (pa_cons pe_str (pa_cons (pe_lst (pa_cons pe_int pa_nil)) (pa_cons pe_dnewK pa_nil)))))))))) (pg_name (i := 5) nd rfl (Or.inr rfl)) (pss_cons (ps_if (pt_cmpR (op_neD hr.units) (pe_lamc (T := LT L) (TT := TTsaid K L g0) (c := L.k__law_others_right) (P := L.t__law_others_right) (k := 8) T.d__law_said sc_wsaid rfl (Or.inl rfl) (fun _ => said_gives T (hr.mono (by decide)) (by exact hgd)) B.b__law_others_right rfl (lt_mem_wothersright T) (lt_one_wothersright T) (hr.mono (by decide)) (LamX.lamS_by (sc := defScope st__law_others_right) (by decide +kernel)) rfl (fun _ _ _ _ _ => rfl) (fun A outer s H E f c2 hr => by exact (pe_cX (U.ok_forecast (P := P) (w := w) (base := base) T) (hr.mono (by decide)) rfl (fun σ => passAt (takes_of rfl rfl rfl rfl) σ) (pa_cons (pv 0) (pa_cons (pv 5) pa_nil))))) (pe_tup (pa_cons pe_str (pa_cons (pe_callB (call_reprG (g := g0) (by exact hgd) (by exact hr.units)) (by rfl) T.b_repr (by decide +kernel) (pa_cons (pv 5) pa_nil)) pa_nil))) (nomark _)) (pss_one (ps_ret pe_bl)) pss_nil)
       (pss_one (ps_if (PW.pt (pw_and (pt_cmpR (op_ni50 hr.units) (pv 5) (pe_tup (pa_cons (pv 1) (pa_cons (pe_op op_sub (pv 1) pe_int) pa_nil))) rfl) (pw_and1 (pt_cmpR (op_neD hr.units) (pe_lamc (T := LT L) (TT := TTsaid K L g0) (c := L.k__law_others_right) (P := L.t__law_others_right) (k := 8) T.d__law_said sc_wsaid rfl (Or.inl rfl) (fun _ => said_gives T (hr.mono (by decide)) (by exact hgd)) B.b__law_others_right rfl (lt_mem_wothersright T) (lt_one_wothersright T) (hr.mono (by decide)) (LamX.lamS_by (sc := defScope st__law_others_right) (by decide +kernel)) rfl (fun _ _ _ _ _ => rfl) (fun A outer s H E f c2 hr => by exact (pe_cX (U.ok_forecast (P := P) (w := w) (base := base) T) (hr.mono (by decide)) rfl (fun σ => passAt (takes_of rfl rfl rfl rfl) σ) (pa_cons (pe_lst pa_nil) (pa_cons (pv 5) pa_nil))))) (pe_tup (pa_cons pe_str (pa_cons (pe_callB (call_reprG (g := g0) (by exact hgd) (by exact hr.units)) (by rfl) T.b_repr (by decide +kernel) (pa_cons (pv 5) pa_nil)) pa_nil))) (nomark _))))) (pss_one (ps_ret pe_bl)) pss_nil))))
       (pss_cons (ps_set (i := 3) nd rfl (Or.inl rfl) (pe_lst (pa_cons (pe_tup (pa_cons pe_non (pa_cons (pe_un un_neg pe_int) pa_nil))) (pa_cons (pe_tup (pa_cons (pe_lst pa_nil) (pa_cons (pe_un un_neg pe_int) pa_nil))) (pa_cons (pe_tup (pa_cons (pe_tup (pa_cons pe_int (pa_cons pe_int pa_nil))) (pa_cons (pe_un un_neg pe_int) pa_nil))) (pa_cons (pe_tup (pa_cons (pe_op op_rep (pe_lst (pa_cons pe_int pa_nil)) pe_int) (pa_cons (pe_un un_neg pe_int) pa_nil))) (pa_cons (pe_tup (pa_cons pe_dnewK (pa_cons (pe_un un_neg pe_int) pa_nil))) (pa_cons (pe_tup (pa_cons (pe_lst (pa_cons pe_int pa_nil)) (pa_cons pe_int pa_nil))) (pa_cons (pe_tup (pa_cons (pe_lst (pa_cons pe_int (pa_cons pe_int pa_nil))) (pa_cons pe_int pa_nil))) (pa_cons (pe_tup (pa_cons (pe_lst (pa_cons pe_bl pa_nil)) (pa_cons pe_int pa_nil))) pa_nil))))))))))
       (pss_cons (ps_set (i := 3) nd rfl (Or.inl rfl) (pe_op op_cat (pv 3) (pe_lst (pa_cons (pe_tup (pa_cons (pe_lst (pa_cons pe_int (pa_cons pe_bl pa_nil))) (pa_cons pe_int pa_nil))) (pa_cons (pe_tup (pa_cons (pe_lst (pa_cons pe_int (pa_cons pe_str pa_nil))) (pa_cons pe_int pa_nil))) (pa_cons (pe_tup (pa_cons (pe_lst (pa_cons pe_int (pa_cons pe_int (pa_cons (pe_lst (pa_cons pe_int pa_nil)) pa_nil)))) (pa_cons pe_int pa_nil))) (pa_cons (pe_tup (pa_cons (pe_lst (pa_cons pe_int (pa_cons pe_int (pa_cons pe_int (pa_cons pe_int pa_nil))))) (pa_cons pe_int pa_nil))) (pa_cons (pe_tup (pa_cons (pe_lst (pa_cons pe_non pa_nil)) (pa_cons pe_int pa_nil))) (pa_cons (pe_tup (pa_cons (pe_lst (pa_cons pe_int (pa_cons pe_int pa_nil))) (pa_cons pe_int pa_nil))) pa_nil)))))))))
       (pss_cons (ps_for PassesOwn.never rfl (pi_list (pe_op op_cat (pv 3) (pe_lst (pa_cons (pe_tup (pa_cons (pe_lst (pa_cons (pe_un un_neg pe_int) pa_nil)) (pa_cons pe_int pa_nil))) pa_nil)))) (pg_tup rfl (pgs_cons (pg_name (i := 5) nd rfl (Or.inr rfl)) (pgs_cons (pg_name (i := 4) nd rfl (Or.inl rfl)) pgs_nil))) (pss_one (ps_if (pt_cmpR (op_neD hr.units) (pe_lamc (T := LT L) (TT := TTsaid K L g0) (c := L.k__law_others_right) (P := L.t__law_others_right) (k := 8) T.d__law_said sc_wsaid rfl (Or.inl rfl) (fun _ => said_gives T (hr.mono (by decide)) (by exact hgd)) B.b__law_others_right rfl (lt_mem_wothersright T) (lt_one_wothersright T) (hr.mono (by decide)) (LamX.lamS_by (sc := defScope st__law_others_right) (by decide +kernel)) rfl (fun _ _ _ _ _ => rfl) (fun A outer s H E f c2 hr => by exact (pe_cX (U.ok_waitsof (P := P) (w := w) (base := base) T) (hr.mono (by decide)) rfl (fun σ => passAt (takes_of rfl rfl rfl rfl) σ) (pa_cons (pv 5) pa_nil)))) (pe_tup (pa_cons pe_str (pa_cons (pv 4) pa_nil))) (nomark _)) (pss_one (ps_ret pe_bl)) pss_nil)))
       (pss_one (ps_ret pe_bl)))))))))), ?_⟩
    have e30 : (10 : Int) ^ (30 : Int).toNat = 1000000000000000000000000000000 := by decide +kernel
    have cp : CPow 10 30 := ⟨by decide, by decide, by decide⟩
    obtain ⟨HA0, hHA0⟩ : ∃ HA0, HA0 = H := ⟨_, rfl⟩
    rw [← hHA0] at hsa hsx tabs k ⊢
    clear hHA0
    refine ⟨(by show 2 ≤ sizeLine; decide), fun ua1 un1 => ?_⟩
    have us1 := Same.upd (o := .tup [.int 1, .int 1]) un1
    have ue1 : upd HA0 ua1 (.tup [.int 1, .int 1]) ua1 = some (.tup [.int 1, .int 1]) := upd_same
    generalize upd HA0 ua1 (.tup [.int 1, .int 1]) = uH1 at us1 ue1 ⊢
    refine ⟨(by show 3 ≤ sizeLine; decide), fun ua2 un2 => ?_⟩
    have us2 := Same.upd (o := .tup [.int 0, .int 1, .int 1]) un2
    have ue2 : upd uH1 ua2 (.tup [.int 0, .int 1, .int 1]) ua2 = some (.tup [.int 0, .int 1, .int 1]) := upd_same
    generalize upd uH1 ua2 (.tup [.int 0, .int 1, .int 1]) = uH2 at us2 ue2 ⊢
    refine ⟨(by show 3 ≤ sizeLine; decide), fun ua3 un3 => ?_⟩
    have us3 := Same.upd (o := .tup [.int 1, .int 0, .int 1]) un3
    have ue3 : upd uH2 ua3 (.tup [.int 1, .int 0, .int 1]) ua3 = some (.tup [.int 1, .int 0, .int 1]) := upd_same
    generalize upd uH2 ua3 (.tup [.int 1, .int 0, .int 1]) = uH3 at us3 ue3 ⊢
    refine ⟨(by show 3 ≤ sizeLine; decide), fun ua4 un4 => ?_⟩
    have us4 := Same.upd (o := .tup [.int 1, .int 1, .int 0]) un4
    have ue4 : upd uH3 ua4 (.tup [.int 1, .int 1, .int 0]) ua4 = some (.tup [.int 1, .int 1, .int 0]) := upd_same
    generalize upd uH3 ua4 (.tup [.int 1, .int 1, .int 0]) = uH4 at us4 ue4 ⊢
    refine ⟨(by show 3 ≤ sizeLine; decide), fun ua5 un5 => ?_⟩
    have us5 := Same.upd (o := .lst [.int 1, .int 1, .int 1]) un5
    have ue5 : upd uH4 ua5 (.lst [.int 1, .int 1, .int 1]) ua5 = some (.lst [.int 1, .int 1, .int 1]) := upd_same
    generalize upd uH4 ua5 (.lst [.int 1, .int 1, .int 1]) = uH5 at us5 ue5 ⊢
    refine ⟨(by show 3 ≤ sizeLine; decide), fun ua6 un6 => ?_⟩
    have us6 := Same.upd (o := .tup [.bl true, .int 1, .int 1]) un6
    have ue6 : upd uH5 ua6 (.tup [.bl true, .int 1, .int 1]) ua6 = some (.tup [.bl true, .int 1, .int 1]) := upd_same
    generalize upd uH5 ua6 (.tup [.bl true, .int 1, .int 1]) = uH6 at us6 ue6 ⊢
    refine ⟨_, _, rfl, rfl, cp, _, _, rfl, rfl, (by show 3 ≤ sizeLine; decide), fun ua7 un7 => ?_⟩
    have us7 := Same.upd (o := .tup [.int 1, .int ((10 : Int) ^ (30 : Int).toNat + 1), .int 1]) un7
    have ue7 : upd uH6 ua7 (.tup [.int 1, .int ((10 : Int) ^ (30 : Int).toNat + 1), .int 1]) ua7 = some (.tup [.int 1, .int ((10 : Int) ^ (30 : Int).toNat + 1), .int 1]) := upd_same
    generalize upd uH6 ua7 (.tup [.int 1, .int ((10 : Int) ^ (30 : Int).toNat + 1), .int 1]) = uH7 at us7 ue7 ⊢
    refine fun ua8 un8 => ?_
    have us8 := Same.upd (o := .dK []) un8
    have ue8 : upd uH7 ua8 (.dK []) ua8 = some (.dK []) := upd_same
    generalize upd uH7 ua8 (.dK []) = uH8 at us8 ue8 ⊢
    refine ⟨(by show 10 ≤ sizeLine; decide), fun ua9 un9 => ?_⟩
    have us9 := Same.upd (o := .lst [(.non : V), (.ref ua1 : V), (.ref ua2 : V), (.ref ua3 : V), (.ref ua4 : V), (.ref ua5 : V), (.ref ua6 : V), (.ref ua7 : V), (.ref ua8 : V), (.str "b" : V)]) un9
    have ue9 : upd uH8 ua9 (.lst [(.non : V), (.ref ua1 : V), (.ref ua2 : V), (.ref ua3 : V), (.ref ua4 : V), (.ref ua5 : V), (.ref ua6 : V), (.ref ua7 : V), (.ref ua8 : V), (.str "b" : V)]) ua9 = some (.lst [(.non : V), (.ref ua1 : V), (.ref ua2 : V), (.ref ua3 : V), (.ref ua4 : V), (.ref ua5 : V), (.ref ua6 : V), (.ref ua7 : V), (.ref ua8 : V), (.str "b" : V)]) := upd_same
    generalize upd uH8 ua9 (.lst [(.non : V), (.ref ua1 : V), (.ref ua2 : V), (.ref ua3 : V), (.ref ua4 : V), (.ref ua5 : V), (.ref ua6 : V), (.ref ua7 : V), (.ref ua8 : V), (.str "b" : V)]) = uH9 at us9 ue9 ⊢
    have uS9 := Same.refl uH9
    have uS8 := us9.trans uS9
    have uS7 := us8.trans uS8
    have uS6 := us7.trans uS7
    have uS5 := us6.trans uS6
    have uS4 := us5.trans uS5
    have uS3 := us4.trans uS4
    have uS2 := us3.trans uS3
    have uS1 := us2.trans uS2
    have uS0 := us1.trans uS1
    have uE1 := uS1 _ _ ue1
    have uE2 := uS2 _ _ ue2
    have uE3 := uS3 _ _ ue3
    have uE4 := uS4 _ _ ue4
    have uE5 := uS5 _ _ ue5
    have uE6 := uS6 _ _ ue6
    have uE7 := uS7 _ _ ue7
    have uE8 := uS8 _ _ ue8
    have uE9 := uS9 _ _ ue9
    have g1 : ∀ x ∈ [(.non : V), (.ref ua1 : V), (.ref ua2 : V), (.ref ua3 : V), (.ref ua4 : V), (.ref ua5 : V), (.ref ua6 : V), (.ref ua7 : V), (.ref ua8 : V), (.str "b" : V)], NoBr uH9 x := fun x hx => by
      simp only [List.mem_cons, List.mem_nil_iff, or_false] at hx
      rcases hx with rfl | rfl | rfl | rfl | rfl | rfl | rfl | rfl | rfl | rfl
      · exact .kind .non (by decide)
      · exact .len uE1 (by decide)
      · exact .num uE2 (.int _) (.int _) (.int _) (by decide)
      · exact .num uE3 (.int _) (.int _) (.int _) (by decide)
      · exact .num uE4 (.int _) (.int _) (.int _) (by decide)
      · exact .kind (.lst uE5) (by decide)
      · exact .num uE6 (.bl _) (.int _) (.int _) (by decide)
      · exact .num uE7 (.int _) (.int _) (.int _) (by rw [e30]; decide)
      · exact .kind (.dK uE8) (by decide)
      · exact .kind (.str _) (by decide)
    generalize [(.non : V), (.ref ua1 : V), (.ref ua2 : V), (.ref ua3 : V), (.ref ua4 : V), (.ref ua5 : V), (.ref ua6 : V), (.ref ua7 : V), (.ref ua8 : V), (.str "b" : V)] = L1 at uE9 g1
    have exA := LamX.ExtN.of uS0
    have hsa := ExtN.lst exA hsa
    have hsx := Lgs.ext exA hsx
    have tabs := Tabs.nl tabs (NL.of uS0)
    have k : ∀ H', LamX.ExtN uH9 H' → LamX.Tabs (LT L) H' → Q (.bl true) H' := fun H' e t => k H' (exA.trans e) t
    refine ⟨_, rfl, ua9, rfl, ⟨_, SqL.of uE9⟩, for_list (K := K) (a := ua9) (xs := L1) (fun i σ Hx => ∃ v5 : Option V, σ = [some (.ref sa), some (.int 20), some (.ref ua9), none, none, v5] ∧ LamX.ExtN uH9 Hx ∧ LamX.Tabs (LT L) Hx) ⟨none, rfl, LamX.ExtN.refl _, tabs⟩ (fun i σ Hx _ ⟨_, _, ex, _⟩ => SqL.of (ExtN.lst ex uE9)) ?_ ?_⟩
    · rintro i x σ Hx hxi ⟨v5, rfl, ex, tx⟩
      have nx := (g1 x (List.mem_of_getElem? hxi)).ext ex
      refine ⟨tx, fun Hw exW txW E N hE hN => ⟨_, rfl, .inr ⟨x, .non, rfl, .inl ⟨nx.ext exW, said_row T hE fun p Hu hp su => ?_⟩⟩⟩⟩
      refine ⟨1, rfl, (by show 3 ≤ sizeLine; decide), fun q6 m6 => ?_⟩
      have S6 := Same.upd (o := .tup [.str "row", .str "breaker", .int (-1)]) m6
      refine ⟨rowD, rowD, dpRow (S6 _ _ hp), dpRow upd_same, shRow, shRow, ?_⟩
      rw [eqRow]
      exact ⟨_, rfl, iteF ⟨_, rfl, (ex.trans exW).trans (LamX.ExtN.of (su.trans S6)), Tabs.nl txW (NL.of (su.trans S6))⟩⟩
    rintro σ HB0 ⟨v5, rfl, exB, tabs⟩
    have hsa := ExtN.lst exB hsa
    have hsx := Lgs.ext exB hsx
    have k : ∀ H', LamX.ExtN HB0 H' → LamX.Tabs (LT L) H' → Q (.bl true) H' := fun H' e t => k H' (exB.trans e) t
    refine ⟨1, rfl, (by show 2 ≤ sizeLine; decide), fun va1 vn1 => ?_⟩
    have vs1 := Same.upd (o := .tup [.non, .int (-1)]) vn1
    have ve1 : upd HB0 va1 (.tup [.non, .int (-1)]) va1 = some (.tup [.non, .int (-1)]) := upd_same
    generalize upd HB0 va1 (.tup [.non, .int (-1)]) = vH1 at vs1 ve1 ⊢
    refine ⟨(by show 2 ≤ sizeLine; decide), fun va2 vn2 => ?_⟩
    have vs2 := Same.upd (o := .tup [.int 0, .int 1]) vn2
    have ve2 : upd vH1 va2 (.tup [.int 0, .int 1]) va2 = some (.tup [.int 0, .int 1]) := upd_same
    generalize upd vH1 va2 (.tup [.int 0, .int 1]) = vH2 at vs2 ve2 ⊢
    refine ⟨1, rfl, (by show 2 ≤ sizeLine; decide), fun va3 vn3 => ?_⟩
    have vs3 := Same.upd (o := .tup [.ref va2, .int (-1)]) vn3
    have ve3 : upd vH2 va3 (.tup [.ref va2, .int (-1)]) va3 = some (.tup [.ref va2, .int (-1)]) := upd_same
    generalize upd vH2 va3 (.tup [.ref va2, .int (-1)]) = vH3 at vs3 ve3 ⊢
    refine fun va4 vn4 => ?_
    have vs4 := Same.upd (o := .dK []) vn4
    have ve4 : upd vH3 va4 (.dK []) va4 = some (.dK []) := upd_same
    generalize upd vH3 va4 (.dK []) = vH4 at vs4 ve4 ⊢
    refine ⟨1, rfl, (by show 2 ≤ sizeLine; decide), fun va5 vn5 => ?_⟩
    have vs5 := Same.upd (o := .tup [.ref va4, .int (-1)]) vn5
    have ve5 : upd vH4 va5 (.tup [.ref va4, .int (-1)]) va5 = some (.tup [.ref va4, .int (-1)]) := upd_same
    generalize upd vH4 va5 (.tup [.ref va4, .int (-1)]) = vH5 at vs5 ve5 ⊢
    refine ⟨1001, rfl, (RgOk.of_le (by decide) (by decide) (by decide) (by decide)), fun va6 vn6 => ?_⟩
    have vs6 := Same.upd (o := .lst (rgV 0 1001)) vn6
    have ve6 : upd vH5 va6 (.lst (rgV 0 1001)) va6 = some (.lst (rgV 0 1001)) := upd_same
    generalize upd vH5 va6 (.lst (rgV 0 1001)) = vH6 at vs6 ve6 ⊢
    refine ⟨1, rfl, (by show 2 ≤ sizeLine; decide), fun va7 vn7 => ?_⟩
    have vs7 := Same.upd (o := .tup [.ref va6, .int (-1)]) vn7
    have ve7 : upd vH6 va7 (.tup [.ref va6, .int (-1)]) va7 = some (.tup [.ref va6, .int (-1)]) := upd_same
    generalize upd vH6 va7 (.tup [.ref va6, .int (-1)]) = vH7 at vs7 ve7 ⊢
    refine ⟨1, rfl, (by show 1 ≤ sizeLine; decide), fun va8 vn8 => ?_⟩
    have vs8 := Same.upd (o := .lst [.int (-1)]) vn8
    have ve8 : upd vH7 va8 (.lst [.int (-1)]) va8 = some (.lst [.int (-1)]) := upd_same
    generalize upd vH7 va8 (.lst [.int (-1)]) = vH8 at vs8 ve8 ⊢
    refine ⟨(by show 2 ≤ sizeLine; decide), fun va9 vn9 => ?_⟩
    have vs9 := Same.upd (o := .tup [.ref va8, .int 0]) vn9
    have ve9 : upd vH8 va9 (.tup [.ref va8, .int 0]) va9 = some (.tup [.ref va8, .int 0]) := upd_same
    generalize upd vH8 va9 (.tup [.ref va8, .int 0]) = vH9 at vs9 ve9 ⊢
    refine ⟨(by show 2 ≤ sizeLine; decide), fun va10 vn10 => ?_⟩
    have vs10 := Same.upd (o := .lst [.int 0, .int 0]) vn10
    have ve10 : upd vH9 va10 (.lst [.int 0, .int 0]) va10 = some (.lst [.int 0, .int 0]) := upd_same
    generalize upd vH9 va10 (.lst [.int 0, .int 0]) = vH10 at vs10 ve10 ⊢
    refine ⟨(by show 2 ≤ sizeLine; decide), fun va11 vn11 => ?_⟩
    have vs11 := Same.upd (o := .tup [.ref va10, .int 1]) vn11
    have ve11 : upd vH10 va11 (.tup [.ref va10, .int 1]) va11 = some (.tup [.ref va10, .int 1]) := upd_same
    generalize upd vH10 va11 (.tup [.ref va10, .int 1]) = vH11 at vs11 ve11 ⊢
    refine ⟨(by show 3 ≤ sizeLine; decide), fun va12 vn12 => ?_⟩
    have vs12 := Same.upd (o := .lst [.int 0, .int 2, .int 1]) vn12
    have ve12 : upd vH11 va12 (.lst [.int 0, .int 2, .int 1]) va12 = some (.lst [.int 0, .int 2, .int 1]) := upd_same
    generalize upd vH11 va12 (.lst [.int 0, .int 2, .int 1]) = vH12 at vs12 ve12 ⊢
    refine ⟨(by show 2 ≤ sizeLine; decide), fun va13 vn13 => ?_⟩
    have vs13 := Same.upd (o := .tup [.ref va12, .int 2]) vn13
    have ve13 : upd vH12 va13 (.tup [.ref va12, .int 2]) va13 = some (.tup [.ref va12, .int 2]) := upd_same
    generalize upd vH12 va13 (.tup [.ref va12, .int 2]) = vH13 at vs13 ve13 ⊢
    refine ⟨(by show 7 ≤ sizeLine; decide), fun va14 vn14 => ?_⟩
    have vs14 := Same.upd (o := .lst [(.ref va1 : V), (.ref va3 : V), (.ref va5 : V), (.ref va7 : V), (.ref va9 : V), (.ref va11 : V), (.ref va13 : V)]) vn14
    have ve14 : upd vH13 va14 (.lst [(.ref va1 : V), (.ref va3 : V), (.ref va5 : V), (.ref va7 : V), (.ref va9 : V), (.ref va11 : V), (.ref va13 : V)]) va14 = some (.lst [(.ref va1 : V), (.ref va3 : V), (.ref va5 : V), (.ref va7 : V), (.ref va9 : V), (.ref va11 : V), (.ref va13 : V)]) := upd_same
    generalize upd vH13 va14 (.lst [(.ref va1 : V), (.ref va3 : V), (.ref va5 : V), (.ref va7 : V), (.ref va9 : V), (.ref va11 : V), (.ref va13 : V)]) = vH14 at vs14 ve14 ⊢
    refine ⟨_, rfl, ?_⟩
    refine ⟨(by show 1 ≤ sizeLine; decide), fun va15 vn15 => ?_⟩
    have vs15 := Same.upd (o := .lst [.bl true]) vn15
    have ve15 : upd vH14 va15 (.lst [.bl true]) va15 = some (.lst [.bl true]) := upd_same
    generalize upd vH14 va15 (.lst [.bl true]) = vH15 at vs15 ve15 ⊢
    refine ⟨(by show 2 ≤ sizeLine; decide), fun va16 vn16 => ?_⟩
    have vs16 := Same.upd (o := .tup [.ref va15, .int 0]) vn16
    have ve16 : upd vH15 va16 (.tup [.ref va15, .int 0]) va16 = some (.tup [.ref va15, .int 0]) := upd_same
    generalize upd vH15 va16 (.tup [.ref va15, .int 0]) = vH16 at vs16 ve16 ⊢
    refine ⟨(by show 2 ≤ sizeLine; decide), fun va17 vn17 => ?_⟩
    have vs17 := Same.upd (o := .lst [.int 0, .str "1"]) vn17
    have ve17 : upd vH16 va17 (.lst [.int 0, .str "1"]) va17 = some (.lst [.int 0, .str "1"]) := upd_same
    generalize upd vH16 va17 (.lst [.int 0, .str "1"]) = vH17 at vs17 ve17 ⊢
    refine ⟨(by show 2 ≤ sizeLine; decide), fun va18 vn18 => ?_⟩
    have vs18 := Same.upd (o := .tup [.ref va17, .int 1]) vn18
    have ve18 : upd vH17 va18 (.tup [.ref va17, .int 1]) va18 = some (.tup [.ref va17, .int 1]) := upd_same
    generalize upd vH17 va18 (.tup [.ref va17, .int 1]) = vH18 at vs18 ve18 ⊢
    refine ⟨(by show 1 ≤ sizeLine; decide), fun va19 vn19 => ?_⟩
    have vs19 := Same.upd (o := .lst [.int 1]) vn19
    have ve19 : upd vH18 va19 (.lst [.int 1]) va19 = some (.lst [.int 1]) := upd_same
    generalize upd vH18 va19 (.lst [.int 1]) = vH19 at vs19 ve19 ⊢
    refine ⟨(by show 2 ≤ sizeLine; decide), fun va20 vn20 => ?_⟩
    have vs20 := Same.upd (o := .lst [.int 0, .ref va19]) vn20
    have ve20 : upd vH19 va20 (.lst [.int 0, .ref va19]) va20 = some (.lst [.int 0, .ref va19]) := upd_same
    generalize upd vH19 va20 (.lst [.int 0, .ref va19]) = vH20 at vs20 ve20 ⊢
    refine ⟨(by show 2 ≤ sizeLine; decide), fun va21 vn21 => ?_⟩
    have vs21 := Same.upd (o := .tup [.ref va20, .int 1]) vn21
    have ve21 : upd vH20 va21 (.tup [.ref va20, .int 1]) va21 = some (.tup [.ref va20, .int 1]) := upd_same
    generalize upd vH20 va21 (.tup [.ref va20, .int 1]) = vH21 at vs21 ve21 ⊢
    refine ⟨(by show 1 ≤ sizeLine; decide), fun va22 vn22 => ?_⟩
    have vs22 := Same.upd (o := .lst [.non]) vn22
    have ve22 : upd vH21 va22 (.lst [.non]) va22 = some (.lst [.non]) := upd_same
    generalize upd vH21 va22 (.lst [.non]) = vH22 at vs22 ve22 ⊢
    refine ⟨(by show 2 ≤ sizeLine; decide), fun va23 vn23 => ?_⟩
    have vs23 := Same.upd (o := .tup [.ref va22, .int 0]) vn23
    have ve23 : upd vH22 va23 (.tup [.ref va22, .int 0]) va23 = some (.tup [.ref va22, .int 0]) := upd_same
    generalize upd vH22 va23 (.tup [.ref va22, .int 0]) = vH23 at vs23 ve23 ⊢
    refine fun va24 vn24 => ?_
    have vs24 := Same.upd (o := .dK []) vn24
    have ve24 : upd vH23 va24 (.dK []) va24 = some (.dK []) := upd_same
    generalize upd vH23 va24 (.dK []) = vH24 at vs24 ve24 ⊢
    refine ⟨(by show 1 ≤ sizeLine; decide), fun va25 vn25 => ?_⟩
    have vs25 := Same.upd (o := .lst [.ref va24]) vn25
    have ve25 : upd vH24 va25 (.lst [.ref va24]) va25 = some (.lst [.ref va24]) := upd_same
    generalize upd vH24 va25 (.lst [.ref va24]) = vH25 at vs25 ve25 ⊢
    refine ⟨(by show 2 ≤ sizeLine; decide), fun va26 vn26 => ?_⟩
    have vs26 := Same.upd (o := .tup [.ref va25, .int 0]) vn26
    have ve26 : upd vH25 va26 (.tup [.ref va25, .int 0]) va26 = some (.tup [.ref va25, .int 0]) := upd_same
    generalize upd vH25 va26 (.tup [.ref va25, .int 0]) = vH26 at vs26 ve26 ⊢
    refine ⟨(by show 5 ≤ sizeLine; decide), fun va27 vn27 => ?_⟩
    have vs27 := Same.upd (o := .lst [(.ref va16 : V), (.ref va18 : V), (.ref va21 : V), (.ref va23 : V), (.ref va26 : V)]) vn27
    have ve27 : upd vH26 va27 (.lst [(.ref va16 : V), (.ref va18 : V), (.ref va21 : V), (.ref va23 : V), (.ref va26 : V)]) va27 = some (.lst [(.ref va16 : V), (.ref va18 : V), (.ref va21 : V), (.ref va23 : V), (.ref va26 : V)]) := upd_same
    generalize upd vH26 va27 (.lst [(.ref va16 : V), (.ref va18 : V), (.ref va21 : V), (.ref va23 : V), (.ref va26 : V)]) = vH27 at vs27 ve27 ⊢
    refine ⟨va14, va27, _, _, rfl, rfl, (vs27 _ _ (vs26 _ _ (vs25 _ _ (vs24 _ _ (vs23 _ _ (vs22 _ _ (vs21 _ _ (vs20 _ _ (vs19 _ _ (vs18 _ _ (vs17 _ _ (vs16 _ _ (vs15 _ _ ve14))))))))))))), ve27, (by show 12 ≤ sizeLine; decide), fun va28 vn28 => ?_⟩
    have vs28 := Same.upd (o := .lst ([(.ref va1 : V), (.ref va3 : V), (.ref va5 : V), (.ref va7 : V), (.ref va9 : V), (.ref va11 : V), (.ref va13 : V)] ++ [(.ref va16 : V), (.ref va18 : V), (.ref va21 : V), (.ref va23 : V), (.ref va26 : V)])) vn28
    have ve28 : upd vH27 va28 (.lst ([(.ref va1 : V), (.ref va3 : V), (.ref va5 : V), (.ref va7 : V), (.ref va9 : V), (.ref va11 : V), (.ref va13 : V)] ++ [(.ref va16 : V), (.ref va18 : V), (.ref va21 : V), (.ref va23 : V), (.ref va26 : V)])) va28 = some (.lst ([(.ref va1 : V), (.ref va3 : V), (.ref va5 : V), (.ref va7 : V), (.ref va9 : V), (.ref va11 : V), (.ref va13 : V)] ++ [(.ref va16 : V), (.ref va18 : V), (.ref va21 : V), (.ref va23 : V), (.ref va26 : V)])) := upd_same
    generalize upd vH27 va28 (.lst ([(.ref va1 : V), (.ref va3 : V), (.ref va5 : V), (.ref va7 : V), (.ref va9 : V), (.ref va11 : V), (.ref va13 : V)] ++ [(.ref va16 : V), (.ref va18 : V), (.ref va21 : V), (.ref va23 : V), (.ref va26 : V)])) = vH28 at vs28 ve28 ⊢
    have vS28 := Same.refl vH28
    have vS27 := vs28.trans vS28
    have vS26 := vs27.trans vS27
    have vS25 := vs26.trans vS26
    have vS24 := vs25.trans vS25
    have vS23 := vs24.trans vS24
    have vS22 := vs23.trans vS23
    have vS21 := vs22.trans vS22
    have vS20 := vs21.trans vS21
    have vS19 := vs20.trans vS20
    have vS18 := vs19.trans vS19
    have vS17 := vs18.trans vS18
    have vS16 := vs17.trans vS17
    have vS15 := vs16.trans vS16
    have vS14 := vs15.trans vS15
    have vS13 := vs14.trans vS14
    have vS12 := vs13.trans vS13
    have vS11 := vs12.trans vS12
    have vS10 := vs11.trans vS11
    have vS9 := vs10.trans vS10
    have vS8 := vs9.trans vS9
    have vS7 := vs8.trans vS8
    have vS6 := vs7.trans vS7
    have vS5 := vs6.trans vS6
    have vS4 := vs5.trans vS5
    have vS3 := vs4.trans vS4
    have vS2 := vs3.trans vS3
    have vS1 := vs2.trans vS2
    have vS0 := vs1.trans vS1
    have vE1 := vS1 _ _ ve1
    have vE2 := vS2 _ _ ve2
    have vE3 := vS3 _ _ ve3
    have vE4 := vS4 _ _ ve4
    have vE5 := vS5 _ _ ve5
    have vE6 := vS6 _ _ ve6
    have vE7 := vS7 _ _ ve7
    have vE8 := vS8 _ _ ve8
    have vE9 := vS9 _ _ ve9
    have vE10 := vS10 _ _ ve10
    have vE11 := vS11 _ _ ve11
    have vE12 := vS12 _ _ ve12
    have vE13 := vS13 _ _ ve13
    have vE14 := vS14 _ _ ve14
    have vE15 := vS15 _ _ ve15
    have vE16 := vS16 _ _ ve16
    have vE17 := vS17 _ _ ve17
    have vE18 := vS18 _ _ ve18
    have vE19 := vS19 _ _ ve19
    have vE20 := vS20 _ _ ve20
    have vE21 := vS21 _ _ ve21
    have vE22 := vS22 _ _ ve22
    have vE23 := vS23 _ _ ve23
    have vE24 := vS24 _ _ ve24
    have vE25 := vS25 _ _ ve25
    have vE26 := vS26 _ _ ve26
    have vE27 := vS27 _ _ ve27
    have vE28 := vS28 _ _ ve28
    have g2 : ∀ x ∈ [(.ref va1 : V), (.ref va3 : V), (.ref va5 : V), (.ref va7 : V), (.ref va9 : V), (.ref va11 : V), (.ref va13 : V), (.ref va16 : V), (.ref va18 : V), (.ref va21 : V), (.ref va23 : V), (.ref va26 : V)], RowP TmsBad vH28 x := fun x hx => by
      simp only [List.mem_cons, List.mem_nil_iff, or_false] at hx
      rcases hx with rfl | rfl | rfl | rfl | rfl | rfl | rfl | rfl | rfl | rfl | rfl | rfl
      · exact (⟨va1, .non, -1, rfl, vE1, (.kind .non (by decide) : TmsBad vH28 (.non) (-1))⟩ : RowP TmsBad vH28 (.ref va1))
      · exact (⟨va3, .ref va2, -1, rfl, vE3, (.kind (.tup vE2) (by decide) : TmsBad vH28 (.ref va2) (-1))⟩ : RowP TmsBad vH28 (.ref va3))
      · exact (⟨va5, .ref va4, -1, rfl, vE5, (.kind (.dK vE4) (by decide) : TmsBad vH28 (.ref va4) (-1))⟩ : RowP TmsBad vH28 (.ref va5))
      · exact (⟨va7, .ref va6, -1, rfl, vE7, (.many vE6 (by rw [rgV_length]; decide) : TmsBad vH28 (.ref va6) (-1))⟩ : RowP TmsBad vH28 (.ref va7))
      · exact (⟨va9, .ref va8, 0, rfl, vE9, (.item (ns := []) (post := []) vE8 (by simp [Asc]) (Nat.le_of_ble_eq_true rfl) (.int _) (by decide) : TmsBad vH28 (.ref va8) (0))⟩ : RowP TmsBad vH28 (.ref va9))
      · exact (⟨va11, .ref va10, 1, rfl, vE11, (.item (ns := [0]) (post := []) vE10 (by simp [Asc]) (Nat.le_of_ble_eq_true rfl) (.int _) (by decide) : TmsBad vH28 (.ref va10) (1))⟩ : RowP TmsBad vH28 (.ref va11))
      · exact (⟨va13, .ref va12, 2, rfl, vE13, (.item (ns := [0, 2]) (post := []) vE12 (by simp [Asc]) (Nat.le_of_ble_eq_true rfl) (.int _) (by decide) : TmsBad vH28 (.ref va12) (2))⟩ : RowP TmsBad vH28 (.ref va13))
      · exact (⟨va16, .ref va15, 0, rfl, vE16, (.item (ns := []) (post := []) vE15 (by simp [Asc]) (Nat.le_of_ble_eq_true rfl) (.bl _) rfl : TmsBad vH28 (.ref va15) (0))⟩ : RowP TmsBad vH28 (.ref va16))
      · exact (⟨va18, .ref va17, 1, rfl, vE18, (.item (ns := [0]) (post := []) vE17 (by simp [Asc]) (Nat.le_of_ble_eq_true rfl) (.str _) rfl : TmsBad vH28 (.ref va17) (1))⟩ : RowP TmsBad vH28 (.ref va18))
      · exact (⟨va21, .ref va20, 1, rfl, vE21, (.item (ns := [0]) (post := []) vE20 (by simp [Asc]) (Nat.le_of_ble_eq_true rfl) (.lst vE19) rfl : TmsBad vH28 (.ref va20) (1))⟩ : RowP TmsBad vH28 (.ref va21))
      · exact (⟨va23, .ref va22, 0, rfl, vE23, (.item (ns := []) (post := []) vE22 (by simp [Asc]) (Nat.le_of_ble_eq_true rfl) .non rfl : TmsBad vH28 (.ref va22) (0))⟩ : RowP TmsBad vH28 (.ref va23))
      · exact (⟨va26, .ref va25, 0, rfl, vE26, (.item (ns := []) (post := []) vE25 (by simp [Asc]) (Nat.le_of_ble_eq_true rfl) (.dK vE24) rfl : TmsBad vH28 (.ref va25) (0))⟩ : RowP TmsBad vH28 (.ref va26))
    have vE28 : vH28 va28 = some (.lst [(.ref va1 : V), (.ref va3 : V), (.ref va5 : V), (.ref va7 : V), (.ref va9 : V), (.ref va11 : V), (.ref va13 : V), (.ref va16 : V), (.ref va18 : V), (.ref va21 : V), (.ref va23 : V), (.ref va26 : V)]) := vE28
    generalize [(.ref va1 : V), (.ref va3 : V), (.ref va5 : V), (.ref va7 : V), (.ref va9 : V), (.ref va11 : V), (.ref va13 : V), (.ref va16 : V), (.ref va18 : V), (.ref va21 : V), (.ref va23 : V), (.ref va26 : V)] = L2 at vE28 g2
    have exC := LamX.ExtN.of vS0
    have hsa := ExtN.lst exC hsa
    have hsx := Lgs.ext exC hsx
    have tabs := Tabs.nl tabs (NL.of vS0)
    have k : ∀ H', LamX.ExtN vH28 H' → LamX.Tabs (LT L) H' → Q (.bl true) H' := fun H' e t => k H' (exC.trans e) t
    refine ⟨va28, rfl, ⟨_, SqL.of vE28⟩, for_list (K := K) (a := va28) (xs := L2) (fun i σ Hx => ∃ v3 v4 v5 : Option V, σ = [some (.ref sa), some (.int 20), some (.ref ua9), v3, v4, v5] ∧ LamX.ExtN vH28 Hx ∧ LamX.Tabs (LT L) Hx) ⟨_, _, _, rfl, LamX.ExtN.refl _, tabs⟩ (fun i σ Hx _ ⟨_, _, _, _, ex, _⟩ => SqL.of (ExtN.lst ex vE28)) ?_ ?_⟩
    · rintro i x σ Hx hxi ⟨v3, v4, v5, rfl, ex, tx⟩
      obtain ⟨b, v, at_, rfl, eb, bad⟩ := RowP.ext (P := TmsBad) (fun _ _ _ _ => TmsBad.ext) (g2 x (List.mem_of_getElem? hxi)) ex
      refine ⟨b, _, rfl, SqT.of eb, rfl, _, _, rfl, _, _, rfl, rfl, ?_⟩
      refine ⟨tx, fun Hw exW txW E N hE hN => ⟨(by show 3 ≤ sizeLine; decide), fun q5 m5 => ⟨_, rfl, ?_⟩⟩⟩
      have S5 := Same.upd (o := .tup [.int 1, .int 1, .int 1]) m5
      have e5 := upd_same (H := Hw) (a := q5) (o := .tup [.int 1, .int 1, .int 1])
      generalize upd Hw q5 (.tup [.int 1, .int 1, .int 1]) = H5 at S5 e5 ⊢
      refine .inr ⟨.ref q5, v, rfl, .inr ⟨(1, 1, 1), at_, ⟨q5, rfl, e5⟩, ⟨by decide, by decide, by decide, by decide, by decide, by decide⟩, (bad.ext exW).same S5, said_log T hE fun p Hu hp su => ?_⟩⟩
      refine ⟨_, rfl, (by show 2 ≤ sizeLine; decide), fun q6 m6 => ?_⟩
      have S6 := Same.upd (o := .tup [.str "log", .int at_]) m6
      refine ⟨logD at_, logD at_, dpLog (S6 _ _ hp), dpLog upd_same, shLog _, shLog _, ?_⟩
      rw [eqLog]
      have st := (S5.trans su).trans S6
      exact ⟨_, rfl, iteF ⟨_, _, _, rfl, (ex.trans exW).trans (LamX.ExtN.of st), Tabs.nl txW (NL.of st)⟩⟩
    rintro σ HC0 ⟨v3, v4, v5, rfl, exC, tabs⟩
    have hsa := ExtN.lst exC hsa
    have hsx := Lgs.ext exC hsx
    have k : ∀ H', LamX.ExtN HC0 H' → LamX.Tabs (LT L) H' → Q (.bl true) H' := fun H' e t => k H' (exC.trans e) t
    refine ⟨_, rfl, _, rfl, _, _, rfl, rfl, 1, rfl, (by show 1 ≤ sizeLine; decide), fun ya1 yn1 => ?_⟩
    have ys1 := Same.upd (o := .lst [.int 9]) yn1
    have ye1 : upd HC0 ya1 (.lst [.int 9]) ya1 = some (.lst [.int 9]) := upd_same
    generalize upd HC0 ya1 (.lst [.int 9]) = yH1 at ys1 ye1 ⊢
    refine fun ya2 yn2 => ?_
    have ys2 := Same.upd (o := .dK []) yn2
    have ye2 : upd yH1 ya2 (.dK []) ya2 = some (.dK []) := upd_same
    generalize upd yH1 ya2 (.dK []) = yH2 at ys2 ye2 ⊢
    refine ⟨(by show 8 ≤ sizeLine; decide), fun ya3 yn3 => ?_⟩
    have ys3 := Same.upd (o := .lst [(.int 20 : V), (.int (20 - 1) : V), (.int (-1) : V), (.bl true : V), (.non : V), (.str "9" : V), (.ref ya1 : V), (.ref ya2 : V)]) yn3
    have ye3 : upd yH2 ya3 (.lst [(.int 20 : V), (.int (20 - 1) : V), (.int (-1) : V), (.bl true : V), (.non : V), (.str "9" : V), (.ref ya1 : V), (.ref ya2 : V)]) ya3 = some (.lst [(.int 20 : V), (.int (20 - 1) : V), (.int (-1) : V), (.bl true : V), (.non : V), (.str "9" : V), (.ref ya1 : V), (.ref ya2 : V)]) := upd_same
    generalize upd yH2 ya3 (.lst [(.int 20 : V), (.int (20 - 1) : V), (.int (-1) : V), (.bl true : V), (.non : V), (.str "9" : V), (.ref ya1 : V), (.ref ya2 : V)]) = yH3 at ys3 ye3 ⊢
    have yS3 := Same.refl yH3
    have yS2 := ys3.trans yS3
    have yS1 := ys2.trans yS2
    have yS0 := ys1.trans yS1
    have yE1 := yS1 _ _ ye1
    have yE2 := yS2 _ _ ye2
    have yE3 := yS3 _ _ ye3
    have g3 : ∀ x ∈ [(.int 20 : V), (.int (20 - 1) : V), (.int (-1) : V), (.bl true : V), (.non : V), (.str "9" : V), (.ref ya1 : V), (.ref ya2 : V)], OddTm g0 yH3 x := fun x hx => by
      simp only [List.mem_cons, List.mem_nil_iff, or_false] at hx
      rcases hx with rfl | rfl | rfl | rfl | rfl | rfl | rfl | rfl
      · exact ⟨_, _, .int _, .plain (.int _ (by decide +kernel)), by decide +kernel, by decide, .inl ⟨rfl, .inl (by decide)⟩⟩
      · exact ⟨_, _, .int _, .plain (.int _ (by decide +kernel)), by decide +kernel, by decide, .inl ⟨rfl, .inl (by decide)⟩⟩
      · exact ⟨_, _, .int _, .plain (.int _ (by decide +kernel)), by decide +kernel, by decide, .inl ⟨rfl, .inr ⟨by decide, by decide⟩⟩⟩
      · exact ⟨_, _, .bl _, .plain (.bl _), by decide +kernel, rfl, .inl ⟨rfl, .inr ⟨by decide, by decide⟩⟩⟩
      · exact ⟨_, _, .non, .plain .non, by decide +kernel, rfl, .inl ⟨rfl, .inr ⟨by decide, by decide⟩⟩⟩
      · exact ⟨_, _, .str _, .plain (.str _ (by decide +kernel)), by decide +kernel, rfl, .inl ⟨rfl, .inr ⟨by decide, by decide⟩⟩⟩
      · exact ⟨_, _, .lst yE1, .lst yE1 (.cons (.int _ (by decide +kernel)) .nil) (by decide +kernel), strOk_ite (by decide +kernel) (by decide +kernel), rfl, .inr ⟨_, rfl, .inl ⟨_, yE1⟩⟩⟩
      · exact ⟨_, _, .dK yE2, .dic yE2, strOk_ite (by decide +kernel) (by decide +kernel), rfl, .inr ⟨_, rfl, .inr yE2⟩⟩
    generalize [(.int 20 : V), (.int (20 - 1) : V), (.int (-1) : V), (.bl true : V), (.non : V), (.str "9" : V), (.ref ya1 : V), (.ref ya2 : V)] = L3 at yE3 g3
    have exD := LamX.ExtN.of yS0
    have hsa := ExtN.lst exD hsa
    have hsx := Lgs.ext exD hsx
    have tabs := Tabs.nl tabs (NL.of yS0)
    have k : ∀ H', LamX.ExtN yH3 H' → LamX.Tabs (LT L) H' → Q (.bl true) H' := fun H' e t => k H' (exD.trans e) t
    refine ⟨ya3, rfl, ⟨_, SqL.of yE3⟩, for_list (K := K) (a := ya3) (xs := L3) (fun i σ Hx => ∃ v5 : Option V, σ = [some (.ref sa), some (.int 20), some (.ref ua9), v3, v4, v5] ∧ LamX.ExtN yH3 Hx ∧ LamX.Tabs (LT L) Hx) ⟨_, rfl, LamX.ExtN.refl _, tabs⟩ (fun i σ Hx _ ⟨_, _, ex, _⟩ => SqL.of (ExtN.lst ex yE3)) ?_ ?_⟩
    · rintro i x σ Hx hxi ⟨v5, rfl, ex, tx⟩
      obtain ⟨nm, z, kd, rz, zok, late, alt⟩ := (g3 x (List.mem_of_getElem? hxi)).ext ex
      refine ⟨tx, fun Hw exW txW E N hE hN => ⟨_, rfl, _, rfl, .inr ⟨_, x, rfl, .inr ⟨sa, sx, sp, nm, rfl, ExtN.lst (ex.trans exW) hsa, Lgs.ext (ex.trans exW) hsx, sok, kd.ext exW, by rw [stp]; exact late, said_time T hE (rz.mv fun b o _ e n => exW _ _ e n) fun p Hu hp su => ?_⟩⟩⟩⟩
      refine ⟨_, rfl, _, _, rfl, rz.mv fun b o _ e n => su _ _ (exW _ _ e n), (by show 2 ≤ sizeLine; decide), fun q6 m6 => ?_⟩
      have S6 := Same.upd (o := .tup [.str "time", .str z]) m6
      refine ⟨tmD z, tmD z, dpTm (S6 _ _ hp), dpTm upd_same, shTm zok, shTm zok, ?_⟩
      rw [eqTm zok]
      have ex2 := (ex.trans exW).trans (LamX.ExtN.of (su.trans S6))
      have ex3 := exW.trans (LamX.ExtN.of (su.trans S6))
      have tx2 := Tabs.nl txW (NL.of (su.trans S6))
      generalize upd Hu q6 (.tup [.str "time", .str z]) = Hy at ex2 ex3 tx2 ⊢
      refine ⟨_, rfl, iteF ?_⟩
      refine ⟨_, rfl, _, rfl, _, rfl, _, _, rfl, rfl, (by show 2 ≤ sizeLine; decide), fun q7 m7 => ?_⟩
      have S7 := Same.upd (o := .tup [.int 20, .int (20 - 1)]) m7
      have e7 := upd_same (H := Hy) (a := q7) (o := .tup [.int 20, .int (20 - 1)])
      have ex7 := ex3.trans (LamX.ExtN.of S7)
      have exx := ex2.trans (LamX.ExtN.of S7)
      have tx7 := Tabs.nl tx2 (NL.of S7)
      generalize upd Hy q7 (.tup [.int 20, .int (20 - 1)]) = H7 at e7 ex7 exx tx7 ⊢
      by_cases hin : flatV x = true ∧ inV x [.int 20, .int 19] = true
      · refine .inl ⟨q7, _, rfl, .inr (SqT.of e7), hin.1, rfl, _, rfl, ite2 (fun c => absurd c ?_) (fun _ => iteF ⟨_, rfl, exx, tx7⟩)⟩
        show ¬ ((!inV x [.int 20, .int 19]) = true)
        rw [hin.2]
        decide
      obtain ⟨neg, yes⟩ : (isI x && decide (0 ≤ toI x)) = false ∧ ∀ Q' : VK, Q' (.bl true) H7 → rNi50 K x (.ref q7) H7 Q' := by
        rcases alt with ⟨fx, h | ⟨nin, neg⟩⟩ | ⟨a, rfl, ha⟩
        · exact absurd ⟨fx, h⟩ hin
        · refine ⟨neg, fun Q' q => .inl ⟨q7, _, rfl, .inr (SqT.of e7), fx, rfl, ?_⟩⟩
          have e : (!inV x [.int 20, .int (20 - 1)]) = true := by
            show (!inV x [.int 20, .int 19]) = true
            rw [nin]
            rfl
          show Q' (.bl (!inV x [.int 20, .int (20 - 1)])) H7
          rw [e]
          exact q
        · refine ⟨rfl, fun Q' q => .inr ⟨a, q7, [20, 20 - 1], rfl, rfl, ?_, e7, q⟩⟩
          rcases ha with ⟨xs, h⟩ | h
          · exact .inl ⟨xs, ex7 _ _ h fun _ z => nomatch z⟩
          · exact .inr (ex7 _ _ h fun _ z => nomatch z)
      refine yes _ ⟨_, rfl, iteT ?_⟩
      refine ⟨tx7, fun Hv exV txV E N hE hN => ⟨(by show 0 ≤ sizeLine; decide), fun q8 m8 => ?_⟩⟩
      have S8 := Same.upd (o := .lst []) m8
      have e8 := upd_same (H := Hv) (a := q8) (o := .lst [])
      have ex8 := exV.trans (LamX.ExtN.of S8)
      have tx8 := Tabs.nl txV (NL.of S8)
      generalize upd Hv q8 (.lst []) = H8 at e8 ex8 tx8 ⊢
      have ex78 := ex7.trans ex8
      refine ⟨_, rfl, .inr ⟨_, x, rfl, .inr ⟨q8, [], [], nm, rfl, e8, .nil, ⟨trivial, by decide⟩, (kd.ext ex78), neg, said_time T hE (rz.mv fun b o _ e n => ex78 _ _ e n) fun p Hu hp su => ?_⟩⟩⟩
      refine ⟨_, rfl, _, _, rfl, rz.mv fun b o _ e n => su _ _ (ex78 _ _ e n), (by show 2 ≤ sizeLine; decide), fun q6 m6 => ?_⟩
      have S6 := Same.upd (o := .tup [.str "time", .str z]) m6
      refine ⟨tmD z, tmD z, dpTm (S6 _ _ hp), dpTm upd_same, shTm zok, shTm zok, ?_⟩
      rw [eqTm zok]
      exact ⟨_, rfl, iteF ⟨_, rfl, (exx.trans ex8).trans (LamX.ExtN.of (su.trans S6)), Tabs.nl tx8 (NL.of (su.trans S6))⟩⟩
    rintro σ HD0 ⟨v5, rfl, exD, tabs⟩
    have k : ∀ H', LamX.ExtN HD0 H' → LamX.Tabs (LT L) H' → Q (.bl true) H' := fun H' e t => k H' (exD.trans e) t
    refine ⟨1, rfl, (by show 2 ≤ sizeLine; decide), fun xa1 xn1 => ?_⟩
    have xs1 := Same.upd (o := .tup [.non, .int (-1)]) xn1
    have xe1 : upd HD0 xa1 (.tup [.non, .int (-1)]) xa1 = some (.tup [.non, .int (-1)]) := upd_same
    generalize upd HD0 xa1 (.tup [.non, .int (-1)]) = xH1 at xs1 xe1 ⊢
    refine ⟨(by show 0 ≤ sizeLine; decide), fun xa2 xn2 => ?_⟩
    have xs2 := Same.upd (o := .lst []) xn2
    have xe2 : upd xH1 xa2 (.lst []) xa2 = some (.lst []) := upd_same
    generalize upd xH1 xa2 (.lst []) = xH2 at xs2 xe2 ⊢
    refine ⟨1, rfl, (by show 2 ≤ sizeLine; decide), fun xa3 xn3 => ?_⟩
    have xs3 := Same.upd (o := .tup [.ref xa2, .int (-1)]) xn3
    have xe3 : upd xH2 xa3 (.tup [.ref xa2, .int (-1)]) xa3 = some (.tup [.ref xa2, .int (-1)]) := upd_same
    generalize upd xH2 xa3 (.tup [.ref xa2, .int (-1)]) = xH3 at xs3 xe3 ⊢
    refine ⟨(by show 2 ≤ sizeLine; decide), fun xa4 xn4 => ?_⟩
    have xs4 := Same.upd (o := .tup [.int 1, .int 3]) xn4
    have xe4 : upd xH3 xa4 (.tup [.int 1, .int 3]) xa4 = some (.tup [.int 1, .int 3]) := upd_same
    generalize upd xH3 xa4 (.tup [.int 1, .int 3]) = xH4 at xs4 xe4 ⊢
    refine ⟨1, rfl, (by show 2 ≤ sizeLine; decide), fun xa5 xn5 => ?_⟩
    have xs5 := Same.upd (o := .tup [.ref xa4, .int (-1)]) xn5
    have xe5 : upd xH4 xa5 (.tup [.ref xa4, .int (-1)]) xa5 = some (.tup [.ref xa4, .int (-1)]) := upd_same
    generalize upd xH4 xa5 (.tup [.ref xa4, .int (-1)]) = xH5 at xs5 xe5 ⊢
    refine ⟨(by show 1 ≤ sizeLine; decide), fun xa6 xn6 => ?_⟩
    have xs6 := Same.upd (o := .lst [.int 1]) xn6
    have xe6 : upd xH5 xa6 (.lst [.int 1]) xa6 = some (.lst [.int 1]) := upd_same
    generalize upd xH5 xa6 (.lst [.int 1]) = xH6 at xs6 xe6 ⊢
    refine ⟨xa6, 14, _, rfl, rfl, xe6, by decide, by decide, (by show 1 * 14 ≤ sizeLine; decide), fun xa7 xn7 => ?_⟩
    have xs7 := Same.upd (o := .lst (List.replicate (14 : Int).toNat [V.int 1]).flatten) xn7
    have xe7 : upd xH6 xa7 (.lst (List.replicate (14 : Int).toNat [V.int 1]).flatten) xa7 = some (.lst (List.replicate (14 : Int).toNat [V.int 1]).flatten) := upd_same
    generalize upd xH6 xa7 (.lst (List.replicate (14 : Int).toNat [V.int 1]).flatten) = xH7 at xs7 xe7 ⊢
    refine ⟨1, rfl, (by show 2 ≤ sizeLine; decide), fun xa8 xn8 => ?_⟩
    have xs8 := Same.upd (o := .tup [.ref xa7, .int (-1)]) xn8
    have xe8 : upd xH7 xa8 (.tup [.ref xa7, .int (-1)]) xa8 = some (.tup [.ref xa7, .int (-1)]) := upd_same
    generalize upd xH7 xa8 (.tup [.ref xa7, .int (-1)]) = xH8 at xs8 xe8 ⊢
    refine fun xa9 xn9 => ?_
    have xs9 := Same.upd (o := .dK []) xn9
    have xe9 : upd xH8 xa9 (.dK []) xa9 = some (.dK []) := upd_same
    generalize upd xH8 xa9 (.dK []) = xH9 at xs9 xe9 ⊢
    refine ⟨1, rfl, (by show 2 ≤ sizeLine; decide), fun xa10 xn10 => ?_⟩
    have xs10 := Same.upd (o := .tup [.ref xa9, .int (-1)]) xn10
    have xe10 : upd xH9 xa10 (.tup [.ref xa9, .int (-1)]) xa10 = some (.tup [.ref xa9, .int (-1)]) := upd_same
    generalize upd xH9 xa10 (.tup [.ref xa9, .int (-1)]) = xH10 at xs10 xe10 ⊢
    refine ⟨(by show 1 ≤ sizeLine; decide), fun xa11 xn11 => ?_⟩
    have xs11 := Same.upd (o := .lst [.int 0]) xn11
    have xe11 : upd xH10 xa11 (.lst [.int 0]) xa11 = some (.lst [.int 0]) := upd_same
    generalize upd xH10 xa11 (.lst [.int 0]) = xH11 at xs11 xe11 ⊢
    refine ⟨(by show 2 ≤ sizeLine; decide), fun xa12 xn12 => ?_⟩
    have xs12 := Same.upd (o := .tup [.ref xa11, .int 0]) xn12
    have xe12 : upd xH11 xa12 (.tup [.ref xa11, .int 0]) xa12 = some (.tup [.ref xa11, .int 0]) := upd_same
    generalize upd xH11 xa12 (.tup [.ref xa11, .int 0]) = xH12 at xs12 xe12 ⊢
    refine ⟨(by show 2 ≤ sizeLine; decide), fun xa13 xn13 => ?_⟩
    have xs13 := Same.upd (o := .lst [.int 1, .int 0]) xn13
    have xe13 : upd xH12 xa13 (.lst [.int 1, .int 0]) xa13 = some (.lst [.int 1, .int 0]) := upd_same
    generalize upd xH12 xa13 (.lst [.int 1, .int 0]) = xH13 at xs13 xe13 ⊢
    refine ⟨(by show 2 ≤ sizeLine; decide), fun xa14 xn14 => ?_⟩
    have xs14 := Same.upd (o := .tup [.ref xa13, .int 1]) xn14
    have xe14 : upd xH13 xa14 (.tup [.ref xa13, .int 1]) xa14 = some (.tup [.ref xa13, .int 1]) := upd_same
    generalize upd xH13 xa14 (.tup [.ref xa13, .int 1]) = xH14 at xs14 xe14 ⊢
    refine ⟨(by show 1 ≤ sizeLine; decide), fun xa15 xn15 => ?_⟩
    have xs15 := Same.upd (o := .lst [.bl true]) xn15
    have xe15 : upd xH14 xa15 (.lst [.bl true]) xa15 = some (.lst [.bl true]) := upd_same
    generalize upd xH14 xa15 (.lst [.bl true]) = xH15 at xs15 xe15 ⊢
    refine ⟨(by show 2 ≤ sizeLine; decide), fun xa16 xn16 => ?_⟩
    have xs16 := Same.upd (o := .tup [.ref xa15, .int 0]) xn16
    have xe16 : upd xH15 xa16 (.tup [.ref xa15, .int 0]) xa16 = some (.tup [.ref xa15, .int 0]) := upd_same
    generalize upd xH15 xa16 (.tup [.ref xa15, .int 0]) = xH16 at xs16 xe16 ⊢
    refine ⟨(by show 8 ≤ sizeLine; decide), fun xa17 xn17 => ?_⟩
    have xs17 := Same.upd (o := .lst [(.ref xa1 : V), (.ref xa3 : V), (.ref xa5 : V), (.ref xa8 : V), (.ref xa10 : V), (.ref xa12 : V), (.ref xa14 : V), (.ref xa16 : V)]) xn17
    have xe17 : upd xH16 xa17 (.lst [(.ref xa1 : V), (.ref xa3 : V), (.ref xa5 : V), (.ref xa8 : V), (.ref xa10 : V), (.ref xa12 : V), (.ref xa14 : V), (.ref xa16 : V)]) xa17 = some (.lst [(.ref xa1 : V), (.ref xa3 : V), (.ref xa5 : V), (.ref xa8 : V), (.ref xa10 : V), (.ref xa12 : V), (.ref xa14 : V), (.ref xa16 : V)]) := upd_same
    generalize upd xH16 xa17 (.lst [(.ref xa1 : V), (.ref xa3 : V), (.ref xa5 : V), (.ref xa8 : V), (.ref xa10 : V), (.ref xa12 : V), (.ref xa14 : V), (.ref xa16 : V)]) = xH17 at xs17 xe17 ⊢
    refine ⟨_, rfl, ?_⟩
    refine ⟨(by show 2 ≤ sizeLine; decide), fun xa18 xn18 => ?_⟩
    have xs18 := Same.upd (o := .lst [.int 1, .bl true]) xn18
    have xe18 : upd xH17 xa18 (.lst [.int 1, .bl true]) xa18 = some (.lst [.int 1, .bl true]) := upd_same
    generalize upd xH17 xa18 (.lst [.int 1, .bl true]) = xH18 at xs18 xe18 ⊢
    refine ⟨(by show 2 ≤ sizeLine; decide), fun xa19 xn19 => ?_⟩
    have xs19 := Same.upd (o := .tup [.ref xa18, .int 1]) xn19
    have xe19 : upd xH18 xa19 (.tup [.ref xa18, .int 1]) xa19 = some (.tup [.ref xa18, .int 1]) := upd_same
    generalize upd xH18 xa19 (.tup [.ref xa18, .int 1]) = xH19 at xs19 xe19 ⊢
    refine ⟨(by show 2 ≤ sizeLine; decide), fun xa20 xn20 => ?_⟩
    have xs20 := Same.upd (o := .lst [.int 1, .str "3"]) xn20
    have xe20 : upd xH19 xa20 (.lst [.int 1, .str "3"]) xa20 = some (.lst [.int 1, .str "3"]) := upd_same
    generalize upd xH19 xa20 (.lst [.int 1, .str "3"]) = xH20 at xs20 xe20 ⊢
    refine ⟨(by show 2 ≤ sizeLine; decide), fun xa21 xn21 => ?_⟩
    have xs21 := Same.upd (o := .tup [.ref xa20, .int 1]) xn21
    have xe21 : upd xH20 xa21 (.tup [.ref xa20, .int 1]) xa21 = some (.tup [.ref xa20, .int 1]) := upd_same
    generalize upd xH20 xa21 (.tup [.ref xa20, .int 1]) = xH21 at xs21 xe21 ⊢
    refine ⟨(by show 1 ≤ sizeLine; decide), fun xa22 xn22 => ?_⟩
    have xs22 := Same.upd (o := .lst [.int 6]) xn22
    have xe22 : upd xH21 xa22 (.lst [.int 6]) xa22 = some (.lst [.int 6]) := upd_same
    generalize upd xH21 xa22 (.lst [.int 6]) = xH22 at xs22 xe22 ⊢
    refine ⟨(by show 3 ≤ sizeLine; decide), fun xa23 xn23 => ?_⟩
    have xs23 := Same.upd (o := .lst [.int 1, .int 3, .ref xa22]) xn23
    have xe23 : upd xH22 xa23 (.lst [.int 1, .int 3, .ref xa22]) xa23 = some (.lst [.int 1, .int 3, .ref xa22]) := upd_same
    generalize upd xH22 xa23 (.lst [.int 1, .int 3, .ref xa22]) = xH23 at xs23 xe23 ⊢
    refine ⟨(by show 2 ≤ sizeLine; decide), fun xa24 xn24 => ?_⟩
    have xs24 := Same.upd (o := .tup [.ref xa23, .int 2]) xn24
    have xe24 : upd xH23 xa24 (.tup [.ref xa23, .int 2]) xa24 = some (.tup [.ref xa23, .int 2]) := upd_same
    generalize upd xH23 xa24 (.tup [.ref xa23, .int 2]) = xH24 at xs24 xe24 ⊢
    refine ⟨(by show 4 ≤ sizeLine; decide), fun xa25 xn25 => ?_⟩
    have xs25 := Same.upd (o := .lst [.int 1, .int 3, .int 7, .int 0]) xn25
    have xe25 : upd xH24 xa25 (.lst [.int 1, .int 3, .int 7, .int 0]) xa25 = some (.lst [.int 1, .int 3, .int 7, .int 0]) := upd_same
    generalize upd xH24 xa25 (.lst [.int 1, .int 3, .int 7, .int 0]) = xH25 at xs25 xe25 ⊢
    refine ⟨(by show 2 ≤ sizeLine; decide), fun xa26 xn26 => ?_⟩
    have xs26 := Same.upd (o := .tup [.ref xa25, .int 2]) xn26
    have xe26 : upd xH25 xa26 (.tup [.ref xa25, .int 2]) xa26 = some (.tup [.ref xa25, .int 2]) := upd_same
    generalize upd xH25 xa26 (.tup [.ref xa25, .int 2]) = xH26 at xs26 xe26 ⊢
    refine ⟨(by show 1 ≤ sizeLine; decide), fun xa27 xn27 => ?_⟩
    have xs27 := Same.upd (o := .lst [.non]) xn27
    have xe27 : upd xH26 xa27 (.lst [.non]) xa27 = some (.lst [.non]) := upd_same
    generalize upd xH26 xa27 (.lst [.non]) = xH27 at xs27 xe27 ⊢
    refine ⟨(by show 2 ≤ sizeLine; decide), fun xa28 xn28 => ?_⟩
    have xs28 := Same.upd (o := .tup [.ref xa27, .int 0]) xn28
    have xe28 : upd xH27 xa28 (.tup [.ref xa27, .int 0]) xa28 = some (.tup [.ref xa27, .int 0]) := upd_same
    generalize upd xH27 xa28 (.tup [.ref xa27, .int 0]) = xH28 at xs28 xe28 ⊢
    refine ⟨(by show 2 ≤ sizeLine; decide), fun xa29 xn29 => ?_⟩
    have xs29 := Same.upd (o := .lst [.int 4, .int 6]) xn29
    have xe29 : upd xH28 xa29 (.lst [.int 4, .int 6]) xa29 = some (.lst [.int 4, .int 6]) := upd_same
    generalize upd xH28 xa29 (.lst [.int 4, .int 6]) = xH29 at xs29 xe29 ⊢
    refine ⟨(by show 2 ≤ sizeLine; decide), fun xa30 xn30 => ?_⟩
    have xs30 := Same.upd (o := .tup [.ref xa29, .int 1]) xn30
    have xe30 : upd xH29 xa30 (.tup [.ref xa29, .int 1]) xa30 = some (.tup [.ref xa29, .int 1]) := upd_same
    generalize upd xH29 xa30 (.tup [.ref xa29, .int 1]) = xH30 at xs30 xe30 ⊢
    refine ⟨(by show 6 ≤ sizeLine; decide), fun xa31 xn31 => ?_⟩
    have xs31 := Same.upd (o := .lst [(.ref xa19 : V), (.ref xa21 : V), (.ref xa24 : V), (.ref xa26 : V), (.ref xa28 : V), (.ref xa30 : V)]) xn31
    have xe31 : upd xH30 xa31 (.lst [(.ref xa19 : V), (.ref xa21 : V), (.ref xa24 : V), (.ref xa26 : V), (.ref xa28 : V), (.ref xa30 : V)]) xa31 = some (.lst [(.ref xa19 : V), (.ref xa21 : V), (.ref xa24 : V), (.ref xa26 : V), (.ref xa28 : V), (.ref xa30 : V)]) := upd_same
    generalize upd xH30 xa31 (.lst [(.ref xa19 : V), (.ref xa21 : V), (.ref xa24 : V), (.ref xa26 : V), (.ref xa28 : V), (.ref xa30 : V)]) = xH31 at xs31 xe31 ⊢
    refine ⟨xa17, xa31, _, _, rfl, rfl, (xs31 _ _ (xs30 _ _ (xs29 _ _ (xs28 _ _ (xs27 _ _ (xs26 _ _ (xs25 _ _ (xs24 _ _ (xs23 _ _ (xs22 _ _ (xs21 _ _ (xs20 _ _ (xs19 _ _ (xs18 _ _ xe17)))))))))))))), xe31, (by show 14 ≤ sizeLine; decide), fun xa32 xn32 => ?_⟩
    have xs32 := Same.upd (o := .lst ([(.ref xa1 : V), (.ref xa3 : V), (.ref xa5 : V), (.ref xa8 : V), (.ref xa10 : V), (.ref xa12 : V), (.ref xa14 : V), (.ref xa16 : V)] ++ [(.ref xa19 : V), (.ref xa21 : V), (.ref xa24 : V), (.ref xa26 : V), (.ref xa28 : V), (.ref xa30 : V)])) xn32
    have xe32 : upd xH31 xa32 (.lst ([(.ref xa1 : V), (.ref xa3 : V), (.ref xa5 : V), (.ref xa8 : V), (.ref xa10 : V), (.ref xa12 : V), (.ref xa14 : V), (.ref xa16 : V)] ++ [(.ref xa19 : V), (.ref xa21 : V), (.ref xa24 : V), (.ref xa26 : V), (.ref xa28 : V), (.ref xa30 : V)])) xa32 = some (.lst ([(.ref xa1 : V), (.ref xa3 : V), (.ref xa5 : V), (.ref xa8 : V), (.ref xa10 : V), (.ref xa12 : V), (.ref xa14 : V), (.ref xa16 : V)] ++ [(.ref xa19 : V), (.ref xa21 : V), (.ref xa24 : V), (.ref xa26 : V), (.ref xa28 : V), (.ref xa30 : V)])) := upd_same
    generalize upd xH31 xa32 (.lst ([(.ref xa1 : V), (.ref xa3 : V), (.ref xa5 : V), (.ref xa8 : V), (.ref xa10 : V), (.ref xa12 : V), (.ref xa14 : V), (.ref xa16 : V)] ++ [(.ref xa19 : V), (.ref xa21 : V), (.ref xa24 : V), (.ref xa26 : V), (.ref xa28 : V), (.ref xa30 : V)])) = xH32 at xs32 xe32 ⊢
    refine ⟨_, rfl, ?_⟩
    refine ⟨1, rfl, (by show 1 ≤ sizeLine; decide), fun xa33 xn33 => ?_⟩
    have xs33 := Same.upd (o := .lst [.int (-1)]) xn33
    have xe33 : upd xH32 xa33 (.lst [.int (-1)]) xa33 = some (.lst [.int (-1)]) := upd_same
    generalize upd xH32 xa33 (.lst [.int (-1)]) = xH33 at xs33 xe33 ⊢
    refine ⟨(by show 2 ≤ sizeLine; decide), fun xa34 xn34 => ?_⟩
    have xs34 := Same.upd (o := .tup [.ref xa33, .int 0]) xn34
    have xe34 : upd xH33 xa34 (.tup [.ref xa33, .int 0]) xa34 = some (.tup [.ref xa33, .int 0]) := upd_same
    generalize upd xH33 xa34 (.tup [.ref xa33, .int 0]) = xH34 at xs34 xe34 ⊢
    refine ⟨(by show 1 ≤ sizeLine; decide), fun xa35 xn35 => ?_⟩
    have xs35 := Same.upd (o := .lst [(.ref xa34 : V)]) xn35
    have xe35 : upd xH34 xa35 (.lst [(.ref xa34 : V)]) xa35 = some (.lst [(.ref xa34 : V)]) := upd_same
    generalize upd xH34 xa35 (.lst [(.ref xa34 : V)]) = xH35 at xs35 xe35 ⊢
    refine ⟨xa32, xa35, _, _, rfl, rfl, (xs35 _ _ (xs34 _ _ (xs33 _ _ xe32))), xe35, (by show 15 ≤ sizeLine; decide), fun xa36 xn36 => ?_⟩
    have xs36 := Same.upd (o := .lst (([(.ref xa1 : V), (.ref xa3 : V), (.ref xa5 : V), (.ref xa8 : V), (.ref xa10 : V), (.ref xa12 : V), (.ref xa14 : V), (.ref xa16 : V)] ++ [(.ref xa19 : V), (.ref xa21 : V), (.ref xa24 : V), (.ref xa26 : V), (.ref xa28 : V), (.ref xa30 : V)]) ++ [(.ref xa34 : V)])) xn36
    have xe36 : upd xH35 xa36 (.lst (([(.ref xa1 : V), (.ref xa3 : V), (.ref xa5 : V), (.ref xa8 : V), (.ref xa10 : V), (.ref xa12 : V), (.ref xa14 : V), (.ref xa16 : V)] ++ [(.ref xa19 : V), (.ref xa21 : V), (.ref xa24 : V), (.ref xa26 : V), (.ref xa28 : V), (.ref xa30 : V)]) ++ [(.ref xa34 : V)])) xa36 = some (.lst (([(.ref xa1 : V), (.ref xa3 : V), (.ref xa5 : V), (.ref xa8 : V), (.ref xa10 : V), (.ref xa12 : V), (.ref xa14 : V), (.ref xa16 : V)] ++ [(.ref xa19 : V), (.ref xa21 : V), (.ref xa24 : V), (.ref xa26 : V), (.ref xa28 : V), (.ref xa30 : V)]) ++ [(.ref xa34 : V)])) := upd_same
    generalize upd xH35 xa36 (.lst (([(.ref xa1 : V), (.ref xa3 : V), (.ref xa5 : V), (.ref xa8 : V), (.ref xa10 : V), (.ref xa12 : V), (.ref xa14 : V), (.ref xa16 : V)] ++ [(.ref xa19 : V), (.ref xa21 : V), (.ref xa24 : V), (.ref xa26 : V), (.ref xa28 : V), (.ref xa30 : V)]) ++ [(.ref xa34 : V)])) = xH36 at xs36 xe36 ⊢
    have xS36 := Same.refl xH36
    have xS35 := xs36.trans xS36
    have xS34 := xs35.trans xS35
    have xS33 := xs34.trans xS34
    have xS32 := xs33.trans xS33
    have xS31 := xs32.trans xS32
    have xS30 := xs31.trans xS31
    have xS29 := xs30.trans xS30
    have xS28 := xs29.trans xS29
    have xS27 := xs28.trans xS28
    have xS26 := xs27.trans xS27
    have xS25 := xs26.trans xS26
    have xS24 := xs25.trans xS25
    have xS23 := xs24.trans xS24
    have xS22 := xs23.trans xS23
    have xS21 := xs22.trans xS22
    have xS20 := xs21.trans xS21
    have xS19 := xs20.trans xS20
    have xS18 := xs19.trans xS19
    have xS17 := xs18.trans xS18
    have xS16 := xs17.trans xS17
    have xS15 := xs16.trans xS16
    have xS14 := xs15.trans xS15
    have xS13 := xs14.trans xS14
    have xS12 := xs13.trans xS13
    have xS11 := xs12.trans xS12
    have xS10 := xs11.trans xS11
    have xS9 := xs10.trans xS10
    have xS8 := xs9.trans xS9
    have xS7 := xs8.trans xS8
    have xS6 := xs7.trans xS7
    have xS5 := xs6.trans xS6
    have xS4 := xs5.trans xS5
    have xS3 := xs4.trans xS4
    have xS2 := xs3.trans xS3
    have xS1 := xs2.trans xS2
    have xS0 := xs1.trans xS1
    have xE1 := xS1 _ _ xe1
    have xE2 := xS2 _ _ xe2
    have xE3 := xS3 _ _ xe3
    have xE4 := xS4 _ _ xe4
    have xE5 := xS5 _ _ xe5
    have xE6 := xS6 _ _ xe6
    have xE7 := xS7 _ _ xe7
    have xE8 := xS8 _ _ xe8
    have xE9 := xS9 _ _ xe9
    have xE10 := xS10 _ _ xe10
    have xE11 := xS11 _ _ xe11
    have xE12 := xS12 _ _ xe12
    have xE13 := xS13 _ _ xe13
    have xE14 := xS14 _ _ xe14
    have xE15 := xS15 _ _ xe15
    have xE16 := xS16 _ _ xe16
    have xE17 := xS17 _ _ xe17
    have xE18 := xS18 _ _ xe18
    have xE19 := xS19 _ _ xe19
    have xE20 := xS20 _ _ xe20
    have xE21 := xS21 _ _ xe21
    have xE22 := xS22 _ _ xe22
    have xE23 := xS23 _ _ xe23
    have xE24 := xS24 _ _ xe24
    have xE25 := xS25 _ _ xe25
    have xE26 := xS26 _ _ xe26
    have xE27 := xS27 _ _ xe27
    have xE28 := xS28 _ _ xe28
    have xE29 := xS29 _ _ xe29
    have xE30 := xS30 _ _ xe30
    have xE31 := xS31 _ _ xe31
    have xE32 := xS32 _ _ xe32
    have xE33 := xS33 _ _ xe33
    have xE34 := xS34 _ _ xe34
    have xE35 := xS35 _ _ xe35
    have xE36 := xS36 _ _ xe36
    have g4 : ∀ x ∈ [(.ref xa1 : V), (.ref xa3 : V), (.ref xa5 : V), (.ref xa8 : V), (.ref xa10 : V), (.ref xa12 : V), (.ref xa14 : V), (.ref xa16 : V), (.ref xa19 : V), (.ref xa21 : V), (.ref xa24 : V), (.ref xa26 : V), (.ref xa28 : V), (.ref xa30 : V), (.ref xa34 : V)], RowP PerBad2 xH36 x := fun x hx => by
      simp only [List.mem_cons, List.mem_nil_iff, or_false] at hx
      rcases hx with rfl | rfl | rfl | rfl | rfl | rfl | rfl | rfl | rfl | rfl | rfl | rfl | rfl | rfl | rfl
      · exact (⟨xa1, .non, -1, rfl, xE1, (.odd (.kind .non (by decide)) : PerBad2 xH36 (.non) (-1))⟩ : RowP PerBad2 xH36 (.ref xa1))
      · exact (⟨xa3, .ref xa2, -1, rfl, xE3, (.odd (.size xE2 (.inl rfl)) : PerBad2 xH36 (.ref xa2) (-1))⟩ : RowP PerBad2 xH36 (.ref xa3))
      · exact (⟨xa5, .ref xa4, -1, rfl, xE5, (.odd (.kind (.tup xE4) (by decide)) : PerBad2 xH36 (.ref xa4) (-1))⟩ : RowP PerBad2 xH36 (.ref xa5))
      · exact (⟨xa8, .ref xa7, -1, rfl, xE8, (.odd (.size xE7 (.inr (by decide))) : PerBad2 xH36 (.ref xa7) (-1))⟩ : RowP PerBad2 xH36 (.ref xa8))
      · exact (⟨xa10, .ref xa9, -1, rfl, xE10, (.odd (.kind (.dK xE9) (by decide)) : PerBad2 xH36 (.ref xa9) (-1))⟩ : RowP PerBad2 xH36 (.ref xa10))
      · exact (⟨xa12, .ref xa11, 0, rfl, xE12, (.num (ns := [0]) (i := 0) xE11 (by decide) (by decide) (by decide) (fun j hj => absurd hj (Nat.not_lt_zero _)) (fun z => by obtain ⟨p, h1, h2, h3⟩ := z; cases h1; exact absurd h2 (by decide)) : PerBad2 xH36 (.ref xa11) (0))⟩ : RowP PerBad2 xH36 (.ref xa12))
      · exact (⟨xa14, .ref xa13, 1, rfl, xE14, (.num (ns := [1, 0]) (i := 1) xE13 (by decide) (by decide) (by decide) (fun j hj => by rw [show j = 0 from Nat.lt_one_iff.mp hj]; exact ⟨_, rfl, by decide, by decide⟩) (fun z => by obtain ⟨c, p, h1, h2, h3, h4, h5⟩ := z; cases h1; cases h2; first | exact absurd h3 (by decide) | exact absurd h5 (by decide)) : PerBad2 xH36 (.ref xa13) (1))⟩ : RowP PerBad2 xH36 (.ref xa14))
      · exact (⟨xa16, .ref xa15, 0, rfl, xE16, (.odd (.item (ns := []) (post := []) xE15 (Nat.le_of_ble_eq_true rfl) (fun j hj => absurd hj (Nat.not_lt_zero _)) (.bl _) rfl) : PerBad2 xH36 (.ref xa15) (0))⟩ : RowP PerBad2 xH36 (.ref xa16))
      · exact (⟨xa19, .ref xa18, 1, rfl, xE19, (.odd (.item (ns := [1]) (post := []) xE18 (Nat.le_of_ble_eq_true rfl) (fun j hj => by rw [show j = 0 from Nat.lt_one_iff.mp hj]; exact ⟨_, rfl, by decide, by decide⟩) (.bl _) rfl) : PerBad2 xH36 (.ref xa18) (1))⟩ : RowP PerBad2 xH36 (.ref xa19))
      · exact (⟨xa21, .ref xa20, 1, rfl, xE21, (.odd (.item (ns := [1]) (post := []) xE20 (Nat.le_of_ble_eq_true rfl) (fun j hj => by rw [show j = 0 from Nat.lt_one_iff.mp hj]; exact ⟨_, rfl, by decide, by decide⟩) (.str _) rfl) : PerBad2 xH36 (.ref xa20) (1))⟩ : RowP PerBad2 xH36 (.ref xa21))
      · exact (⟨xa24, .ref xa23, 2, rfl, xE24, (.odd (.item (ns := [1, 3]) (post := []) xE23 (Nat.le_of_ble_eq_true rfl) (fun j hj => by match j, hj with | 0, _ => exact ⟨_, rfl, by decide, by decide⟩ | 1, _ => exact ⟨_, _, rfl, rfl, by decide, by decide, by decide⟩) (.lst xE22) rfl) : PerBad2 xH36 (.ref xa23) (2))⟩ : RowP PerBad2 xH36 (.ref xa24))
      · exact (⟨xa26, .ref xa25, 2, rfl, xE26, (.num (ns := [1, 3, 7, 0]) (i := 2) xE25 (by decide) (by decide) (by decide) (fun j hj => by match j, hj with | 0, _ => exact ⟨_, rfl, by decide, by decide⟩ | 1, _ => exact ⟨_, _, rfl, rfl, by decide, by decide, by decide⟩) (fun z => by obtain ⟨c, p, h1, h2, h3, h4, h5⟩ := z; cases h1; cases h2; first | exact absurd h3 (by decide) | exact absurd h5 (by decide)) : PerBad2 xH36 (.ref xa25) (2))⟩ : RowP PerBad2 xH36 (.ref xa26))
      · exact (⟨xa28, .ref xa27, 0, rfl, xE28, (.odd (.item (ns := []) (post := []) xE27 (Nat.le_of_ble_eq_true rfl) (fun j hj => absurd hj (Nat.not_lt_zero _)) .non rfl) : PerBad2 xH36 (.ref xa27) (0))⟩ : RowP PerBad2 xH36 (.ref xa28))
      · exact (⟨xa30, .ref xa29, 1, rfl, xE30, (.num (ns := [4, 6]) (i := 1) xE29 (by decide) (by decide) (by decide) (fun j hj => by rw [show j = 0 from Nat.lt_one_iff.mp hj]; exact ⟨_, rfl, by decide, by decide⟩) (fun z => by obtain ⟨c, p, h1, h2, h3, h4, h5⟩ := z; cases h1; cases h2; first | exact absurd h3 (by decide) | exact absurd h5 (by decide)) : PerBad2 xH36 (.ref xa29) (1))⟩ : RowP PerBad2 xH36 (.ref xa30))
      · exact (⟨xa34, .ref xa33, 0, rfl, xE34, (.num (ns := [(-1)]) (i := 0) xE33 (by decide) (by decide) (by decide) (fun j hj => absurd hj (Nat.not_lt_zero _)) (fun z => by obtain ⟨p, h1, h2, h3⟩ := z; cases h1; exact absurd h2 (by decide)) : PerBad2 xH36 (.ref xa33) (0))⟩ : RowP PerBad2 xH36 (.ref xa34))
    have xE36 : xH36 xa36 = some (.lst [(.ref xa1 : V), (.ref xa3 : V), (.ref xa5 : V), (.ref xa8 : V), (.ref xa10 : V), (.ref xa12 : V), (.ref xa14 : V), (.ref xa16 : V), (.ref xa19 : V), (.ref xa21 : V), (.ref xa24 : V), (.ref xa26 : V), (.ref xa28 : V), (.ref xa30 : V), (.ref xa34 : V)]) := xE36
    generalize [(.ref xa1 : V), (.ref xa3 : V), (.ref xa5 : V), (.ref xa8 : V), (.ref xa10 : V), (.ref xa12 : V), (.ref xa14 : V), (.ref xa16 : V), (.ref xa19 : V), (.ref xa21 : V), (.ref xa24 : V), (.ref xa26 : V), (.ref xa28 : V), (.ref xa30 : V), (.ref xa34 : V)] = L4 at xE36 g4
    have exE := LamX.ExtN.of xS0
    have tabs := Tabs.nl tabs (NL.of xS0)
    have k : ∀ H', LamX.ExtN xH36 H' → LamX.Tabs (LT L) H' → Q (.bl true) H' := fun H' e t => k H' (exE.trans e) t
    refine ⟨xa36, rfl, ⟨_, SqL.of xE36⟩, for_list (K := K) (a := xa36) (xs := L4) (fun i σ Hx => ∃ v2 v3 v4 v5 : Option V, σ = [some (.ref sa), some (.int 20), v2, v3, v4, v5] ∧ LamX.ExtN xH36 Hx ∧ LamX.Tabs (LT L) Hx) ⟨_, _, _, _, rfl, LamX.ExtN.refl _, tabs⟩ (fun i σ Hx _ ⟨_, _, _, _, _, ex, _⟩ => SqL.of (ExtN.lst ex xE36)) ?_ ?_⟩
    · rintro i x σ Hx hxi ⟨v2, v3, v4, v5, rfl, ex, tx⟩
      obtain ⟨b, v, at_, rfl, eb, bad⟩ := RowP.ext (P := PerBad2) (fun _ _ _ _ => PerBad2.ext) (g4 x (List.mem_of_getElem? hxi)) ex
      refine ⟨b, _, rfl, SqT.of eb, rfl, _, _, rfl, _, _, rfl, rfl, ?_⟩
      refine ⟨tx, fun Hw exW txW E N hE hN => ⟨_, rfl, said_per T hE (bad.ext exW) fun p Hu hp su => ?_⟩⟩
      refine ⟨_, rfl, (by show 2 ≤ sizeLine; decide), fun q6 m6 => ?_⟩
      have S6 := Same.upd (o := .tup [.str "log", .int at_]) m6
      refine ⟨logD at_, logD at_, dpLog (S6 _ _ hp), dpLog upd_same, shLog _, shLog _, ?_⟩
      rw [eqLog]
      exact ⟨_, rfl, iteF ⟨_, _, _, _, rfl, (ex.trans exW).trans (LamX.ExtN.of (su.trans S6)), Tabs.nl txW (NL.of (su.trans S6))⟩⟩
    rintro σ HF ⟨v2, v3, v4, v5, rfl, exF, tabs⟩
    exact k HF exF tabs
theorem ok_wothersright (T : LX K mg L) (B : TX base mg L) : Cal P w K mg base "_law_others_right" 12 L.f__law_others_right ["_law_seen", "_law_last"] (spOthers K L) := T.d__law_others_right.cal fun fd F => fn_wothersright T B F
end
/-! ### k50: kept lambdas in a list, and what is asked of each -/
theorem KeepAt.nl {X : Cx} {Lm : LamY.LamK} {H H' : Hp} {f c' : Addr} (h : LamY.KeepAt X Lm H f c') (k : NL H H') : LamY.KeepAt X Lm H' f c' := by
  obtain ⟨dV, doc, pm, ctv, h1, h2, h3⟩ := h
  refine ⟨dV, doc, pm, ctv, k _ _ h1 (fun xs z => by unfold LamY.FunO at z; cases z), k _ _ h2 (fun xs z => by unfold LamX.CodeO at z; cases z), ?_⟩
  unfold LamY.Dfl at h3 ⊢
  split
  · rename_i e
    rw [e] at h3
    exact h3
  · rename_i i e
    rw [e] at h3
    obtain ⟨t, e1, e2⟩ := h3
    exact ⟨t, e1, k _ _ e2 (fun xs z => nomatch z)⟩
/-- a kept lambda that, when called, ends in the error of logs at the place at_ -/
def AskL (X : Cx) (K : PySem.W.Frag) (L : LA) (g0 : List Code) (σ : L2.St) (at_ : Int) (H : Hp) (x : V) : Prop := ∃ (Lm : LamY.LamK) (f c' : Addr), x = .ref f ∧ LamY.LamOk X 8 Lm ∧ LamY.KeepAt X Lm H f c' ∧
  ∀ (Hy : Hp) (Q N : VK) (E : XK), LamX.ExtN H Hy → LamX.Tabs (LT L) Hy → (∀ cls d H', SaidR K L g0 cls d H' Q → E cls d H') → (∀ p H', H' p = some (.tup [.str "log", .int at_]) → LamX.ExtN Hy H' → LamX.Tabs (LT L) H' → Q (.ref p) H') → Lm.t E σ Hy N
def Logs3 (at_ : Int) (H : Hp) (xs : List V) : Prop := ∀ x ∈ xs, ∃ p, x = .ref p ∧ H p = some (.tup [.str "log", .int at_])
theorem asks_lc {X : Cx} {K : PySem.W.Frag} {L : LA} {g0 : List Code} {σ : L2.St} {at_ : Int} {H : Hp} {la D : Addr} {xs : List V} {Qd : Hp → Prop} (hw : (L2.wipe σ [6])[6]? = some none) (h6 : ∀ v : V, L2.wipe ((L2.wipe σ [6]).set 6 (some v)) [6] = L2.wipe σ [6]) (hl : H la = some (.lst xs)) (lx : xs.length ≤ 3) (all : ∀ x ∈ xs, AskL X K L g0 σ at_ H x) (tabs : LamX.Tabs (LT L) H) (nD : H D = none)
    (k : ∀ ys H', H' D = some (.lst ys) → Logs3 at_ H' ys → ys.length = xs.length → LamX.ExtN H H' → LamX.Tabs (LT L) H' → Qd H') :
    ∃ W : Nat → Nat → Hp → Prop, (∃ m, W 0 m (upd H D (.lst []))) ∧ ∀ i m Hx, W i m Hx →
      ((Itl K la).stop i Hx ∧ Qd Hx) ∨ ((Itl K la).go i Hx ∧ ∃ Nx : Hp → Prop, (∀ H', Nx H' → ∃ m', m' < m ∧ W (i + 1) m' H') ∧ ∀ x H', (Itl K la).yld i Hx x H' → gName 6 x (L2.wipe σ [6]) H' fun σ2 H2 => L2.wipe σ2 [6] = L2.wipe σ [6] ∧ tYes σ2 H2 fun b H3 =>
        if b = true then LamY.tFncB X σ (LamY.LamOk X 8) (TTsaid K L g0) (tCons (tVar 6) tNil) σ2 H3 fun y H4 => ∃ acc, H4 D = some (.lst acc) ∧ acc.length < sizeLine ∧ Nx (upd H4 D (.lst (acc ++ [y]))) else Nx H3) := by
  have s0 := Same.upd (o := .lst []) nD
  refine lc_list (K := K) (a := la) (xs := xs) (fun j Hy => ∃ ys, Hy D = some (.lst ys) ∧ Logs3 at_ Hy ys ∧ ys.length = j ∧ LamX.ExtN H Hy ∧ LamX.Tabs (LT L) Hy) ⟨[], upd_same, (fun x h => nomatch h), rfl, LamX.ExtN.of s0, Tabs.nl tabs (NL.of s0)⟩ (fun j Hy _ ⟨_, _, _, _, ex, _⟩ => SqL.of (ExtN.lst ex hl)) ?_ ?_
  · rintro j x Hy hxj ⟨ys, hD, ly, yl, ex, tx⟩
    have hj := (List.getElem?_eq_some_iff.mp hxj).1
    obtain ⟨Lm, f, c', rfl, ok, kp, ask⟩ := all x (List.mem_of_getElem? hxj)
    refine ⟨h6 _, tYes_of ⟨_, ?_, Lm, f, c', rfl, ok, kp.ext ex, fun E N hE _ => ask _ _ N E ex tx hE fun p H' hp e2 t2 => ?_⟩⟩
    · have lt : 6 < (L2.wipe σ [6]).length := (List.getElem?_eq_some_iff.mp hw).1
      rw [List.getElem?_set_self lt]
    · have hD2 := ExtN.lst e2 hD
      refine ⟨ys, hD2, small1 (by omega), ys ++ [.ref p], upd_same, ?_, by rw [List.length_append, yl]; rfl, ?_, ?_⟩
      · intro x hx
        rcases List.mem_append.mp hx with hx | hx
        · obtain ⟨q, rfl, hq⟩ := ly x hx
          have := e2 _ _ hq fun _ z => nomatch z
          exact ⟨q, rfl, by rw [upd_ne (fun z => by rw [z, hD2] at this; cases this)]; exact this⟩
        · rw [List.mem_singleton.mp hx]
          exact ⟨p, rfl, by rw [upd_ne (fun z => by rw [z, hD2] at hp; cases hp)]; exact hp⟩
      · intro b o e n
        rw [upd_ne (ne_of_none e nD)]
        exact (ex.trans e2) _ _ e n
      · refine Tabs.nl t2 fun b o e n => ?_
        rw [upd_ne (fun z => by rw [z, hD2] at e; exact n _ (Option.some.inj e).symm)]
        exact e
  · rintro Hy ⟨ys, hD, ly, yl, ex, tx⟩
    exact k ys Hy hD ly yl ex tx
theorem Logs3.same {i : Int} {H H' : Hp} {ys : List V} (h : Logs3 i H ys) (s : Same H H') : Logs3 i H' ys := fun y hy => by
  obtain ⟨p, rfl, e⟩ := h y hy
  exact ⟨p, rfl, s _ _ e⟩
def log3 (i : Int) : PyData := .list [logD i, logD i, logD i]
theorem shLog3 (i : Int) : SeqAt.shaped (log3 i) = true := by
  refine Bool.and_eq_true_iff.mpr ⟨by simp [log3, logD, PyData.canLay0, PyData.canLayAll0]; decide +kernel, decide_eq_true (by simp [log3, logD, PyData.depth, PyData.depthAll])⟩
theorem eqLog3 (i : Int) : PyData.eqv (log3 i) (log3 i) = true := SeqAt.eqv_refl _ (Bool.and_eq_true_iff.mp (shLog3 i)).1
theorem dpLog3 {K : PySem.W.Frag} {H : Hp} {D : Addr} {ys : List V} {i : Int} (h : H D = some (.lst ys)) (ly : Logs3 i H ys) (yl : ys.length = 3) : Dp K H (.ref D) (log3 i) := by
  match ys, yl with
  | [y1, y2, y3], _ =>
    obtain ⟨p1, rfl, h1⟩ := ly y1 (by simp)
    obtain ⟨p2, rfl, h2⟩ := ly y2 (by simp)
    obtain ⟨p3, rfl, h3⟩ := ly y3 (by simp)
    exact .lst (SqL.of h) (.cons (dpLog h1) (.cons (dpLog h2) (.cons (dpLog h3) .nil)))
/-! ### the log of passes only -/
theorem asc_snocI : ∀ {xs : List Int} {lo t : Int}, Asc lo xs → lstG lo xs ≤ t → Asc lo (xs ++ [t])
  | [], lo, t, _, h => ⟨h, trivial⟩
  | x :: r, lo, t, ⟨h1, h2⟩, h => ⟨h1, asc_snocI h2 h⟩
def lgN (n : Nat) : Lg := (List.range n).map fun (j : Nat) => ((j : Int), true)
theorem lgN_len (n : Nat) : (lgN n).length = n := by unfold lgN; rw [List.length_map, List.length_range]
theorem lgN_succ (n : Nat) : lgN (n + 1) = lgN n ++ [((n : Int), true)] := by
  unfold lgN
  rw [List.range_succ, List.map_append]
  rfl
theorem lgN_take {n m : Nat} (h : m ≤ n) : (lgN n).take m = lgN m := by
  unfold lgN
  rw [← List.map_take, List.take_range, Nat.min_eq_left h]
theorem lgN_asc : ∀ n : Nat, Asc 0 ((lgN n).map (·.1)) ∧ lstG 0 ((lgN n).map (·.1)) = (n : Int)
  | 0 => ⟨trivial, rfl⟩
  | n + 1 => by
    obtain ⟨h1, h2⟩ := lgN_asc n
    rw [lgN_succ, List.map_append]
    refine ⟨?_, ?_⟩
    · exact asc_snocI h1 (by rw [h2]; exact Int.le_refl _)
    · exact (lst_app _ _ _).trans (by show ((n : Int) + 1) = ((n + 1 : Nat) : Int); omega)
theorem lgN_ok {n : Nat} (h : n ≤ 1000) : OkLog (lgN n) := ⟨(lgN_asc n).1, by rw [lgN_len]; exact h⟩
def lgFrom (a : Int) : Nat → Lg
  | 0 => []
  | m + 1 => (a, true) :: lgFrom (a + 1) m
theorem lgFrom_map : ∀ (m : Nat) (a : Int), lgFrom a m = (List.range m).map fun (j : Nat) => (a + (j : Int), true)
  | 0, _ => rfl
  | m + 1, a => by
    show (a, true) :: lgFrom (a + 1) m = _
    rw [lgFrom_map m, List.range_succ_eq_map, List.map_cons, List.map_map]
    congr 1
    · show (a, true) = (a + ((0 : Nat) : Int), true)
      rw [show a + ((0 : Nat) : Int) = a by omega]
    · refine List.map_congr_left fun j _ => ?_
      show (a + 1 + (j : Int), true) = (a + ((j + 1 : Nat) : Int), true)
      rw [show a + 1 + (j : Int) = a + ((j + 1 : Nat) : Int) by omega]
theorem lgN_drop {n m : Nat} (h : m ≤ n) : (lgN n).drop m = lgFrom (m : Int) (n - m) := by
  rw [lgFrom_map]
  unfold lgN
  rw [← List.map_drop]
  refine List.ext_getElem? fun i => ?_
  rw [List.getElem?_map, List.getElem?_map, List.getElem?_drop]
  by_cases z : i < n - m
  · rw [List.getElem?_range (show m + i < n by omega), List.getElem?_range z]
    show some (((m + i : Nat) : Int), true) = some ((m : Int) + (i : Int), true)
    rw [show ((m + i : Nat) : Int) = (m : Int) + (i : Int) by omega]
  · rw [List.getElem?_eq_none (by rw [List.length_range]; omega), List.getElem?_eq_none (by rw [List.length_range]; omega)]
    rfl
theorem bnd_pass : ∀ (m : Nat) (u : Int), bndR u (lgFrom (u + 1) m) = (1, if m = 0 then mtE else 1)
  | 0, _ => rfl
  | m + 1, u => by
    show nar (bndR (u + 1) (lgFrom (u + 1 + 1) m)) (u + 1 - u) true = _
    rw [bnd_pass m (u + 1), show u + 1 - u = 1 by omega, if_neg (Nat.succ_ne_zero m)]
    unfold nar
    rw [if_pos rfl]
    show ((1 : Int), if (1 : Int) < (if m = 0 then mtE else 1) then (1 : Int) else (if m = 0 then mtE else 1)) = (1, 1)
    by_cases z : m = 0
    · rw [if_pos z, if_pos (by unfold mtE; decide)]
    · rw [if_neg z, if_neg (by decide)]
theorem exF_pass {n f : Nat} (h1 : 1 ≤ f) (h2 : f ≤ n) : exF (lgN n) f = [((f : Int), 1, if f = n then mtE else 1)] := by
  have ah : aheadG (lgN n) = n := by
    rw [ahead_full (fun q hq => by unfold lgN at hq; obtain ⟨j, _, rfl⟩ := List.mem_map.mp hq; rfl), lgN_len]
  have hu : uG (lgN n) f = (f : Int) - 1 := by
    unfold uG
    obtain ⟨g, rfl⟩ : ∃ g, f = g + 1 := ⟨f - 1, by omega⟩
    rw [lgN_take h2, lgN_succ, latA_app]
    show (g : Int) = ((g + 1 : Nat) : Int) - 1
    omega
  have hb : bnG (lgN n) f = (1, if f = n then mtE else 1) := by
    unfold bnG
    have := bnd_pass (n - f) ((f : Int) - 1)
    rw [show (f : Int) - 1 + 1 = (f : Int) by omega] at this
    rw [hu, lgN_drop h2, this]
    by_cases z : f = n
    · rw [if_pos (by omega), if_pos z]
    · rw [if_neg (by omega), if_neg z]
  have ge : (1 : Int) ≤ if f = n then mtE else 1 := by
    by_cases z : f = n
    · rw [if_pos z]
      unfold mtE
      decide
    · rw [if_neg z]
      decide
  unfold exF
  rw [ah, hb, if_pos ⟨h2, ge⟩]
theorem ex_pass {n : Nat} (h : 1 ≤ n) : exG (lgN n) = ((List.range (n - 1)).map fun (j : Nat) => ((1 + (j : Int), 1, 1) : Tri)) ++ [((n : Int), 1, mtE)] := by
  obtain ⟨m, rfl⟩ : ∃ m, n = m + 1 := ⟨n - 1, by omega⟩
  unfold exG
  rw [if_neg (fun z => by have := congrArg List.length z; rw [lgN_len] at this; cases this), lgN_len]
  unfold exUp
  rw [List.range_succ, List.flatMap_append]
  congr 1
  · rw [show m + 1 - 1 = m by omega]
    have : ∀ js : List Nat, (∀ j ∈ js, j < m) → (js.flatMap fun j => exF (lgN (m + 1)) (j + 1)) = js.map fun (j : Nat) => ((1 + (j : Int), 1, 1) : Tri) := by
      intro js
      induction js with
      | nil => exact fun _ => rfl
      | cons j r ih =>
        intro hj
        rw [List.flatMap_cons, ih fun i hi => hj i (List.mem_cons_of_mem _ hi), exF_pass (by omega) (by have := hj j (List.mem_cons_self ..); omega), if_neg (by have := hj j (List.mem_cons_self ..); omega), List.map_cons]
        show (((j + 1 : Nat) : Int), (1 : Int), (1 : Int)) :: _ = _
        rw [show ((j + 1 : Nat) : Int) = 1 + (j : Int) by omega]
        rfl
    exact this _ fun j hj => List.mem_range.mp hj
  · rw [List.flatMap_cons, List.flatMap_nil, List.append_nil, exF_pass (by omega) (Nat.le_refl _), if_pos rfl]
theorem lgAlt : lgG (1, 2, 1) ("closed", 0) ((List.range 1000).map fun (j : Nat) => (j : Int)) = (List.range 1000).map fun (j : Nat) => ((j : Int), decide ((j : Int) % 2 = 0)) := by decide +kernel
/-- [(i, True) for i in range(n)] -/
theorem lc_lg {n : Nat} {H1 : Hp} {D : Addr} {s0 s1 s2 s3 s4 s5 s6 s7 : Option V} {Qd : Hp → Prop} (nD : H1 D = none) (hn : n ≤ 2000) (k : ∀ H' xs, H' D = some (.lst xs) → Lgs H' xs (lgN n) → Same H1 H' → Qd H') :
    ∃ W : Nat → Nat → Hp → Prop, (∃ m, W 0 m (upd H1 D (.lst []))) ∧ ∀ i m H, W i m H →
      ((Itr 0 n).stop i H ∧ Qd H) ∨ ((Itr 0 n).go i H ∧ ∃ Nx : Hp → Prop, (∀ H', Nx H' → ∃ m', m' < m ∧ W (i + 1) m' H') ∧ ∀ x H', (Itr 0 n).yld i H x H' → gName 1 x (L2.wipe [s0, s1, s2, s3, s4, s5, s6, s7] [1]) H' fun σ2 H2 => L2.wipe σ2 [1] = L2.wipe [s0, s1, s2, s3, s4, s5, s6, s7] [1] ∧ tYes σ2 H2 fun b H3 =>
        if b = true then tTup (tCons (tVar 1) (tCons (tC (V.bl true)) tNil)) σ2 H3 fun y H4 => ∃ acc, H4 D = some (.lst acc) ∧ acc.length < sizeLine ∧ Nx (upd H4 D (.lst (acc ++ [y]))) else Nx H3) := by
  refine lc_range (lo := 0) (n := n) (fun i Hy => ∃ xs, Hy D = some (.lst xs) ∧ Lgs Hy xs (lgN i) ∧ Same H1 Hy) ⟨[], upd_same, .nil, Same.upd nD⟩ ?_ ?_
  · rintro i Hy hi ⟨xs, hD, hx, sy⟩
    have xl := paired_len hx
    rw [lgN_len] at xl
    refine ⟨rfl, tYes_of ⟨_, rfl, (by show 2 ≤ sizeLine; decide), fun q nq => ?_⟩⟩
    have S := Same.upd (o := .tup [.int (0 + (i : Nat)), .bl true]) nq
    have e := upd_same (H := Hy) (a := q) (o := .tup [.int (0 + (i : Nat)), .bl true])
    generalize upd Hy q (.tup [.int (0 + (i : Nat)), .bl true]) = Hz at S e ⊢
    have hDz := S _ _ hD
    refine ⟨xs, hDz, small1 (by omega), xs ++ [.ref q], upd_same, ?_, fun b u h => by rw [upd_ne (ne_of_none h nD)]; exact S _ _ (sy _ _ h)⟩
    rw [lgN_succ]
    have tk : ∀ b ys, Hz b = some (.tup ys) → upd Hz D (.lst (xs ++ [V.ref q])) b = some (.tup ys) := fun b ys h => by
      rw [upd_ne (fun z => by rw [z, hDz] at h; cases h)]
      exact h
    refine paired_app (L2.Paired.mapP hx fun _ _ ⟨c, e1, h⟩ => ⟨c, e1, tk _ _ (S _ _ h)⟩) (.cons ⟨q, rfl, tk _ _ ?_⟩ .nil)
    rw [e, show (0 : Int) + (i : Nat) = (i : Nat) by omega]
  · rintro Hy ⟨xs, hD, hx, sy⟩
    exact k Hy xs hD hx sy
theorem lgN_fst (n : Nat) : (lgN n).map (·.1) = (List.range n).map fun (j : Nat) => (j : Int) := by
  unfold lgN
  rw [List.map_map]
  rfl
theorem paired_takeF {α β : Type} {F : α → β → Prop} : ∀ (n : Nat) {xs : List α} {ys : List β}, Paired F xs ys → Paired F (xs.take n) (ys.take n)
  | 0, _, _, _ => .nil
  | _ + 1, _, _, .nil => .nil
  | n + 1, _, _, .cons h t => .cons h (paired_takeF n t)
theorem cut_tk {xs : List V} {k : Nat} (h : k ≤ xs.length) : cutV xs none (some (k : Int)) = xs.take k := by
  unfold cutV
  rw [HT.sIx_nat, HT.sIx_none, Nat.min_eq_left h]
  rfl
theorem logBad_cut {H : Hp} {a : Addr} {pre : List V} {x : V} {m : Nat} (e : H a = some (.lst (pre ++ [x]))) (hm : pre.length = m) (m2 : m < 1000) (hp : Lgs H pre (lgN m)) (bad : NoEnt H x ∨ ∃ p, LgAt H x p ∧ 0 ≤ p.1 ∧ p.1 ≤ (m : Int) - 1) : LogBad H (.ref a) (m : Int) := by
  rw [← hm]
  refine .item (post := []) e hp (lgN_ok (by omega)) (by rw [List.length_append]; show pre.length + 1 ≤ 1000; omega) ?_
  rw [(lgN_asc m).2]
  exact bad
theorem shTriL (ts : List Tri) : SeqAt.shaped (.list (ts.map triD)) = true := by
  refine Bool.and_eq_true_iff.mpr ⟨?_, decide_eq_true ?_⟩
  · rw [PyData.canLay0]
    exact canAll ts
  · have := depAll ts
    rw [PyData.depth]
    omega
theorem eqTriL (ts : List Tri) : PyData.eqv (.list (ts.map triD)) (.list (ts.map triD)) = true := SeqAt.eqv_refl _ (Bool.and_eq_true_iff.mp (shTriL ts)).1
/-! ### k50: what is no log -/
def spLogs (K : PySem.W.Frag) (L : LA) : Sp := fun vs H Q _ => ∃ m : Nat, vs = [.int m] ∧ 1 ≤ m ∧ m < 1000 ∧ LamX.Tabs (LT L) H ∧ ∀ H', LamX.ExtN H H' → LamX.Tabs (LT L) H' → Q (.bl true) H'
section
variable {P : Program} {w : World} {K : PySem.W.Frag} {mg : Str → Option Value} {base : Heap} {L : LA}
abbrev N_wlogsright : List Str := ["_law_place", "_law_at", "_law_rows", "_law_asks", "_law_long", "_law_odd", "_law_ask", "_law_failures"]
theorem sc_wlogsright : FnScope N_wlogsright ["_law_place"] (defScope st__law_logs_right) := ⟨rfl, rfl, rfl, by decide +kernel, rfl, by decide +kernel, by decide +kernel⟩
theorem fn_wlogsright (T : LX K mg L) (B : TX base mg L) {fd : FuncData} (F : FunT K "_law_logs_right" "_law_logs_right" st__law_logs_right L.f__law_logs_right L.k__law_logs_right fd) : FnOk P w K mg base CX0 12 L.f__law_logs_right fd ["_law_place"] (spLogs K L) := by
  have G_explanations := P0.ok_explanations (P := P) (w := w) (base := base) T
  have G_logof := P0.ok_logof (P := P) (w := w) (base := base) T
  have G_firstconflict := P0.ok_firstconflict (P := P) (w := w) (base := base) T
  have G_forecast := P0.ok_forecast (P := P) (w := w) (base := base) T
  have nd := sc_wlogsright.nd
  refine F.okG sc_wlogsright (fun vs H Q E h => ?_) (fun g0 A outer S H vs Q E hgd hr h => ?_)
  · obtain ⟨m, rfl, _⟩ := h
    rfl
  · obtain ⟨m, rfl, m1, m2, tabs, k⟩ := h
    refine ⟨_, (pss_cons (ps_set (i := 2) nd rfl (Or.inl rfl) (pe_lst (pa_cons (pe_tup (pa_cons pe_non (pa_cons (pe_un un_neg pe_int) pa_nil))) (pa_cons (pe_tup (pa_cons (pe_tup (pa_cons (pe_tup (pa_cons pe_int (pa_cons pe_bl pa_nil))) pa_nil)) (pa_cons (pe_un un_neg pe_int) pa_nil))) (pa_cons (pe_tup (pa_cons pe_dnewK (pa_cons (pe_un un_neg pe_int) pa_nil))) (pa_cons (pe_tup (pa_cons pe_str (pa_cons (pe_un un_neg pe_int) pa_nil))) (pa_cons (pe_tup (pa_cons (pe_lc (own := [("_law_at", 1)]) (g := gName 1) (tt := tYes) rfl nd (pi_range1 rfl T.b_range (pa_cons pe_int pa_nil)) (blkOk_by (own := [("_law_at", 1)]) (N := N_wlogsright) (sc := defScope st__law_logs_right) (by decide +kernel)) (fun _ _ _ _ _ => pg_name (i := 1) nd rfl (Or.inl rfl)) (fun _ _ _ _ _ => pts_nil) (fun _ _ _ _ _ => (pe_tup (pa_cons (pv 1) (pa_cons pe_bl pa_nil))))) (pa_cons (pe_un un_neg pe_int) pa_nil))) pa_nil)))))))
       (pss_cons (ps_set (i := 2) nd rfl (Or.inl rfl) (pe_op op_cat (pv 2) (pe_lst (pa_cons (pe_tup (pa_cons (pe_lst (pa_cons pe_non pa_nil)) (pa_cons pe_int pa_nil))) (pa_cons (pe_tup (pa_cons (pe_lst (pa_cons (pe_tup (pa_cons pe_int (pa_cons pe_bl pa_nil))) (pa_cons (pe_lst (pa_cons pe_int (pa_cons pe_bl pa_nil))) pa_nil))) (pa_cons pe_int pa_nil))) (pa_cons (pe_tup (pa_cons (pe_lst (pa_cons (pe_tup (pa_cons pe_int (pa_cons pe_bl pa_nil))) (pa_cons (pe_tup (pa_cons pe_int (pa_cons pe_bl pa_nil))) pa_nil))) (pa_cons pe_int pa_nil))) (pa_cons (pe_tup (pa_cons (pe_lst (pa_cons (pe_tup (pa_cons pe_int (pa_cons pe_bl pa_nil))) (pa_cons (pe_tup (pa_cons pe_int (pa_cons pe_bl pa_nil))) pa_nil))) (pa_cons pe_int pa_nil))) pa_nil)))))))
       (pss_cons (ps_set (i := 2) nd rfl (Or.inl rfl) (pe_op op_cat (pv 2) (pe_lst (pa_cons (pe_tup (pa_cons (pe_lst (pa_cons (pe_tup (pa_cons (pe_un un_neg pe_int) (pa_cons pe_bl pa_nil))) pa_nil)) (pa_cons pe_int pa_nil))) (pa_cons (pe_tup (pa_cons (pe_lst (pa_cons (pe_tup (pa_cons pe_int (pa_cons pe_int pa_nil))) pa_nil)) (pa_cons pe_int pa_nil))) (pa_cons (pe_tup (pa_cons (pe_lst (pa_cons (pe_tup (pa_cons pe_int (pa_cons pe_non pa_nil))) pa_nil)) (pa_cons pe_int pa_nil))) (pa_cons (pe_tup (pa_cons (pe_lst (pa_cons (pe_tup (pa_cons pe_bl (pa_cons pe_bl pa_nil))) pa_nil)) (pa_cons pe_int pa_nil))) (pa_cons (pe_tup (pa_cons (pe_lst (pa_cons (pe_tup (pa_cons pe_int (pa_cons pe_bl (pa_cons pe_int pa_nil)))) pa_nil)) (pa_cons pe_int pa_nil))) pa_nil))))))))
       (pss_cons (ps_set (i := 2) nd rfl (Or.inl rfl) (pe_op op_cat (pv 2) (pe_lst (pa_cons (pe_tup (pa_cons (pe_lst (pa_cons (pe_tup (pa_cons pe_str (pa_cons pe_bl pa_nil))) pa_nil)) (pa_cons pe_int pa_nil))) (pa_cons (pe_tup (pa_cons (pe_lst (pa_cons pe_dnewK pa_nil)) (pa_cons pe_int pa_nil))) (pa_cons (pe_tup (pa_cons (pe_lst (pa_cons (pe_tup (pa_cons pe_int (pa_cons pe_bl pa_nil))) (pa_cons (pe_tup (pa_cons pe_int (pa_cons pe_str pa_nil))) pa_nil))) (pa_cons pe_int pa_nil))) (pa_cons (pe_tup (pa_cons (pe_lst (pa_cons (pe_tup (pa_cons (pe_lst (pa_cons pe_int pa_nil)) (pa_cons pe_bl pa_nil))) pa_nil)) (pa_cons pe_int pa_nil))) (pa_cons (pe_tup (pa_cons (pe_lst (pa_cons (pe_tup (pa_cons pe_int pa_nil)) pa_nil)) (pa_cons pe_int pa_nil))) pa_nil))))))))
       (pss_cons (ps_for PassesOwn.never rfl (pi_list (pv 2)) (pg_tup rfl (pgs_cons (pg_name (i := 5) nd rfl (Or.inr rfl)) (pgs_cons (pg_name (i := 1) nd rfl (Or.inl rfl)) pgs_nil))) (pss_cons (ps_set (i := 3) nd rfl (Or.inl rfl) (pe_lst (pa_cons (LamY.pe_lamL0 (k := 8) (T := LT L) (c := L.k__law_logs_right) (P := L.t__law_logs_right) B.b__law_logs_right rfl (lt_mem_wlogsright T) (lt_one_wlogsright T) (LamY.lamS_by (N := N_wlogsright) (sc := defScope st__law_logs_right) (by decide +kernel)) rfl (fun _ _ _ _ _ _ => rfl) (fun A outer s H E f c2 hr => by exact (pe_cX (U.ok_explanations (P := P) (w := w) (base := base) T) (hr.mono (by decide)) rfl (fun σ => passAt (takes_of rfl rfl rfl rfl) σ) (pa_cons (pv 5) pa_nil)))) (pa_cons (LamY.pe_lamL1 (k := 8) (T := LT L) (c := L.k__law_logs_right) (P := L.t__law_logs_right) (i := 0) (a := "_law_of") B.b__law_logs_right rfl (lt_mem_wlogsright T) (lt_one_wlogsright T) (LamY.lamS_by (N := N_wlogsright) (sc := defScope st__law_logs_right) (by decide +kernel)) rfl rfl pe_int rfl (fun _ _ _ _ _ _ _ _ _ _ _ h1 h2 => .of_defaults rfl h1 h2 rfl rfl) (fun A outer s H E f c2 hr => by exact (pe_cX (U.ok_firstconflict (P := P) (w := w) (base := base) T) (hr.mono (by decide)) rfl (fun σ => passAt (takes_of rfl rfl rfl rfl) σ) (pa_cons (pv 5) pa_nil)))) pa_nil))))
       (pss_cons (ps_expr (pe_bm PySem.F.plainAttrs_list PySem.F.slot_list_append PySem.F.type_list_append mt_append (pv 3) (pa_cons (LamY.pe_lamL0 (k := 8) (T := LT L) (c := L.k__law_logs_right) (P := L.t__law_logs_right) B.b__law_logs_right rfl (lt_mem_wlogsright T) (lt_one_wlogsright T) (LamY.lamS_by (N := N_wlogsright) (sc := defScope st__law_logs_right) (by decide +kernel)) rfl (fun _ _ _ _ _ _ => rfl) (fun A outer s H E f c2 hr => by exact (pe_cX (U.ok_forecast (P := P) (w := w) (base := base) T) (hr.mono (by decide)) rfl (fun σ => passAt (takes_of rfl rfl rfl rfl) σ) (pa_cons (pv 5) (pa_cons pe_non pa_nil))))) pa_nil)))
       (pss_one (ps_if (pt_cmpR (op_neD hr.units) (LcK.pe_lcK (own := [("_law_ask", 6)]) (g := gName 6) (tt := tYes) rfl nd (pi_list (pv 3)) (blkOk_by (own := [("_law_ask", 6)]) (N := N_wlogsright) (sc := defScope st__law_logs_right) (by decide +kernel)) (fun _ _ _ _ _ => pg_name (i := 6) nd rfl (Or.inl rfl)) (fun _ _ _ _ _ => pts_nil) (fun pins σ s H C cl fp I0 hf => LamY.pe_fncB (k := 8) (TT := TTsaid K L g0) (Ok := LamY.LamOk _ 8) I0 hf T.d__law_said sc_wsaid rfl (Or.inl rfl) (fun _ => said_gives T (hr.mono (by decide)) (by exact hgd)) (hr.mono (by decide)) (fun _ h => h) (pa_cons (pv 6) pa_nil) rfl)) (pe_op op_rep (pe_lst (pa_cons (pe_tup (pa_cons pe_str (pa_cons (pv 1) pa_nil))) pa_nil)) pe_int) (nomark _)) (pss_one (ps_ret pe_bl)) pss_nil)))))
       (pss_cons (ps_set (i := 4) nd rfl (Or.inr rfl) (pe_lc (own := [("_law_at", 1)]) (g := gName 1) (tt := tYes) rfl nd (pi_range1 rfl T.b_range (pa_cons pe_int pa_nil)) (blkOk_by (own := [("_law_at", 1)]) (N := N_wlogsright) (sc := defScope st__law_logs_right) (by decide +kernel)) (fun _ _ _ _ _ => pg_name (i := 1) nd rfl (Or.inl rfl)) (fun _ _ _ _ _ => pts_nil) (fun _ _ _ _ _ => (pe_tup (pa_cons (pv 1) (pa_cons pe_bl pa_nil))))))
       (pss_cons (ps_set (i := 3) nd rfl (Or.inl rfl) (pe_lst (pa_cons (LamY.pe_lamL0 (k := 8) (T := LT L) (c := L.k__law_logs_right) (P := L.t__law_logs_right) B.b__law_logs_right rfl (lt_mem_wlogsright T) (lt_one_wlogsright T) (LamY.lamS_by (N := N_wlogsright) (sc := defScope st__law_logs_right) (by decide +kernel)) rfl (fun _ _ _ _ _ _ => rfl) (fun A outer s H E f c2 hr => by exact (pe_cX (U.ok_explanations (P := P) (w := w) (base := base) T) (hr.mono (by decide)) rfl (fun σ => passAt (takes_of rfl rfl rfl rfl) σ) (pa_cons (pe_op op_cat (pe_slice (r := rSlL K) sl_list (pv 4) po_none (po_some (pv 0))) (pe_lst (pa_cons (pe_tup (pa_cons (pv 0) (pa_cons pe_int pa_nil))) pa_nil))) pa_nil)))) (pa_cons (LamY.pe_lamL1 (k := 8) (T := LT L) (c := L.k__law_logs_right) (P := L.t__law_logs_right) (i := 0) (a := "_law_of") B.b__law_logs_right rfl (lt_mem_wlogsright T) (lt_one_wlogsright T) (LamY.lamS_by (N := N_wlogsright) (sc := defScope st__law_logs_right) (by decide +kernel)) rfl rfl pe_int rfl (fun _ _ _ _ _ _ _ _ _ _ _ h1 h2 => .of_defaults rfl h1 h2 rfl rfl) (fun A outer s H E f c2 hr => by exact (pe_cX (U.ok_firstconflict (P := P) (w := w) (base := base) T) (hr.mono (by decide)) rfl (fun σ => passAt (takes_of rfl rfl rfl rfl) σ) (pa_cons (pe_op op_cat (pe_slice (r := rSlL K) sl_list (pv 4) po_none (po_some (pv 0))) (pe_lst (pa_cons pe_non pa_nil))) pa_nil)))) pa_nil))))
       (pss_cons (ps_expr (pe_bm PySem.F.plainAttrs_list PySem.F.slot_list_append PySem.F.type_list_append mt_append (pv 3) (pa_cons (LamY.pe_lamL0 (k := 8) (T := LT L) (c := L.k__law_logs_right) (P := L.t__law_logs_right) B.b__law_logs_right rfl (lt_mem_wlogsright T) (lt_one_wlogsright T) (LamY.lamS_by (N := N_wlogsright) (sc := defScope st__law_logs_right) (by decide +kernel)) rfl (fun _ _ _ _ _ _ => rfl) (fun A outer s H E f c2 hr => by exact (pe_cX (U.ok_forecast (P := P) (w := w) (base := base) T) (hr.mono (by decide)) rfl (fun σ => passAt (takes_of rfl rfl rfl rfl) σ) (pa_cons (pe_op op_cat (pe_slice (r := rSlL K) sl_list (pv 4) po_none (po_some (pv 0))) (pe_lst (pa_cons (pe_tup (pa_cons (pe_op op_sub (pv 0) pe_int) (pa_cons pe_bl pa_nil))) pa_nil))) (pa_cons pe_int pa_nil))))) pa_nil)))
       (pss_cons (ps_if (pt_cmpR (op_neD hr.units) (LcK.pe_lcK (own := [("_law_ask", 6)]) (g := gName 6) (tt := tYes) rfl nd (pi_list (pv 3)) (blkOk_by (own := [("_law_ask", 6)]) (N := N_wlogsright) (sc := defScope st__law_logs_right) (by decide +kernel)) (fun _ _ _ _ _ => pg_name (i := 6) nd rfl (Or.inl rfl)) (fun _ _ _ _ _ => pts_nil) (fun pins σ s H C cl fp I0 hf => LamY.pe_fncB (k := 8) (TT := TTsaid K L g0) (Ok := LamY.LamOk _ 8) I0 hf T.d__law_said sc_wsaid rfl (Or.inl rfl) (fun _ => said_gives T (hr.mono (by decide)) (by exact hgd)) (hr.mono (by decide)) (fun _ h => h) (pa_cons (pv 6) pa_nil) rfl)) (pe_op op_rep (pe_lst (pa_cons (pe_tup (pa_cons pe_str (pa_cons (pv 0) pa_nil))) pa_nil)) pe_int) (nomark _)) (pss_one (ps_ret pe_bl)) pss_nil)
       (pss_cons (ps_if (pt_cmpR (op_neD hr.units) (pe_c G_explanations (hr.mono (by decide)) rfl (pa_cons (pv 4) pa_nil)) (pe_op op_cat (pe_lc (own := [("_law_failures", 7)]) (g := gName 7) (tt := tYes) rfl nd (pi_range2 rfl T.b_range (pa_cons pe_int (pa_cons pe_int pa_nil))) (blkOk_by (own := [("_law_failures", 7)]) (N := N_wlogsright) (sc := defScope st__law_logs_right) (by decide +kernel)) (fun _ _ _ _ _ => pg_name (i := 7) nd rfl (Or.inl rfl)) (fun _ _ _ _ _ => pts_nil) (fun _ _ _ _ _ => (pe_tup (pa_cons (pv 7) (pa_cons pe_int (pa_cons pe_int pa_nil)))))) (pe_lst (pa_cons (pe_tup (pa_cons pe_int (pa_cons pe_int (pa_cons (pe_op op_pow pe_int pe_int) pa_nil)))) pa_nil))) (nomark _)) (pss_one (ps_ret pe_bl)) pss_nil)
       (pss_one (ps_ret (pe_cmpR (op_eqD hr.units) (pe_c G_logof (hr.mono (by decide)) rfl (pa_cons (pe_tup (pa_cons pe_int (pa_cons pe_int (pa_cons pe_int pa_nil)))) (pa_cons (pe_listRg rfl (by rfl) T.b_list (prg_1 (by rfl) T.b_range pe_int)) pa_nil))) (pe_lc (own := [("_law_at", 1)]) (g := gName 1) (tt := tYes) rfl nd (pi_range1 rfl T.b_range (pa_cons pe_int pa_nil)) (blkOk_by (own := [("_law_at", 1)]) (N := N_wlogsright) (sc := defScope st__law_logs_right) (by decide +kernel)) (fun _ _ _ _ _ => pg_name (i := 1) nd rfl (Or.inl rfl)) (fun _ _ _ _ _ => pts_nil) (fun _ _ _ _ _ => (pe_tup (pa_cons (pv 1) (pa_cons (pe_cmpR op_eq (pe_op op_mod (pe_callTy call_int1 (by rfl) T.b_int (by decide +kernel) (pa_cons (pv 1) pa_nil)) pe_int) pe_int (nomark _)) pa_nil))))) (nomark _)))))))))))))), ?_⟩
    obtain ⟨HA0, hHA0⟩ : ∃ HA0, HA0 = H := ⟨_, rfl⟩
    rw [← hHA0] at tabs k ⊢
    clear hHA0
    refine ⟨1, rfl, (by show 2 ≤ sizeLine; decide), fun ua1 un1 => ?_⟩
    have us1 := Same.upd (o := .tup [.non, .int (-1)]) un1
    have ue1 : upd HA0 ua1 (.tup [.non, .int (-1)]) ua1 = some (.tup [.non, .int (-1)]) := upd_same
    generalize upd HA0 ua1 (.tup [.non, .int (-1)]) = uH1 at us1 ue1 ⊢
    refine ⟨(by show 2 ≤ sizeLine; decide), fun ua2 un2 => ?_⟩
    have us2 := Same.upd (o := .tup [.int 0, .bl true]) un2
    have ue2 : upd uH1 ua2 (.tup [.int 0, .bl true]) ua2 = some (.tup [.int 0, .bl true]) := upd_same
    generalize upd uH1 ua2 (.tup [.int 0, .bl true]) = uH2 at us2 ue2 ⊢
    refine ⟨(by show 1 ≤ sizeLine; decide), fun ua3 un3 => ?_⟩
    have us3 := Same.upd (o := .tup [.ref ua2]) un3
    have ue3 : upd uH2 ua3 (.tup [.ref ua2]) ua3 = some (.tup [.ref ua2]) := upd_same
    generalize upd uH2 ua3 (.tup [.ref ua2]) = uH3 at us3 ue3 ⊢
    refine ⟨1, rfl, (by show 2 ≤ sizeLine; decide), fun ua4 un4 => ?_⟩
    have us4 := Same.upd (o := .tup [.ref ua3, .int (-1)]) un4
    have ue4 : upd uH3 ua4 (.tup [.ref ua3, .int (-1)]) ua4 = some (.tup [.ref ua3, .int (-1)]) := upd_same
    generalize upd uH3 ua4 (.tup [.ref ua3, .int (-1)]) = uH4 at us4 ue4 ⊢
    refine fun ua5 un5 => ?_
    have us5 := Same.upd (o := .dK []) un5
    have ue5 : upd uH4 ua5 (.dK []) ua5 = some (.dK []) := upd_same
    generalize upd uH4 ua5 (.dK []) = uH5 at us5 ue5 ⊢
    refine ⟨1, rfl, (by show 2 ≤ sizeLine; decide), fun ua6 un6 => ?_⟩
    have us6 := Same.upd (o := .tup [.ref ua5, .int (-1)]) un6
    have ue6 : upd uH5 ua6 (.tup [.ref ua5, .int (-1)]) ua6 = some (.tup [.ref ua5, .int (-1)]) := upd_same
    generalize upd uH5 ua6 (.tup [.ref ua5, .int (-1)]) = uH6 at us6 ue6 ⊢
    refine ⟨1, rfl, (by show 2 ≤ sizeLine; decide), fun ua7 un7 => ?_⟩
    have us7 := Same.upd (o := .tup [.str "x", .int (-1)]) un7
    have ue7 : upd uH6 ua7 (.tup [.str "x", .int (-1)]) ua7 = some (.tup [.str "x", .int (-1)]) := upd_same
    generalize upd uH6 ua7 (.tup [.str "x", .int (-1)]) = uH7 at us7 ue7 ⊢
    refine ⟨1001, rfl, by decide, by decide, fun ua8 un8 => lc_lg un8 (by decide) ?_⟩
    rintro uH8 uz8 ue8 ug8 us8
    refine ⟨1, rfl, (by show 2 ≤ sizeLine; decide), fun ua9 un9 => ?_⟩
    have us9 := Same.upd (o := .tup [.ref ua8, .int (-1)]) un9
    have ue9 : upd uH8 ua9 (.tup [.ref ua8, .int (-1)]) ua9 = some (.tup [.ref ua8, .int (-1)]) := upd_same
    generalize upd uH8 ua9 (.tup [.ref ua8, .int (-1)]) = uH9 at us9 ue9 ⊢
    refine ⟨(by show 5 ≤ sizeLine; decide), fun ua10 un10 => ?_⟩
    have us10 := Same.upd (o := .lst [(.ref ua1 : V), (.ref ua4 : V), (.ref ua6 : V), (.ref ua7 : V), (.ref ua9 : V)]) un10
    have ue10 : upd uH9 ua10 (.lst [(.ref ua1 : V), (.ref ua4 : V), (.ref ua6 : V), (.ref ua7 : V), (.ref ua9 : V)]) ua10 = some (.lst [(.ref ua1 : V), (.ref ua4 : V), (.ref ua6 : V), (.ref ua7 : V), (.ref ua9 : V)]) := upd_same
    generalize upd uH9 ua10 (.lst [(.ref ua1 : V), (.ref ua4 : V), (.ref ua6 : V), (.ref ua7 : V), (.ref ua9 : V)]) = uH10 at us10 ue10 ⊢
    refine ⟨_, rfl, ?_⟩
    refine ⟨(by show 1 ≤ sizeLine; decide), fun ua11 un11 => ?_⟩
    have us11 := Same.upd (o := .lst [.non]) un11
    have ue11 : upd uH10 ua11 (.lst [.non]) ua11 = some (.lst [.non]) := upd_same
    generalize upd uH10 ua11 (.lst [.non]) = uH11 at us11 ue11 ⊢
    refine ⟨(by show 2 ≤ sizeLine; decide), fun ua12 un12 => ?_⟩
    have us12 := Same.upd (o := .tup [.ref ua11, .int 0]) un12
    have ue12 : upd uH11 ua12 (.tup [.ref ua11, .int 0]) ua12 = some (.tup [.ref ua11, .int 0]) := upd_same
    generalize upd uH11 ua12 (.tup [.ref ua11, .int 0]) = uH12 at us12 ue12 ⊢
    refine ⟨(by show 2 ≤ sizeLine; decide), fun ua13 un13 => ?_⟩
    have us13 := Same.upd (o := .tup [.int 0, .bl true]) un13
    have ue13 : upd uH12 ua13 (.tup [.int 0, .bl true]) ua13 = some (.tup [.int 0, .bl true]) := upd_same
    generalize upd uH12 ua13 (.tup [.int 0, .bl true]) = uH13 at us13 ue13 ⊢
    refine ⟨(by show 2 ≤ sizeLine; decide), fun ua14 un14 => ?_⟩
    have us14 := Same.upd (o := .lst [.int 1, .bl true]) un14
    have ue14 : upd uH13 ua14 (.lst [.int 1, .bl true]) ua14 = some (.lst [.int 1, .bl true]) := upd_same
    generalize upd uH13 ua14 (.lst [.int 1, .bl true]) = uH14 at us14 ue14 ⊢
    refine ⟨(by show 2 ≤ sizeLine; decide), fun ua15 un15 => ?_⟩
    have us15 := Same.upd (o := .lst [.ref ua13, .ref ua14]) un15
    have ue15 : upd uH14 ua15 (.lst [.ref ua13, .ref ua14]) ua15 = some (.lst [.ref ua13, .ref ua14]) := upd_same
    generalize upd uH14 ua15 (.lst [.ref ua13, .ref ua14]) = uH15 at us15 ue15 ⊢
    refine ⟨(by show 2 ≤ sizeLine; decide), fun ua16 un16 => ?_⟩
    have us16 := Same.upd (o := .tup [.ref ua15, .int 1]) un16
    have ue16 : upd uH15 ua16 (.tup [.ref ua15, .int 1]) ua16 = some (.tup [.ref ua15, .int 1]) := upd_same
    generalize upd uH15 ua16 (.tup [.ref ua15, .int 1]) = uH16 at us16 ue16 ⊢
    refine ⟨(by show 2 ≤ sizeLine; decide), fun ua17 un17 => ?_⟩
    have us17 := Same.upd (o := .tup [.int 0, .bl true]) un17
    have ue17 : upd uH16 ua17 (.tup [.int 0, .bl true]) ua17 = some (.tup [.int 0, .bl true]) := upd_same
    generalize upd uH16 ua17 (.tup [.int 0, .bl true]) = uH17 at us17 ue17 ⊢
    refine ⟨(by show 2 ≤ sizeLine; decide), fun ua18 un18 => ?_⟩
    have us18 := Same.upd (o := .tup [.int 0, .bl true]) un18
    have ue18 : upd uH17 ua18 (.tup [.int 0, .bl true]) ua18 = some (.tup [.int 0, .bl true]) := upd_same
    generalize upd uH17 ua18 (.tup [.int 0, .bl true]) = uH18 at us18 ue18 ⊢
    refine ⟨(by show 2 ≤ sizeLine; decide), fun ua19 un19 => ?_⟩
    have us19 := Same.upd (o := .lst [.ref ua17, .ref ua18]) un19
    have ue19 : upd uH18 ua19 (.lst [.ref ua17, .ref ua18]) ua19 = some (.lst [.ref ua17, .ref ua18]) := upd_same
    generalize upd uH18 ua19 (.lst [.ref ua17, .ref ua18]) = uH19 at us19 ue19 ⊢
    refine ⟨(by show 2 ≤ sizeLine; decide), fun ua20 un20 => ?_⟩
    have us20 := Same.upd (o := .tup [.ref ua19, .int 1]) un20
    have ue20 : upd uH19 ua20 (.tup [.ref ua19, .int 1]) ua20 = some (.tup [.ref ua19, .int 1]) := upd_same
    generalize upd uH19 ua20 (.tup [.ref ua19, .int 1]) = uH20 at us20 ue20 ⊢
    refine ⟨(by show 2 ≤ sizeLine; decide), fun ua21 un21 => ?_⟩
    have us21 := Same.upd (o := .tup [.int 3, .bl true]) un21
    have ue21 : upd uH20 ua21 (.tup [.int 3, .bl true]) ua21 = some (.tup [.int 3, .bl true]) := upd_same
    generalize upd uH20 ua21 (.tup [.int 3, .bl true]) = uH21 at us21 ue21 ⊢
    refine ⟨(by show 2 ≤ sizeLine; decide), fun ua22 un22 => ?_⟩
    have us22 := Same.upd (o := .tup [.int 2, .bl false]) un22
    have ue22 : upd uH21 ua22 (.tup [.int 2, .bl false]) ua22 = some (.tup [.int 2, .bl false]) := upd_same
    generalize upd uH21 ua22 (.tup [.int 2, .bl false]) = uH22 at us22 ue22 ⊢
    refine ⟨(by show 2 ≤ sizeLine; decide), fun ua23 un23 => ?_⟩
    have us23 := Same.upd (o := .lst [.ref ua21, .ref ua22]) un23
    have ue23 : upd uH22 ua23 (.lst [.ref ua21, .ref ua22]) ua23 = some (.lst [.ref ua21, .ref ua22]) := upd_same
    generalize upd uH22 ua23 (.lst [.ref ua21, .ref ua22]) = uH23 at us23 ue23 ⊢
    refine ⟨(by show 2 ≤ sizeLine; decide), fun ua24 un24 => ?_⟩
    have us24 := Same.upd (o := .tup [.ref ua23, .int 1]) un24
    have ue24 : upd uH23 ua24 (.tup [.ref ua23, .int 1]) ua24 = some (.tup [.ref ua23, .int 1]) := upd_same
    generalize upd uH23 ua24 (.tup [.ref ua23, .int 1]) = uH24 at us24 ue24 ⊢
    refine ⟨(by show 4 ≤ sizeLine; decide), fun ua25 un25 => ?_⟩
    have us25 := Same.upd (o := .lst [(.ref ua12 : V), (.ref ua16 : V), (.ref ua20 : V), (.ref ua24 : V)]) un25
    have ue25 : upd uH24 ua25 (.lst [(.ref ua12 : V), (.ref ua16 : V), (.ref ua20 : V), (.ref ua24 : V)]) ua25 = some (.lst [(.ref ua12 : V), (.ref ua16 : V), (.ref ua20 : V), (.ref ua24 : V)]) := upd_same
    generalize upd uH24 ua25 (.lst [(.ref ua12 : V), (.ref ua16 : V), (.ref ua20 : V), (.ref ua24 : V)]) = uH25 at us25 ue25 ⊢
    refine ⟨ua10, ua25, _, _, rfl, rfl, (us25 _ _ (us24 _ _ (us23 _ _ (us22 _ _ (us21 _ _ (us20 _ _ (us19 _ _ (us18 _ _ (us17 _ _ (us16 _ _ (us15 _ _ (us14 _ _ (us13 _ _ (us12 _ _ (us11 _ _ ue10))))))))))))))), ue25, (by show 9 ≤ sizeLine; decide), fun ua26 un26 => ?_⟩
    have us26 := Same.upd (o := .lst ([(.ref ua1 : V), (.ref ua4 : V), (.ref ua6 : V), (.ref ua7 : V), (.ref ua9 : V)] ++ [(.ref ua12 : V), (.ref ua16 : V), (.ref ua20 : V), (.ref ua24 : V)])) un26
    have ue26 : upd uH25 ua26 (.lst ([(.ref ua1 : V), (.ref ua4 : V), (.ref ua6 : V), (.ref ua7 : V), (.ref ua9 : V)] ++ [(.ref ua12 : V), (.ref ua16 : V), (.ref ua20 : V), (.ref ua24 : V)])) ua26 = some (.lst ([(.ref ua1 : V), (.ref ua4 : V), (.ref ua6 : V), (.ref ua7 : V), (.ref ua9 : V)] ++ [(.ref ua12 : V), (.ref ua16 : V), (.ref ua20 : V), (.ref ua24 : V)])) := upd_same
    generalize upd uH25 ua26 (.lst ([(.ref ua1 : V), (.ref ua4 : V), (.ref ua6 : V), (.ref ua7 : V), (.ref ua9 : V)] ++ [(.ref ua12 : V), (.ref ua16 : V), (.ref ua20 : V), (.ref ua24 : V)])) = uH26 at us26 ue26 ⊢
    refine ⟨_, rfl, ?_⟩
    refine ⟨1, rfl, (by show 2 ≤ sizeLine; decide), fun ua27 un27 => ?_⟩
    have us27 := Same.upd (o := .tup [.int (-1), .bl true]) un27
    have ue27 : upd uH26 ua27 (.tup [.int (-1), .bl true]) ua27 = some (.tup [.int (-1), .bl true]) := upd_same
    generalize upd uH26 ua27 (.tup [.int (-1), .bl true]) = uH27 at us27 ue27 ⊢
    refine ⟨(by show 1 ≤ sizeLine; decide), fun ua28 un28 => ?_⟩
    have us28 := Same.upd (o := .lst [.ref ua27]) un28
    have ue28 : upd uH27 ua28 (.lst [.ref ua27]) ua28 = some (.lst [.ref ua27]) := upd_same
    generalize upd uH27 ua28 (.lst [.ref ua27]) = uH28 at us28 ue28 ⊢
    refine ⟨(by show 2 ≤ sizeLine; decide), fun ua29 un29 => ?_⟩
    have us29 := Same.upd (o := .tup [.ref ua28, .int 0]) un29
    have ue29 : upd uH28 ua29 (.tup [.ref ua28, .int 0]) ua29 = some (.tup [.ref ua28, .int 0]) := upd_same
    generalize upd uH28 ua29 (.tup [.ref ua28, .int 0]) = uH29 at us29 ue29 ⊢
    refine ⟨(by show 2 ≤ sizeLine; decide), fun ua30 un30 => ?_⟩
    have us30 := Same.upd (o := .tup [.int 0, .int 1]) un30
    have ue30 : upd uH29 ua30 (.tup [.int 0, .int 1]) ua30 = some (.tup [.int 0, .int 1]) := upd_same
    generalize upd uH29 ua30 (.tup [.int 0, .int 1]) = uH30 at us30 ue30 ⊢
    refine ⟨(by show 1 ≤ sizeLine; decide), fun ua31 un31 => ?_⟩
    have us31 := Same.upd (o := .lst [.ref ua30]) un31
    have ue31 : upd uH30 ua31 (.lst [.ref ua30]) ua31 = some (.lst [.ref ua30]) := upd_same
    generalize upd uH30 ua31 (.lst [.ref ua30]) = uH31 at us31 ue31 ⊢
    refine ⟨(by show 2 ≤ sizeLine; decide), fun ua32 un32 => ?_⟩
    have us32 := Same.upd (o := .tup [.ref ua31, .int 0]) un32
    have ue32 : upd uH31 ua32 (.tup [.ref ua31, .int 0]) ua32 = some (.tup [.ref ua31, .int 0]) := upd_same
    generalize upd uH31 ua32 (.tup [.ref ua31, .int 0]) = uH32 at us32 ue32 ⊢
    refine ⟨(by show 2 ≤ sizeLine; decide), fun ua33 un33 => ?_⟩
    have us33 := Same.upd (o := .tup [.int 0, .non]) un33
    have ue33 : upd uH32 ua33 (.tup [.int 0, .non]) ua33 = some (.tup [.int 0, .non]) := upd_same
    generalize upd uH32 ua33 (.tup [.int 0, .non]) = uH33 at us33 ue33 ⊢
    refine ⟨(by show 1 ≤ sizeLine; decide), fun ua34 un34 => ?_⟩
    have us34 := Same.upd (o := .lst [.ref ua33]) un34
    have ue34 : upd uH33 ua34 (.lst [.ref ua33]) ua34 = some (.lst [.ref ua33]) := upd_same
    generalize upd uH33 ua34 (.lst [.ref ua33]) = uH34 at us34 ue34 ⊢
    refine ⟨(by show 2 ≤ sizeLine; decide), fun ua35 un35 => ?_⟩
    have us35 := Same.upd (o := .tup [.ref ua34, .int 0]) un35
    have ue35 : upd uH34 ua35 (.tup [.ref ua34, .int 0]) ua35 = some (.tup [.ref ua34, .int 0]) := upd_same
    generalize upd uH34 ua35 (.tup [.ref ua34, .int 0]) = uH35 at us35 ue35 ⊢
    refine ⟨(by show 2 ≤ sizeLine; decide), fun ua36 un36 => ?_⟩
    have us36 := Same.upd (o := .tup [.bl true, .bl true]) un36
    have ue36 : upd uH35 ua36 (.tup [.bl true, .bl true]) ua36 = some (.tup [.bl true, .bl true]) := upd_same
    generalize upd uH35 ua36 (.tup [.bl true, .bl true]) = uH36 at us36 ue36 ⊢
    refine ⟨(by show 1 ≤ sizeLine; decide), fun ua37 un37 => ?_⟩
    have us37 := Same.upd (o := .lst [.ref ua36]) un37
    have ue37 : upd uH36 ua37 (.lst [.ref ua36]) ua37 = some (.lst [.ref ua36]) := upd_same
    generalize upd uH36 ua37 (.lst [.ref ua36]) = uH37 at us37 ue37 ⊢
    refine ⟨(by show 2 ≤ sizeLine; decide), fun ua38 un38 => ?_⟩
    have us38 := Same.upd (o := .tup [.ref ua37, .int 0]) un38
    have ue38 : upd uH37 ua38 (.tup [.ref ua37, .int 0]) ua38 = some (.tup [.ref ua37, .int 0]) := upd_same
    generalize upd uH37 ua38 (.tup [.ref ua37, .int 0]) = uH38 at us38 ue38 ⊢
    refine ⟨(by show 3 ≤ sizeLine; decide), fun ua39 un39 => ?_⟩
    have us39 := Same.upd (o := .tup [.int 0, .bl true, .int 1]) un39
    have ue39 : upd uH38 ua39 (.tup [.int 0, .bl true, .int 1]) ua39 = some (.tup [.int 0, .bl true, .int 1]) := upd_same
    generalize upd uH38 ua39 (.tup [.int 0, .bl true, .int 1]) = uH39 at us39 ue39 ⊢
    refine ⟨(by show 1 ≤ sizeLine; decide), fun ua40 un40 => ?_⟩
    have us40 := Same.upd (o := .lst [.ref ua39]) un40
    have ue40 : upd uH39 ua40 (.lst [.ref ua39]) ua40 = some (.lst [.ref ua39]) := upd_same
    generalize upd uH39 ua40 (.lst [.ref ua39]) = uH40 at us40 ue40 ⊢
    refine ⟨(by show 2 ≤ sizeLine; decide), fun ua41 un41 => ?_⟩
    have us41 := Same.upd (o := .tup [.ref ua40, .int 0]) un41
    have ue41 : upd uH40 ua41 (.tup [.ref ua40, .int 0]) ua41 = some (.tup [.ref ua40, .int 0]) := upd_same
    generalize upd uH40 ua41 (.tup [.ref ua40, .int 0]) = uH41 at us41 ue41 ⊢
    refine ⟨(by show 5 ≤ sizeLine; decide), fun ua42 un42 => ?_⟩
    have us42 := Same.upd (o := .lst [(.ref ua29 : V), (.ref ua32 : V), (.ref ua35 : V), (.ref ua38 : V), (.ref ua41 : V)]) un42
    have ue42 : upd uH41 ua42 (.lst [(.ref ua29 : V), (.ref ua32 : V), (.ref ua35 : V), (.ref ua38 : V), (.ref ua41 : V)]) ua42 = some (.lst [(.ref ua29 : V), (.ref ua32 : V), (.ref ua35 : V), (.ref ua38 : V), (.ref ua41 : V)]) := upd_same
    generalize upd uH41 ua42 (.lst [(.ref ua29 : V), (.ref ua32 : V), (.ref ua35 : V), (.ref ua38 : V), (.ref ua41 : V)]) = uH42 at us42 ue42 ⊢
    refine ⟨ua26, ua42, _, _, rfl, rfl, (us42 _ _ (us41 _ _ (us40 _ _ (us39 _ _ (us38 _ _ (us37 _ _ (us36 _ _ (us35 _ _ (us34 _ _ (us33 _ _ (us32 _ _ (us31 _ _ (us30 _ _ (us29 _ _ (us28 _ _ (us27 _ _ ue26)))))))))))))))), ue42, (by show 14 ≤ sizeLine; decide), fun ua43 un43 => ?_⟩
    have us43 := Same.upd (o := .lst (([(.ref ua1 : V), (.ref ua4 : V), (.ref ua6 : V), (.ref ua7 : V), (.ref ua9 : V)] ++ [(.ref ua12 : V), (.ref ua16 : V), (.ref ua20 : V), (.ref ua24 : V)]) ++ [(.ref ua29 : V), (.ref ua32 : V), (.ref ua35 : V), (.ref ua38 : V), (.ref ua41 : V)])) un43
    have ue43 : upd uH42 ua43 (.lst (([(.ref ua1 : V), (.ref ua4 : V), (.ref ua6 : V), (.ref ua7 : V), (.ref ua9 : V)] ++ [(.ref ua12 : V), (.ref ua16 : V), (.ref ua20 : V), (.ref ua24 : V)]) ++ [(.ref ua29 : V), (.ref ua32 : V), (.ref ua35 : V), (.ref ua38 : V), (.ref ua41 : V)])) ua43 = some (.lst (([(.ref ua1 : V), (.ref ua4 : V), (.ref ua6 : V), (.ref ua7 : V), (.ref ua9 : V)] ++ [(.ref ua12 : V), (.ref ua16 : V), (.ref ua20 : V), (.ref ua24 : V)]) ++ [(.ref ua29 : V), (.ref ua32 : V), (.ref ua35 : V), (.ref ua38 : V), (.ref ua41 : V)])) := upd_same
    generalize upd uH42 ua43 (.lst (([(.ref ua1 : V), (.ref ua4 : V), (.ref ua6 : V), (.ref ua7 : V), (.ref ua9 : V)] ++ [(.ref ua12 : V), (.ref ua16 : V), (.ref ua20 : V), (.ref ua24 : V)]) ++ [(.ref ua29 : V), (.ref ua32 : V), (.ref ua35 : V), (.ref ua38 : V), (.ref ua41 : V)])) = uH43 at us43 ue43 ⊢
    refine ⟨_, rfl, ?_⟩
    refine ⟨(by show 2 ≤ sizeLine; decide), fun ua44 un44 => ?_⟩
    have us44 := Same.upd (o := .tup [.str "0", .bl true]) un44
    have ue44 : upd uH43 ua44 (.tup [.str "0", .bl true]) ua44 = some (.tup [.str "0", .bl true]) := upd_same
    generalize upd uH43 ua44 (.tup [.str "0", .bl true]) = uH44 at us44 ue44 ⊢
    refine ⟨(by show 1 ≤ sizeLine; decide), fun ua45 un45 => ?_⟩
    have us45 := Same.upd (o := .lst [.ref ua44]) un45
    have ue45 : upd uH44 ua45 (.lst [.ref ua44]) ua45 = some (.lst [.ref ua44]) := upd_same
    generalize upd uH44 ua45 (.lst [.ref ua44]) = uH45 at us45 ue45 ⊢
    refine ⟨(by show 2 ≤ sizeLine; decide), fun ua46 un46 => ?_⟩
    have us46 := Same.upd (o := .tup [.ref ua45, .int 0]) un46
    have ue46 : upd uH45 ua46 (.tup [.ref ua45, .int 0]) ua46 = some (.tup [.ref ua45, .int 0]) := upd_same
    generalize upd uH45 ua46 (.tup [.ref ua45, .int 0]) = uH46 at us46 ue46 ⊢
    refine fun ua47 un47 => ?_
    have us47 := Same.upd (o := .dK []) un47
    have ue47 : upd uH46 ua47 (.dK []) ua47 = some (.dK []) := upd_same
    generalize upd uH46 ua47 (.dK []) = uH47 at us47 ue47 ⊢
    refine ⟨(by show 1 ≤ sizeLine; decide), fun ua48 un48 => ?_⟩
    have us48 := Same.upd (o := .lst [.ref ua47]) un48
    have ue48 : upd uH47 ua48 (.lst [.ref ua47]) ua48 = some (.lst [.ref ua47]) := upd_same
    generalize upd uH47 ua48 (.lst [.ref ua47]) = uH48 at us48 ue48 ⊢
    refine ⟨(by show 2 ≤ sizeLine; decide), fun ua49 un49 => ?_⟩
    have us49 := Same.upd (o := .tup [.ref ua48, .int 0]) un49
    have ue49 : upd uH48 ua49 (.tup [.ref ua48, .int 0]) ua49 = some (.tup [.ref ua48, .int 0]) := upd_same
    generalize upd uH48 ua49 (.tup [.ref ua48, .int 0]) = uH49 at us49 ue49 ⊢
    refine ⟨(by show 2 ≤ sizeLine; decide), fun ua50 un50 => ?_⟩
    have us50 := Same.upd (o := .tup [.int 0, .bl true]) un50
    have ue50 : upd uH49 ua50 (.tup [.int 0, .bl true]) ua50 = some (.tup [.int 0, .bl true]) := upd_same
    generalize upd uH49 ua50 (.tup [.int 0, .bl true]) = uH50 at us50 ue50 ⊢
    refine ⟨(by show 2 ≤ sizeLine; decide), fun ua51 un51 => ?_⟩
    have us51 := Same.upd (o := .tup [.int 1, .str "True"]) un51
    have ue51 : upd uH50 ua51 (.tup [.int 1, .str "True"]) ua51 = some (.tup [.int 1, .str "True"]) := upd_same
    generalize upd uH50 ua51 (.tup [.int 1, .str "True"]) = uH51 at us51 ue51 ⊢
    refine ⟨(by show 2 ≤ sizeLine; decide), fun ua52 un52 => ?_⟩
    have us52 := Same.upd (o := .lst [.ref ua50, .ref ua51]) un52
    have ue52 : upd uH51 ua52 (.lst [.ref ua50, .ref ua51]) ua52 = some (.lst [.ref ua50, .ref ua51]) := upd_same
    generalize upd uH51 ua52 (.lst [.ref ua50, .ref ua51]) = uH52 at us52 ue52 ⊢
    refine ⟨(by show 2 ≤ sizeLine; decide), fun ua53 un53 => ?_⟩
    have us53 := Same.upd (o := .tup [.ref ua52, .int 1]) un53
    have ue53 : upd uH52 ua53 (.tup [.ref ua52, .int 1]) ua53 = some (.tup [.ref ua52, .int 1]) := upd_same
    generalize upd uH52 ua53 (.tup [.ref ua52, .int 1]) = uH53 at us53 ue53 ⊢
    refine ⟨(by show 1 ≤ sizeLine; decide), fun ua54 un54 => ?_⟩
    have us54 := Same.upd (o := .lst [.int 0]) un54
    have ue54 : upd uH53 ua54 (.lst [.int 0]) ua54 = some (.lst [.int 0]) := upd_same
    generalize upd uH53 ua54 (.lst [.int 0]) = uH54 at us54 ue54 ⊢
    refine ⟨(by show 2 ≤ sizeLine; decide), fun ua55 un55 => ?_⟩
    have us55 := Same.upd (o := .tup [.ref ua54, .bl true]) un55
    have ue55 : upd uH54 ua55 (.tup [.ref ua54, .bl true]) ua55 = some (.tup [.ref ua54, .bl true]) := upd_same
    generalize upd uH54 ua55 (.tup [.ref ua54, .bl true]) = uH55 at us55 ue55 ⊢
    refine ⟨(by show 1 ≤ sizeLine; decide), fun ua56 un56 => ?_⟩
    have us56 := Same.upd (o := .lst [.ref ua55]) un56
    have ue56 : upd uH55 ua56 (.lst [.ref ua55]) ua56 = some (.lst [.ref ua55]) := upd_same
    generalize upd uH55 ua56 (.lst [.ref ua55]) = uH56 at us56 ue56 ⊢
    refine ⟨(by show 2 ≤ sizeLine; decide), fun ua57 un57 => ?_⟩
    have us57 := Same.upd (o := .tup [.ref ua56, .int 0]) un57
    have ue57 : upd uH56 ua57 (.tup [.ref ua56, .int 0]) ua57 = some (.tup [.ref ua56, .int 0]) := upd_same
    generalize upd uH56 ua57 (.tup [.ref ua56, .int 0]) = uH57 at us57 ue57 ⊢
    refine ⟨(by show 1 ≤ sizeLine; decide), fun ua58 un58 => ?_⟩
    have us58 := Same.upd (o := .tup [.int 0]) un58
    have ue58 : upd uH57 ua58 (.tup [.int 0]) ua58 = some (.tup [.int 0]) := upd_same
    generalize upd uH57 ua58 (.tup [.int 0]) = uH58 at us58 ue58 ⊢
    refine ⟨(by show 1 ≤ sizeLine; decide), fun ua59 un59 => ?_⟩
    have us59 := Same.upd (o := .lst [.ref ua58]) un59
    have ue59 : upd uH58 ua59 (.lst [.ref ua58]) ua59 = some (.lst [.ref ua58]) := upd_same
    generalize upd uH58 ua59 (.lst [.ref ua58]) = uH59 at us59 ue59 ⊢
    refine ⟨(by show 2 ≤ sizeLine; decide), fun ua60 un60 => ?_⟩
    have us60 := Same.upd (o := .tup [.ref ua59, .int 0]) un60
    have ue60 : upd uH59 ua60 (.tup [.ref ua59, .int 0]) ua60 = some (.tup [.ref ua59, .int 0]) := upd_same
    generalize upd uH59 ua60 (.tup [.ref ua59, .int 0]) = uH60 at us60 ue60 ⊢
    refine ⟨(by show 5 ≤ sizeLine; decide), fun ua61 un61 => ?_⟩
    have us61 := Same.upd (o := .lst [(.ref ua46 : V), (.ref ua49 : V), (.ref ua53 : V), (.ref ua57 : V), (.ref ua60 : V)]) un61
    have ue61 : upd uH60 ua61 (.lst [(.ref ua46 : V), (.ref ua49 : V), (.ref ua53 : V), (.ref ua57 : V), (.ref ua60 : V)]) ua61 = some (.lst [(.ref ua46 : V), (.ref ua49 : V), (.ref ua53 : V), (.ref ua57 : V), (.ref ua60 : V)]) := upd_same
    generalize upd uH60 ua61 (.lst [(.ref ua46 : V), (.ref ua49 : V), (.ref ua53 : V), (.ref ua57 : V), (.ref ua60 : V)]) = uH61 at us61 ue61 ⊢
    refine ⟨ua43, ua61, _, _, rfl, rfl, (us61 _ _ (us60 _ _ (us59 _ _ (us58 _ _ (us57 _ _ (us56 _ _ (us55 _ _ (us54 _ _ (us53 _ _ (us52 _ _ (us51 _ _ (us50 _ _ (us49 _ _ (us48 _ _ (us47 _ _ (us46 _ _ (us45 _ _ (us44 _ _ ue43)))))))))))))))))), ue61, (by show 19 ≤ sizeLine; decide), fun ua62 un62 => ?_⟩
    have us62 := Same.upd (o := .lst ((([(.ref ua1 : V), (.ref ua4 : V), (.ref ua6 : V), (.ref ua7 : V), (.ref ua9 : V)] ++ [(.ref ua12 : V), (.ref ua16 : V), (.ref ua20 : V), (.ref ua24 : V)]) ++ [(.ref ua29 : V), (.ref ua32 : V), (.ref ua35 : V), (.ref ua38 : V), (.ref ua41 : V)]) ++ [(.ref ua46 : V), (.ref ua49 : V), (.ref ua53 : V), (.ref ua57 : V), (.ref ua60 : V)])) un62
    have ue62 : upd uH61 ua62 (.lst ((([(.ref ua1 : V), (.ref ua4 : V), (.ref ua6 : V), (.ref ua7 : V), (.ref ua9 : V)] ++ [(.ref ua12 : V), (.ref ua16 : V), (.ref ua20 : V), (.ref ua24 : V)]) ++ [(.ref ua29 : V), (.ref ua32 : V), (.ref ua35 : V), (.ref ua38 : V), (.ref ua41 : V)]) ++ [(.ref ua46 : V), (.ref ua49 : V), (.ref ua53 : V), (.ref ua57 : V), (.ref ua60 : V)])) ua62 = some (.lst ((([(.ref ua1 : V), (.ref ua4 : V), (.ref ua6 : V), (.ref ua7 : V), (.ref ua9 : V)] ++ [(.ref ua12 : V), (.ref ua16 : V), (.ref ua20 : V), (.ref ua24 : V)]) ++ [(.ref ua29 : V), (.ref ua32 : V), (.ref ua35 : V), (.ref ua38 : V), (.ref ua41 : V)]) ++ [(.ref ua46 : V), (.ref ua49 : V), (.ref ua53 : V), (.ref ua57 : V), (.ref ua60 : V)])) := upd_same
    generalize upd uH61 ua62 (.lst ((([(.ref ua1 : V), (.ref ua4 : V), (.ref ua6 : V), (.ref ua7 : V), (.ref ua9 : V)] ++ [(.ref ua12 : V), (.ref ua16 : V), (.ref ua20 : V), (.ref ua24 : V)]) ++ [(.ref ua29 : V), (.ref ua32 : V), (.ref ua35 : V), (.ref ua38 : V), (.ref ua41 : V)]) ++ [(.ref ua46 : V), (.ref ua49 : V), (.ref ua53 : V), (.ref ua57 : V), (.ref ua60 : V)])) = uH62 at us62 ue62 ⊢
    have uS62 := Same.refl uH62
    have uS61 := us62.trans uS62
    have uS60 := us61.trans uS61
    have uS59 := us60.trans uS60
    have uS58 := us59.trans uS59
    have uS57 := us58.trans uS58
    have uS56 := us57.trans uS57
    have uS55 := us56.trans uS56
    have uS54 := us55.trans uS55
    have uS53 := us54.trans uS54
    have uS52 := us53.trans uS53
    have uS51 := us52.trans uS52
    have uS50 := us51.trans uS51
    have uS49 := us50.trans uS50
    have uS48 := us49.trans uS49
    have uS47 := us48.trans uS48
    have uS46 := us47.trans uS47
    have uS45 := us46.trans uS46
    have uS44 := us45.trans uS45
    have uS43 := us44.trans uS44
    have uS42 := us43.trans uS43
    have uS41 := us42.trans uS42
    have uS40 := us41.trans uS41
    have uS39 := us40.trans uS40
    have uS38 := us39.trans uS39
    have uS37 := us38.trans uS38
    have uS36 := us37.trans uS37
    have uS35 := us36.trans uS36
    have uS34 := us35.trans uS35
    have uS33 := us34.trans uS34
    have uS32 := us33.trans uS33
    have uS31 := us32.trans uS32
    have uS30 := us31.trans uS31
    have uS29 := us30.trans uS30
    have uS28 := us29.trans uS29
    have uS27 := us28.trans uS28
    have uS26 := us27.trans uS27
    have uS25 := us26.trans uS26
    have uS24 := us25.trans uS25
    have uS23 := us24.trans uS24
    have uS22 := us23.trans uS23
    have uS21 := us22.trans uS22
    have uS20 := us21.trans uS21
    have uS19 := us20.trans uS20
    have uS18 := us19.trans uS19
    have uS17 := us18.trans uS18
    have uS16 := us17.trans uS17
    have uS15 := us16.trans uS16
    have uS14 := us15.trans uS15
    have uS13 := us14.trans uS14
    have uS12 := us13.trans uS13
    have uS11 := us12.trans uS12
    have uS10 := us11.trans uS11
    have uS9 := us10.trans uS10
    have uS8 := us9.trans uS9
    have uS7 := us8.trans uS8
    have uS6 := us7.trans uS7
    have uS5 := us6.trans uS6
    have uS4 := us5.trans uS5
    have uS3 := us4.trans uS4
    have uS2 := us3.trans uS3
    have uS1 := us2.trans uS2
    have uS0 := us1.trans uS1
    have uE1 := uS1 _ _ ue1
    have uE2 := uS2 _ _ ue2
    have uE3 := uS3 _ _ ue3
    have uE4 := uS4 _ _ ue4
    have uE5 := uS5 _ _ ue5
    have uE6 := uS6 _ _ ue6
    have uE7 := uS7 _ _ ue7
    have uE8 := uS8 _ _ ue8
    have uE9 := uS9 _ _ ue9
    have uE10 := uS10 _ _ ue10
    have uE11 := uS11 _ _ ue11
    have uE12 := uS12 _ _ ue12
    have uE13 := uS13 _ _ ue13
    have uE14 := uS14 _ _ ue14
    have uE15 := uS15 _ _ ue15
    have uE16 := uS16 _ _ ue16
    have uE17 := uS17 _ _ ue17
    have uE18 := uS18 _ _ ue18
    have uE19 := uS19 _ _ ue19
    have uE20 := uS20 _ _ ue20
    have uE21 := uS21 _ _ ue21
    have uE22 := uS22 _ _ ue22
    have uE23 := uS23 _ _ ue23
    have uE24 := uS24 _ _ ue24
    have uE25 := uS25 _ _ ue25
    have uE26 := uS26 _ _ ue26
    have uE27 := uS27 _ _ ue27
    have uE28 := uS28 _ _ ue28
    have uE29 := uS29 _ _ ue29
    have uE30 := uS30 _ _ ue30
    have uE31 := uS31 _ _ ue31
    have uE32 := uS32 _ _ ue32
    have uE33 := uS33 _ _ ue33
    have uE34 := uS34 _ _ ue34
    have uE35 := uS35 _ _ ue35
    have uE36 := uS36 _ _ ue36
    have uE37 := uS37 _ _ ue37
    have uE38 := uS38 _ _ ue38
    have uE39 := uS39 _ _ ue39
    have uE40 := uS40 _ _ ue40
    have uE41 := uS41 _ _ ue41
    have uE42 := uS42 _ _ ue42
    have uE43 := uS43 _ _ ue43
    have uE44 := uS44 _ _ ue44
    have uE45 := uS45 _ _ ue45
    have uE46 := uS46 _ _ ue46
    have uE47 := uS47 _ _ ue47
    have uE48 := uS48 _ _ ue48
    have uE49 := uS49 _ _ ue49
    have uE50 := uS50 _ _ ue50
    have uE51 := uS51 _ _ ue51
    have uE52 := uS52 _ _ ue52
    have uE53 := uS53 _ _ ue53
    have uE54 := uS54 _ _ ue54
    have uE55 := uS55 _ _ ue55
    have uE56 := uS56 _ _ ue56
    have uE57 := uS57 _ _ ue57
    have uE58 := uS58 _ _ ue58
    have uE59 := uS59 _ _ ue59
    have uE60 := uS60 _ _ ue60
    have uE61 := uS61 _ _ ue61
    have uE62 := uS62 _ _ ue62
    have g1 : ∀ x ∈ [(.ref ua1 : V), (.ref ua4 : V), (.ref ua6 : V), (.ref ua7 : V), (.ref ua9 : V), (.ref ua12 : V), (.ref ua16 : V), (.ref ua20 : V), (.ref ua24 : V), (.ref ua29 : V), (.ref ua32 : V), (.ref ua35 : V), (.ref ua38 : V), (.ref ua41 : V), (.ref ua46 : V), (.ref ua49 : V), (.ref ua53 : V), (.ref ua57 : V), (.ref ua60 : V)], RowP LogBad uH62 x := fun x hx => by
      simp only [List.mem_cons, List.mem_nil_iff, or_false] at hx
      rcases hx with rfl | rfl | rfl | rfl | rfl | rfl | rfl | rfl | rfl | rfl | rfl | rfl | rfl | rfl | rfl | rfl | rfl | rfl | rfl
      · exact (⟨ua1, .non, -1, rfl, uE1, (.kind .non (by decide) : LogBad uH62 (.non) (-1))⟩ : RowP LogBad uH62 (.ref ua1))
      · exact (⟨ua4, .ref ua3, -1, rfl, uE4, (.kind (.tup uE3) (by decide) : LogBad uH62 (.ref ua3) (-1))⟩ : RowP LogBad uH62 (.ref ua4))
      · exact (⟨ua6, .ref ua5, -1, rfl, uE6, (.kind (.dK uE5) (by decide) : LogBad uH62 (.ref ua5) (-1))⟩ : RowP LogBad uH62 (.ref ua6))
      · exact (⟨ua7, .str "x", -1, rfl, uE7, (.kind (.str _) (by decide) : LogBad uH62 (.str "x") (-1))⟩ : RowP LogBad uH62 (.ref ua7))
      · exact (⟨ua9, .ref ua8, -1, rfl, uE9, (.many uE8 (by have := paired_len ug8; rw [lgN_len] at this; rw [this]; decide) : LogBad uH62 (.ref ua8) (-1))⟩ : RowP LogBad uH62 (.ref ua9))
      · exact (⟨ua12, .ref ua11, 0, rfl, uE12, (.item (pre := []) (post := []) (ps := []) uE11 .nil ⟨by simp [Asc], by decide⟩ (Nat.le_of_ble_eq_true rfl) (.inl (.kind .non (by decide))) : LogBad uH62 (.ref ua11) (0))⟩ : RowP LogBad uH62 (.ref ua12))
      · exact (⟨ua16, .ref ua15, 1, rfl, uE16, (.item (pre := [.ref ua13]) (post := []) (ps := [(0, true)]) uE15 (.cons ⟨_, rfl, uE13⟩ .nil) ⟨by simp [Asc], by decide⟩ (Nat.le_of_ble_eq_true rfl) (.inl (.kind (.lst uE14) (by decide))) : LogBad uH62 (.ref ua15) (1))⟩ : RowP LogBad uH62 (.ref ua16))
      · exact (⟨ua20, .ref ua19, 1, rfl, uE20, (.item (pre := [.ref ua17]) (post := []) (ps := [(0, true)]) uE19 (.cons ⟨_, rfl, uE17⟩ .nil) ⟨by simp [Asc], by decide⟩ (Nat.le_of_ble_eq_true rfl) (.inr ⟨(0, true), ⟨_, rfl, uE18⟩, by decide, by decide⟩) : LogBad uH62 (.ref ua19) (1))⟩ : RowP LogBad uH62 (.ref ua20))
      · exact (⟨ua24, .ref ua23, 1, rfl, uE24, (.item (pre := [.ref ua21]) (post := []) (ps := [(3, true)]) uE23 (.cons ⟨_, rfl, uE21⟩ .nil) ⟨by simp [Asc], by decide⟩ (Nat.le_of_ble_eq_true rfl) (.inr ⟨(2, false), ⟨_, rfl, uE22⟩, by decide, by decide⟩) : LogBad uH62 (.ref ua23) (1))⟩ : RowP LogBad uH62 (.ref ua24))
      · exact (⟨ua29, .ref ua28, 0, rfl, uE29, (.item (pre := []) (post := []) (ps := []) uE28 .nil ⟨by simp [Asc], by decide⟩ (Nat.le_of_ble_eq_true rfl) (.inl (.num uE27 (.int _) (.bl _) rfl)) : LogBad uH62 (.ref ua28) (0))⟩ : RowP LogBad uH62 (.ref ua29))
      · exact (⟨ua32, .ref ua31, 0, rfl, uE32, (.item (pre := []) (post := []) (ps := []) uE31 .nil ⟨by simp [Asc], by decide⟩ (Nat.le_of_ble_eq_true rfl) (.inl (.num uE30 (.int _) (.int _) rfl)) : LogBad uH62 (.ref ua31) (0))⟩ : RowP LogBad uH62 (.ref ua32))
      · exact (⟨ua35, .ref ua34, 0, rfl, uE35, (.item (pre := []) (post := []) (ps := []) uE34 .nil ⟨by simp [Asc], by decide⟩ (Nat.le_of_ble_eq_true rfl) (.inl (.num uE33 (.int _) .non rfl)) : LogBad uH62 (.ref ua34) (0))⟩ : RowP LogBad uH62 (.ref ua35))
      · exact (⟨ua38, .ref ua37, 0, rfl, uE38, (.item (pre := []) (post := []) (ps := []) uE37 .nil ⟨by simp [Asc], by decide⟩ (Nat.le_of_ble_eq_true rfl) (.inl (.num uE36 (.bl _) (.bl _) rfl)) : LogBad uH62 (.ref ua37) (0))⟩ : RowP LogBad uH62 (.ref ua38))
      · exact (⟨ua41, .ref ua40, 0, rfl, uE41, (.item (pre := []) (post := []) (ps := []) uE40 .nil ⟨by simp [Asc], by decide⟩ (Nat.le_of_ble_eq_true rfl) (.inl (.len uE39 (by decide))) : LogBad uH62 (.ref ua40) (0))⟩ : RowP LogBad uH62 (.ref ua41))
      · exact (⟨ua46, .ref ua45, 0, rfl, uE46, (.item (pre := []) (post := []) (ps := []) uE45 .nil ⟨by simp [Asc], by decide⟩ (Nat.le_of_ble_eq_true rfl) (.inl (.num uE44 (.str _) (.bl _) rfl)) : LogBad uH62 (.ref ua45) (0))⟩ : RowP LogBad uH62 (.ref ua46))
      · exact (⟨ua49, .ref ua48, 0, rfl, uE49, (.item (pre := []) (post := []) (ps := []) uE48 .nil ⟨by simp [Asc], by decide⟩ (Nat.le_of_ble_eq_true rfl) (.inl (.kind (.dK uE47) (by decide))) : LogBad uH62 (.ref ua48) (0))⟩ : RowP LogBad uH62 (.ref ua49))
      · exact (⟨ua53, .ref ua52, 1, rfl, uE53, (.item (pre := [.ref ua50]) (post := []) (ps := [(0, true)]) uE52 (.cons ⟨_, rfl, uE50⟩ .nil) ⟨by simp [Asc], by decide⟩ (Nat.le_of_ble_eq_true rfl) (.inl (.num uE51 (.int _) (.str _) rfl)) : LogBad uH62 (.ref ua52) (1))⟩ : RowP LogBad uH62 (.ref ua53))
      · exact (⟨ua57, .ref ua56, 0, rfl, uE57, (.item (pre := []) (post := []) (ps := []) uE56 .nil ⟨by simp [Asc], by decide⟩ (Nat.le_of_ble_eq_true rfl) (.inl (.num uE55 (.lst uE54) (.bl _) rfl)) : LogBad uH62 (.ref ua56) (0))⟩ : RowP LogBad uH62 (.ref ua57))
      · exact (⟨ua60, .ref ua59, 0, rfl, uE60, (.item (pre := []) (post := []) (ps := []) uE59 .nil ⟨by simp [Asc], by decide⟩ (Nat.le_of_ble_eq_true rfl) (.inl (.len uE58 (by decide))) : LogBad uH62 (.ref ua59) (0))⟩ : RowP LogBad uH62 (.ref ua60))
    have uE62 : uH62 ua62 = some (.lst [(.ref ua1 : V), (.ref ua4 : V), (.ref ua6 : V), (.ref ua7 : V), (.ref ua9 : V), (.ref ua12 : V), (.ref ua16 : V), (.ref ua20 : V), (.ref ua24 : V), (.ref ua29 : V), (.ref ua32 : V), (.ref ua35 : V), (.ref ua38 : V), (.ref ua41 : V), (.ref ua46 : V), (.ref ua49 : V), (.ref ua53 : V), (.ref ua57 : V), (.ref ua60 : V)]) := uE62
    generalize [(.ref ua1 : V), (.ref ua4 : V), (.ref ua6 : V), (.ref ua7 : V), (.ref ua9 : V), (.ref ua12 : V), (.ref ua16 : V), (.ref ua20 : V), (.ref ua24 : V), (.ref ua29 : V), (.ref ua32 : V), (.ref ua35 : V), (.ref ua38 : V), (.ref ua41 : V), (.ref ua46 : V), (.ref ua49 : V), (.ref ua53 : V), (.ref ua57 : V), (.ref ua60 : V)] = L1 at uE62 g1
    have exA := LamX.ExtN.of uS0
    have tabs := Tabs.nl tabs (NL.of uS0)
    have k : ∀ H', LamX.ExtN uH62 H' → LamX.Tabs (LT L) H' → Q (.bl true) H' := fun H' e t => k H' (exA.trans e) t
    refine ⟨_, rfl, ua62, rfl, ⟨_, SqL.of uE62⟩, for_list (K := K) (a := ua62) (xs := L1) (fun i σ Hx => ∃ v1 v3 v5 : Option V, σ = [some (.int m), v1, some (.ref ua62), v3, none, v5, none, none] ∧ LamX.ExtN uH62 Hx ∧ LamX.Tabs (LT L) Hx) ⟨none, none, none, rfl, LamX.ExtN.refl _, tabs⟩ (fun i σ Hx _ ⟨_, _, _, _, ex, _⟩ => SqL.of (ExtN.lst ex uE62)) ?_ ?_⟩
    · rintro i x σ Hx hxi ⟨v1, v3, v5, rfl, ex, tx⟩
      obtain ⟨b, v, at_, rfl, eb, bad⟩ := RowP.ext (P := LogBad) (fun _ _ _ _ => LogBad.ext) (g1 x (List.mem_of_getElem? hxi)) ex
      refine ⟨b, _, rfl, SqT.of eb, rfl, _, _, rfl, _, _, rfl, rfl, ?_⟩
      refine ⟨tx, fun K1 f1 c1 H1 ok1 t1 ex1 tx1 kp1 => ⟨tx1, fun K2 f2 c2 H2 ok2 t2 ex2 tx2 kp2 => ⟨(by show 2 ≤ sizeLine; decide), fun la nla => ?_⟩⟩⟩
      have Sl := Same.upd (o := .lst [.ref f1, .ref f2]) nla
      have el := upd_same (H := H2) (a := la) (o := .lst [.ref f1, .ref f2])
      have tl := Tabs.nl tx2 (NL.of Sl)
      generalize upd H2 la (.lst [.ref f1, .ref f2]) = H2' at Sl el tl ⊢
      refine ⟨_, rfl, .inl ⟨rfl, _, SqL.of el⟩, tl, fun K3 f3 c3 H3 ok3 t3 ex3 tx3 kp3 => ?_⟩
      have el3 := ExtN.lst ex3 el
      refine ⟨la, _, _, rfl, rfl, el3, small1 (Nat.le_of_ble_eq_true rfl), ?_⟩
      have n4 : NL H3 (upd H3 la (.lst ([.ref f1, .ref f2] ++ [.ref f3]))) := fun b o e n => by
        rw [upd_ne (fun z => by rw [z, el3] at e; exact n _ (Option.some.inj e).symm)]
        exact e
      have e4 := upd_same (H := H3) (a := la) (o := .lst ([.ref f1, .ref f2] ++ [.ref f3]))
      have ex4 : LamX.ExtN H2 (upd H3 la (.lst ([.ref f1, .ref f2] ++ [.ref f3]))) := fun b o e n => by
        rw [upd_ne (ne_of_none e nla)]
        exact ex3 _ _ (Sl _ _ e) n
      have tx4 := Tabs.nl tx3 n4
      have kp34 := KeepAt.nl kp3 n4
      generalize upd H3 la (.lst ([.ref f1, .ref f2] ++ [.ref f3])) = H4 at e4 ex4 tx4 kp34 ⊢
      have ex04 := (ex1.trans ex2).trans ex4
      have bad4 := bad.ext ex04
      refine ⟨_, rfl, la, rfl, ⟨_, SqL.of e4⟩, fun D nD => asks_lc (L := L) (g0 := g0) (at_ := at_) (σ := [some (.int m), some (.int at_), some (.ref ua62), some (.ref la), none, some v, none, none]) rfl (fun _ => rfl) e4 (Nat.le_of_ble_eq_true rfl) (fun x hx => ?_) tx4 nD fun ys H5 hD ly yl ex5 tx5 => ?_⟩
      · rcases List.mem_append.mp hx with hx | hx
        · rcases List.mem_cons.mp hx with rfl | hx
          · exact ⟨K1, f1, c1, rfl, ok1, kp1.ext (ex2.trans ex4), fun Hy Q N E eH tH hE kk => by
              rw [t1]
              exact ⟨_, rfl, .inr ⟨v, at_, rfl, bad4.ext eH, said_log T hE fun p H' hp s => kk p H' hp (LamX.ExtN.of s) (Tabs.nl tH (NL.of s))⟩⟩⟩
          · rw [List.mem_singleton.mp hx]
            exact ⟨K2, f2, c2, rfl, ok2, kp2.ext ex4, fun Hy Q N E eH tH hE kk => by
              rw [t2]
              exact ⟨_, rfl, .inr ⟨v, at_, rfl, bad4.ext eH, said_log T hE fun p H' hp s => kk p H' hp (LamX.ExtN.of s) (Tabs.nl tH (NL.of s))⟩⟩⟩
        · rw [List.mem_singleton.mp hx]
          exact ⟨K3, f3, c3, rfl, ok3, kp34, fun Hy Q N E eH tH hE kk => by
            rw [t3]
            exact ⟨_, rfl, .inr ⟨v, .non, rfl, .inl ⟨at_, bad4.ext eH, said_log T hE fun p H' hp s => kk p H' hp (LamX.ExtN.of s) (Tabs.nl tH (NL.of s))⟩⟩⟩⟩
      refine ⟨_, rfl, (by show 2 ≤ sizeLine; decide), fun q6 m6 => ⟨(by show 1 ≤ sizeLine; decide), fun q7 m7 => ⟨q7, 3, [.ref q6], rfl, rfl, upd_same, by decide, by decide, (by show 1 * 3 ≤ sizeLine; decide), fun q8 m8 => ?_⟩⟩⟩
      have S6 := Same.upd (o := .tup [.str "log", .int at_]) m6
      have S7 := Same.upd (o := .lst [.ref q6]) m7
      have S8 := Same.upd (o := .lst (List.replicate (3 : Int).toNat [V.ref q6]).flatten) m8
      have SS := (S6.trans S7).trans S8
      have h6 := S8 _ _ (S7 _ _ (upd_same (H := H5) (a := q6) (o := .tup [.str "log", .int at_])))
      refine ⟨log3 at_, log3 at_, dpLog3 (SS _ _ hD) (ly.same SS) yl, .lst (SqL.of upd_same) (.cons (dpLog h6) (.cons (dpLog h6) (.cons (dpLog h6) .nil))), shLog3 _, shLog3 _, ?_⟩
      rw [eqLog3]
      exact ⟨_, rfl, iteF ⟨_, _, _, rfl, (ex.trans ex04).trans (ex5.trans (LamX.ExtN.of SS)), Tabs.nl tx5 (NL.of SS)⟩⟩
    rintro σ HB0 ⟨v1, v3, v5, rfl, exB, tabs⟩
    have k : ∀ H', LamX.ExtN HB0 H' → LamX.Tabs (LT L) H' → Q (.bl true) H' := fun H' e t => k H' (exB.trans e) t
    refine ⟨1000, rfl, by decide, by decide, fun ll nll => lc_lg nll (by decide) ?_⟩
    rintro HC zs hll gz sC
    have zl := paired_len gz
    rw [lgN_len] at zl
    have tabs := Tabs.nl tabs (NL.of sC)
    have k : ∀ H', LamX.ExtN HC H' → LamX.Tabs (LT L) H' → Q (.bl true) H' := fun H' e t => k H' ((LamX.ExtN.of sC).trans e) t
    refine ⟨tabs, fun K1 f1 c1 H1 ok1 t1 ex1 tx1 kp1 => ⟨tx1, fun K2 f2 c2 H2 ok2 t2 ex2 tx2 kp2 => ⟨(by show 2 ≤ sizeLine; decide), fun la nla => ?_⟩⟩⟩
    have Sl := Same.upd (o := .lst [.ref f1, .ref f2]) nla
    have el := upd_same (H := H2) (a := la) (o := .lst [.ref f1, .ref f2])
    have tl := Tabs.nl tx2 (NL.of Sl)
    generalize upd H2 la (.lst [.ref f1, .ref f2]) = H2' at Sl el tl ⊢
    refine ⟨_, rfl, .inl ⟨rfl, _, SqL.of el⟩, tl, fun K3 f3 c3 H3 ok3 t3 ex3 tx3 kp3 => ?_⟩
    have el3 := ExtN.lst ex3 el
    refine ⟨la, _, _, rfl, rfl, el3, small1 (Nat.le_of_ble_eq_true rfl), ?_⟩
    have n4 : NL H3 (upd H3 la (.lst ([.ref f1, .ref f2] ++ [.ref f3]))) := fun b o e n => by
      rw [upd_ne (fun z => by rw [z, el3] at e; exact n _ (Option.some.inj e).symm)]
      exact e
    have e4 := upd_same (H := H3) (a := la) (o := .lst ([.ref f1, .ref f2] ++ [.ref f3]))
    have ex4 : LamX.ExtN H2 (upd H3 la (.lst ([.ref f1, .ref f2] ++ [.ref f3]))) := fun b o e n => by
      rw [upd_ne (ne_of_none e nla)]
      exact ex3 _ _ (Sl _ _ e) n
    have tx4 := Tabs.nl tx3 n4
    have kp34 := KeepAt.nl kp3 n4
    generalize upd H3 la (.lst ([.ref f1, .ref f2] ++ [.ref f3])) = H4 at e4 ex4 tx4 kp34 ⊢
    have ex04 := (ex1.trans ex2).trans ex4
    have hl4 := ExtN.lst ex04 hll
    have gz4 := Lgs.ext ex04 gz
    have tkl : (zs.take m).length = m := by rw [List.length_take]; omega
    have gzm : ∀ {Hy : Hp}, LamX.ExtN H4 Hy → Lgs Hy (zs.take m) (lgN m) := fun e => by
      have := paired_takeF m (Lgs.ext e gz4)
      rw [lgN_take (by omega)] at this
      exact this
    have cutm : cutV zs none (some (m : Int)) = zs.take m := cut_tk (by omega)
    refine ⟨_, rfl, la, rfl, ⟨_, SqL.of e4⟩, fun D nD => asks_lc (L := L) (g0 := g0) (at_ := (m : Int)) (σ := [some (.int m), v1, some (.ref ua62), some (.ref la), some (.ref ll), v5, none, none]) rfl (fun _ => rfl) e4 (Nat.le_of_ble_eq_true rfl) (fun x hx => ?_) tx4 nD fun ys H5 hD ly yl ex5 tx5 => ?_⟩
    · rcases List.mem_append.mp hx with hx | hx
      · rcases List.mem_cons.mp hx with rfl | hx
        · refine ⟨K1, f1, c1, rfl, ok1, kp1.ext (ex2.trans ex4), fun Hy Q N E eH tH hE kk => ?_⟩
          rw [t1]
          refine ⟨_, rfl, _, rfl, _, rfl, ll, zs, rfl, SqL.of (ExtN.lst eH hl4), fun q1 n1 => ?_⟩
          rw [cutm]
          have S1 := Same.upd (o := .lst (zs.take m)) n1
          have h1 := upd_same (H := Hy) (a := q1) (o := .lst (zs.take m))
          generalize upd Hy q1 (.lst (zs.take m)) = J1 at S1 h1 ⊢
          refine ⟨_, rfl, (by show 2 ≤ sizeLine; decide), fun q2 n2 => ?_⟩
          have S2 := Same.upd (o := .tup [.int m, .int 1]) n2
          have h2 := upd_same (H := J1) (a := q2) (o := .tup [.int m, .int 1])
          generalize upd J1 q2 (.tup [.int m, .int 1]) = J2 at S2 h2 ⊢
          refine ⟨(by show 1 ≤ sizeLine; decide), fun q3 n3 => ?_⟩
          have S3 := Same.upd (o := .lst [.ref q2]) n3
          have h3 := upd_same (H := J2) (a := q3) (o := .lst [.ref q2])
          generalize upd J2 q3 (.lst [.ref q2]) = J3 at S3 h3 ⊢
          refine ⟨q1, q3, _, _, rfl, rfl, S3 _ _ (S2 _ _ h1), h3, small2 (by rw [tkl]; show m + 1 ≤ 100000; omega), fun q4 n4 => ?_⟩
          have S4 := Same.upd (o := .lst (zs.take m ++ [.ref q2])) n4
          have h4 := upd_same (H := J3) (a := q4) (o := .lst (zs.take m ++ [.ref q2]))
          generalize upd J3 q4 (.lst (zs.take m ++ [.ref q2])) = J4 at S4 h4 ⊢
          have SS := ((S1.trans S2).trans S3).trans S4
          have gm := gzm (eH.trans (LamX.ExtN.of SS))
          have tJ := Tabs.nl tH (NL.of SS)
          exact .inr ⟨.ref q4, m, rfl, logBad_cut h4 tkl m2 gm (.inl (.num (S4 _ _ (S3 _ _ h2)) (.int _) (.int _) (by rw [show (("int" : String) == "bool") = false by decide, Bool.and_false]))), said_log T hE fun p H' hp s => kk p H' hp (LamX.ExtN.of (SS.trans s)) (Tabs.nl tJ (NL.of s))⟩
        · rw [List.mem_singleton.mp hx]
          refine ⟨K2, f2, c2, rfl, ok2, kp2.ext ex4, fun Hy Q N E eH tH hE kk => ?_⟩
          rw [t2]
          refine ⟨_, rfl, _, rfl, _, rfl, ll, zs, rfl, SqL.of (ExtN.lst eH hl4), fun q1 n1 => ?_⟩
          rw [cutm]
          have S1 := Same.upd (o := .lst (zs.take m)) n1
          have h1 := upd_same (H := Hy) (a := q1) (o := .lst (zs.take m))
          generalize upd Hy q1 (.lst (zs.take m)) = J1 at S1 h1 ⊢
          obtain ⟨J2, hJ2⟩ : ∃ J2, J2 = J1 := ⟨_, rfl⟩
          rw [← hJ2]
          have S2 : Same J1 J2 := hJ2 ▸ Same.refl J1
          refine ⟨(by show 1 ≤ sizeLine; decide), fun q3 n3 => ?_⟩
          have S3 := Same.upd (o := .lst [.non]) n3
          have h3 := upd_same (H := J2) (a := q3) (o := .lst [.non])
          generalize upd J2 q3 (.lst [.non]) = J3 at S3 h3 ⊢
          refine ⟨q1, q3, _, _, rfl, rfl, S3 _ _ (S2 _ _ h1), h3, small2 (by rw [tkl]; show m + 1 ≤ 100000; omega), fun q4 n4 => ?_⟩
          have S4 := Same.upd (o := .lst (zs.take m ++ [.non])) n4
          have h4 := upd_same (H := J3) (a := q4) (o := .lst (zs.take m ++ [.non]))
          generalize upd J3 q4 (.lst (zs.take m ++ [.non])) = J4 at S4 h4 ⊢
          have SS := ((S1.trans S2).trans S3).trans S4
          have gm := gzm (eH.trans (LamX.ExtN.of SS))
          have tJ := Tabs.nl tH (NL.of SS)
          exact .inr ⟨.ref q4, m, rfl, logBad_cut h4 tkl m2 gm (.inl (.kind .non (by decide))), said_log T hE fun p H' hp s => kk p H' hp (LamX.ExtN.of (SS.trans s)) (Tabs.nl tJ (NL.of s))⟩
      · rw [List.mem_singleton.mp hx]
        refine ⟨K3, f3, c3, rfl, ok3, kp34, fun Hy Q N E eH tH hE kk => ?_⟩
        rw [t3]
        refine ⟨_, rfl, _, rfl, _, rfl, ll, zs, rfl, SqL.of (ExtN.lst eH hl4), fun q1 n1 => ?_⟩
        rw [cutm]
        have S1 := Same.upd (o := .lst (zs.take m)) n1
        have h1 := upd_same (H := Hy) (a := q1) (o := .lst (zs.take m))
        generalize upd Hy q1 (.lst (zs.take m)) = J1 at S1 h1 ⊢
        refine ⟨_, rfl, _, _, rfl, rfl, (by show 2 ≤ sizeLine; decide), fun q2 n2 => ?_⟩
        have S2 := Same.upd (o := .tup [.int (m - 1), .bl false]) n2
        have h2 := upd_same (H := J1) (a := q2) (o := .tup [.int (m - 1), .bl false])
        generalize upd J1 q2 (.tup [.int (m - 1), .bl false]) = J2 at S2 h2 ⊢
        refine ⟨(by show 1 ≤ sizeLine; decide), fun q3 n3 => ?_⟩
        have S3 := Same.upd (o := .lst [.ref q2]) n3
        have h3 := upd_same (H := J2) (a := q3) (o := .lst [.ref q2])
        generalize upd J2 q3 (.lst [.ref q2]) = J3 at S3 h3 ⊢
        refine ⟨q1, q3, _, _, rfl, rfl, S3 _ _ (S2 _ _ h1), h3, small2 (by rw [tkl]; show m + 1 ≤ 100000; omega), fun q4 n4 => ?_⟩
        have S4 := Same.upd (o := .lst (zs.take m ++ [.ref q2])) n4
        have h4 := upd_same (H := J3) (a := q4) (o := .lst (zs.take m ++ [.ref q2]))
        generalize upd J3 q4 (.lst (zs.take m ++ [.ref q2])) = J4 at S4 h4 ⊢
        have SS := ((S1.trans S2).trans S3).trans S4
        have gm := gzm (eH.trans (LamX.ExtN.of SS))
        have tJ := Tabs.nl tH (NL.of SS)
        exact .inr ⟨.ref q4, .int 2000, rfl, .inl ⟨m, logBad_cut h4 tkl m2 gm (.inr ⟨((m : Int) - 1, false), ⟨q2, rfl, S4 _ _ (S3 _ _ h2)⟩, by show (0 : Int) ≤ (m : Int) - 1; omega, Int.le_refl _⟩), said_log T hE fun p H' hp s => kk p H' hp (LamX.ExtN.of (SS.trans s)) (Tabs.nl tJ (NL.of s))⟩⟩
    refine ⟨_, rfl, (by show 2 ≤ sizeLine; decide), fun q6 m6 => ⟨(by show 1 ≤ sizeLine; decide), fun q7 m7 => ⟨q7, 3, [.ref q6], rfl, rfl, upd_same, by decide, by decide, (by show 1 * 3 ≤ sizeLine; decide), fun q8 m8 => ?_⟩⟩⟩
    have S6 := Same.upd (o := .tup [.str "log", .int m]) m6
    have S7 := Same.upd (o := .lst [.ref q6]) m7
    have S8 := Same.upd (o := .lst (List.replicate (3 : Int).toNat [V.ref q6]).flatten) m8
    have SS := (S6.trans S7).trans S8
    have h6 := S8 _ _ (S7 _ _ (upd_same (H := H5) (a := q6) (o := .tup [.str "log", .int m])))
    refine ⟨log3 m, log3 m, dpLog3 (SS _ _ hD) (ly.same SS) yl, .lst (SqL.of upd_same) (.cons (dpLog h6) (.cons (dpLog h6) (.cons (dpLog h6) .nil))), shLog3 _, shLog3 _, ?_⟩
    rw [eqLog3]
    have ex6 := ex04.trans (ex5.trans (LamX.ExtN.of SS))
    have tx6 := Tabs.nl tx5 (NL.of SS)
    generalize upd (upd (upd H5 q6 (.tup [.str "log", .int m])) q7 (.lst [.ref q6])) q8 (.lst (List.replicate (3 : Int).toNat [V.ref q6]).flatten) = H6 at ex6 tx6 ⊢
    have k : ∀ H', LamX.ExtN H6 H' → LamX.Tabs (LT L) H' → Q (.bl true) H' := fun H' e t => k H' (ex6.trans e) t
    have hl6 := ExtN.lst ex6 hll
    have gz6 := Lgs.ext ex6 gz
    refine ⟨_, rfl, iteF ?_⟩
    refine ⟨_, rfl, ll, zs, lgN 1000, rfl, hl6, gz6, lgN_ok (by decide), fun l7 ys7 H7 hl7 hb7 s7 _ => ?_⟩
    refine ⟨1, 1000, rfl, ⟨by decide, by decide, by decide, by decide⟩, fun D8 nD8 => ?_⟩
    refine lc_range (lo := 1) (n := 999) (fun i Hy => ∃ us, Hy D8 = some (.lst us) ∧ Brs Hy us ((List.range i).map fun (j : Nat) => ((1 + (j : Int), 1, 1) : Tri)) ∧ Same H7 Hy) ⟨[], upd_same, .nil, Same.upd nD8⟩ ?_ ?_
    · rintro i Hy hi ⟨us, hD8, hu, sy⟩
      have ul := paired_len hu
      rw [List.length_map, List.length_range] at ul
      refine ⟨rfl, tYes_of ⟨_, rfl, (by show 3 ≤ sizeLine; decide), fun q nq => ?_⟩⟩
      have S := Same.upd (o := .tup [.int (1 + (i : Nat)), .int 1, .int 1]) nq
      have e := upd_same (H := Hy) (a := q) (o := .tup [.int (1 + (i : Nat)), .int 1, .int 1])
      generalize upd Hy q (.tup [.int (1 + (i : Nat)), .int 1, .int 1]) = Hz at S e ⊢
      have hDz := S _ _ hD8
      refine ⟨us, hDz, small1 (by omega), us ++ [.ref q], upd_same, ?_, fun b u h => by rw [upd_ne (ne_of_none h nD8)]; exact S _ _ (sy _ _ h)⟩
      have tk : ∀ b ys, Hz b = some (.tup ys) → upd Hz D8 (.lst (us ++ [V.ref q])) b = some (.tup ys) := fun b ys h => by
        rw [upd_ne (fun z => by rw [z, hDz] at h; cases h)]
        exact h
      rw [List.range_succ, List.map_append]
      exact paired_app (L2.Paired.mapP hu fun _ _ ⟨c, e1, h⟩ => ⟨c, e1, tk _ _ (S _ _ h)⟩) (.cons ⟨q, rfl, tk _ _ e⟩ .nil)
    rintro H8 ⟨us, hD8, hu8, s8⟩
    have ul := paired_len hu8
    rw [List.length_map, List.length_range] at ul
    refine ⟨_, _, rfl, rfl, ⟨by decide, by decide, by decide⟩, (by show 3 ≤ sizeLine; decide), fun q1 n1 => ⟨(by show 1 ≤ sizeLine; decide), fun q2 n2 => ?_⟩⟩
    have T1 := Same.upd (o := .tup [.int 1000, .int 1, .int ((10 : Int) ^ (30 : Int).toNat)]) n1
    have b1 := upd_same (H := H8) (a := q1) (o := .tup [.int 1000, .int 1, .int ((10 : Int) ^ (30 : Int).toNat)])
    generalize upd H8 q1 (.tup [.int 1000, .int 1, .int ((10 : Int) ^ (30 : Int).toNat)]) = J1 at T1 b1 n2 ⊢
    have T2 := Same.upd (o := .lst [.ref q1]) n2
    have b2 := upd_same (H := J1) (a := q2) (o := .lst [.ref q1])
    generalize upd J1 q2 (.lst [.ref q1]) = J2 at T2 b2 ⊢
    have T12 := T1.trans T2
    refine ⟨D8, q2, us, [.ref q1], rfl, rfl, T12 _ _ hD8, b2, small2 (by rw [ul]; show 999 + 1 ≤ 100000; decide), fun q3 n3 => ?_⟩
    have T3 := Same.upd (o := .lst (us ++ [.ref q1])) n3
    have b3 := upd_same (H := J2) (a := q3) (o := .lst (us ++ [.ref q1]))
    generalize upd J2 q3 (.lst (us ++ [.ref q1])) = J3 at T3 b3 ⊢
    have T13 := T12.trans T3
    have e30 : (10 : Int) ^ (30 : Int).toNat = mtE := by decide +kernel
    have br : Brs J3 (us ++ [.ref q1]) (exG (lgN 1000)) := by
      rw [ex_pass (by decide)]
      refine paired_app (L2.Paired.mapP hu8 fun _ _ ⟨c, e1, h⟩ => ⟨c, e1, T13 _ _ h⟩) (.cons ⟨q1, rfl, ?_⟩ .nil)
      rw [← e30]
      exact T3 _ _ (T2 _ _ b1)
    have s73 := s8.trans T13
    have br7 : Brs J3 ys7 (exG (lgN 1000)) := L2.Paired.mapP hb7 fun _ _ ⟨c, e1, h⟩ => ⟨c, e1, s73 _ _ h⟩
    refine ⟨.list ((exG (lgN 1000)).map triD), .list ((exG (lgN 1000)).map triD), .lst (SqL.of (s73 _ _ hl7)) br7.dp, .lst (SqL.of b3) br.dp, shTriL _, shTriL _, ?_⟩
    rw [eqTriL]
    refine ⟨_, rfl, iteF ?_⟩
    have s63 := s7.trans s73
    have k : ∀ H', LamX.ExtN J3 H' → LamX.Tabs (LT L) H' → Q (.bl true) H' := fun H' e t => k H' ((LamX.ExtN.of s63).trans e) t
    have tabs := Tabs.nl tx6 (NL.of s63)
    refine ⟨(by show 3 ≤ sizeLine; decide), fun q4 n4 => ⟨1000, rfl, RgOk.of_le (by decide) (by decide) (by decide) (by decide), fun q5 n5 => ?_⟩⟩
    have T4 := Same.upd (o := .tup [.int 1, .int 2, .int 1]) n4
    have b4 := upd_same (H := J3) (a := q4) (o := .tup [.int 1, .int 2, .int 1])
    generalize upd J3 q4 (.tup [.int 1, .int 2, .int 1]) = J4 at T4 b4 n5 ⊢
    have T5 := Same.upd (o := .lst (rgV 0 1000)) n5
    have b5 := upd_same (H := J4) (a := q5) (o := .lst (rgV 0 1000))
    generalize upd J4 q5 (.lst (rgV 0 1000)) = J5 at T5 b5 ⊢
    have erg : rgV 0 1000 = ((lgN 1000).map (·.1)).map V.int := by
      rw [lgN_fst]
      unfold rgV
      rw [List.map_map]
      refine List.map_congr_left fun j _ => ?_
      show V.int (0 + (j : Int)) = V.int (j : Int)
      rw [Int.zero_add]
    rw [erg] at b5
    refine ⟨_, (1, 2, 1), q5, (lgN 1000).map (·.1), rfl, ⟨q4, rfl, T5 _ _ b4⟩, ⟨by decide, by decide, by decide, by decide, by decide, by decide⟩, b5, (lgN_asc 1000).1, by rw [List.length_map, lgN_len]; exact Nat.le_refl _, fun l9 zs9 H9 hl9 hz9 s9 _ => ?_⟩
    rw [lgN_fst, lgAlt] at hz9
    refine ⟨1000, rfl, by decide, by decide, fun D9 nD9 => ?_⟩
    refine lc_range (lo := 0) (n := 1000) (fun i Hy => ∃ us, Hy D9 = some (.lst us) ∧ Lgs Hy us ((List.range i).map fun (j : Nat) => ((j : Int), decide ((j : Int) % 2 = 0))) ∧ Same H9 Hy) ⟨[], upd_same, .nil, Same.upd nD9⟩ ?_ ?_
    · rintro i Hy hi ⟨us, hD9, hu, sy⟩
      have ul := paired_len hu
      rw [List.length_map, List.length_range] at ul
      refine ⟨rfl, tYes_of ⟨_, rfl, _, rfl, .inl ⟨_, rfl, _, _, rfl, rfl, (show (0 : Int) < 2 by decide), rfl, (by show 2 ≤ sizeLine; decide), fun q nq => ?_⟩⟩⟩
      have S := Same.upd (o := .tup [.int (0 + (i : Nat)), .bl (decide (V.int ((0 + (i : Nat)) % 2) = V.int 0))]) nq
      have e := upd_same (H := Hy) (a := q) (o := .tup [.int (0 + (i : Nat)), .bl (decide (V.int ((0 + (i : Nat)) % 2) = V.int 0))])
      generalize upd Hy q (.tup [.int (0 + (i : Nat)), .bl (decide (V.int ((0 + (i : Nat)) % 2) = V.int 0))]) = Hz at S e ⊢
      rw [Int.zero_add, show decide (V.int ((i : Int) % 2) = V.int 0) = decide ((i : Int) % 2 = 0) from decide_eq_decide.mpr ⟨fun z => V.int.inj z, fun z => by rw [z]⟩] at e
      have hDz := S _ _ hD9
      refine ⟨us, hDz, small1 (by omega), us ++ [.ref q], upd_same, ?_, fun b u h => by rw [upd_ne (ne_of_none h nD9)]; exact S _ _ (sy _ _ h)⟩
      have tk : ∀ b ys, Hz b = some (.tup ys) → upd Hz D9 (.lst (us ++ [V.ref q])) b = some (.tup ys) := fun b ys h => by
        rw [upd_ne (fun z => by rw [z, hDz] at h; cases h)]
        exact h
      rw [List.range_succ, List.map_append]
      exact paired_app (L2.Paired.mapP hu fun _ _ ⟨c, e1, h⟩ => ⟨c, e1, tk _ _ (S _ _ h)⟩) (.cons ⟨q, rfl, tk _ _ e⟩ .nil)
    rintro HA ⟨us, hD9, hu9, sA⟩
    refine ⟨_, _, Lgs.dpl (sA _ _ hl9) (hz9.same sA), Lgs.dpl hD9 hu9, lg_sh _, lg_sh _, ?_⟩
    rw [lg_eq, decide_eq_true rfl]
    have sZ := ((T4.trans T5).trans s9).trans sA
    exact k _ (LamX.ExtN.of sZ) (Tabs.nl tabs (NL.of sZ))
theorem ok_wlogsright (T : LX K mg L) (B : TX base mg L) : Cal P w K mg base "_law_logs_right" 12 L.f__law_logs_right ["_law_place"] (spLogs K L) := T.d__law_logs_right.cal fun fd F => fn_wlogsright T B F
end
/-! ### k50: what a breaker's log is, and the law's turn -/
theorem lg_fst (b : Tri) : ∀ (ns : List Int) (s : StD), (lgG b s ns).map (·.1) = ns
  | [], _ => rfl
  | t :: r, s => by
    show t :: (lgG b _ r).map (·.1) = t :: r
    rw [lg_fst b r]
theorem own_fit (f w : Int) (ns : List Int) : fitC f w 0 (lgG (f, w, 1) ("closed", 0) ns) = true := by
  rw [← lg_closed f w (lgG (f, w, 1) ("closed", 0) ns) 0, lg_fst]
  exact decide_eq_true rfl
/-- what a breaker's log is -/
structure Own (f : Nat) (w : Int) (ps : Lg) : Prop where
  f1 : 1 ≤ f
  w1 : 1 ≤ w
  w2 : w ≤ mtE
  fit : fitC (f : Int) w 0 ps = true
theorem Own.le {f : Nat} {w : Int} {ps : Lg} (O : Own f w ps) (h : f ≤ ps.length) : f ≤ aheadG ps ∧ (bnG ps f).1 ≤ w ∧ w ≤ (bnG ps f).2 := by
  have := O.fit
  rw [fitC_bn O.f1 h O.w1 O.w2, Bool.and_eq_true, Bool.and_eq_true, decide_eq_true_iff, decide_eq_true_iff, decide_eq_true_iff] at this
  exact ⟨this.1, this.2.1, this.2.2⟩
theorem Own.past {f : Nat} {w : Int} {ps : Lg} (O : Own f w ps) (h : ps.length < f) : ∀ q ∈ ps, q.2 = true := by
  have := O.fit
  rw [fitC_past (by omega)] at this
  exact fun q hq => List.all_eq_true.mp this q hq
theorem Own.cons {f : Nat} {w : Int} {ps : Lg} (O : Own f w ps) : ps = [] ∨ (1 ≤ aheadG ps ∧ (bnG ps (aheadG ps)).1 ≤ (bnG ps (aheadG ps)).2) := by
  by_cases hn : ps = []
  · exact .inl hn
  refine .inr ?_
  have lp : 0 < ps.length := List.length_pos_iff.mpr hn
  by_cases c : f ≤ ps.length
  · obtain ⟨a, b1, b2⟩ := O.le c
    have f1 := O.f1
    have al := ahead_le ps
    have := bn_mono (ps := ps) (by omega) f1 (aheadG ps - f) (by omega)
    rw [show f + (aheadG ps - f) = aheadG ps by omega] at this
    exact ⟨by omega, by omega⟩
  · have e := ahead_full (O.past (by omega))
    rw [e, bn_end]
    exact ⟨lp, by show (1 : Int) ≤ mtE; decide⟩
def wtD (o : Int × Int) : PyData := .tuple [.int o.1, .int o.2]
theorem prw_dp {K : PySem.W.Frag} {H : Hp} {xs : List V} {ps : List (Int × Int)} (h : PrW H xs ps) : DpAll K H xs (ps.map wtD) := by
  induction h with
  | nil => exact .nil
  | cons h _ ih =>
    obtain ⟨c, rfl, hc⟩ := h
    exact .cons (.tup (SqT.of hc) (.cons (.int _) (.cons (.int _) .nil))) ih
theorem PrW.tp {H H' : Hp} {xs : List V} {ps : List (Int × Int)} (h : PrW H xs ps) (k : ∀ b ys, H b = some (.tup ys) → H' b = some (.tup ys)) : PrW H' xs ps := L2.Paired.mapP h fun _ _ ⟨c, e, z⟩ => ⟨c, e, k _ _ z⟩
theorem canW : ∀ ps : List (Int × Int), PyData.canLayAll0 (ps.map wtD) = true
  | [] => by simp [PyData.canLayAll0]
  | o :: r => by rw [List.map_cons, PyData.canLayAll0, canW r]; simp [wtD, PyData.canLay0, PyData.canLayAll0]
theorem depW : ∀ ps : List (Int × Int), PyData.depthAll (ps.map wtD) ≤ 10
  | [] => by simp [PyData.depthAll]
  | o :: r => by
    have := depW r
    rw [List.map_cons, PyData.depthAll]
    have h2 : (wtD o).depth ≤ 9 := by simp [wtD, PyData.depth, PyData.depthAll]
    omega
theorem shW (ps : List (Int × Int)) : SeqAt.shaped (.list (ps.map wtD)) = true := by
  refine Bool.and_eq_true_iff.mpr ⟨?_, decide_eq_true ?_⟩
  · rw [PyData.canLay0]
    exact canW ps
  · have := depW ps
    rw [PyData.depth]
    omega
theorem eqW (ps : List (Int × Int)) : PyData.eqv (.list (ps.map wtD)) (.list (ps.map wtD)) = true := SeqAt.eqv_refl _ (Bool.and_eq_true_iff.mp (shW ps)).1
theorem lgG_take (b : Tri) : ∀ (ns : List Int) (s : StD) (i : Nat), (lgG b s ns).take i = lgG b s (ns.take i)
  | _, _, 0 => rfl
  | [], _, i + 1 => rfl
  | t :: r, s, i + 1 => by
    show (t, decide (psB b s t)) :: (lgG b _ r).take i = (t, decide (psB b s t)) :: lgG b _ (r.take i)
    rw [lgG_take b r]
theorem own_ok {f : Nat} {w : Int} {ns : List Int} (f1 : 1 ≤ f) (w1 : 1 ≤ w) (w2 : w ≤ mtE) (i : Nat) : Ok1 ((lgG ((f : Int), w, 1) ("closed", 0) ns).take i) := by
  rw [lgG_take]
  exact Own.cons (f := f) (w := w) ⟨f1, w1, w2, own_fit _ _ _⟩
def spRight50 (L : LA) : Sp := fun vs H Q _ => ∃ s, vs = [.ref s] ∧ Src H s 0 ∧ LamX.Tabs (LT L) H ∧ ∀ H', KS s H H' → LamX.Tabs (LT L) H' → Q (.bl true) H'
section
variable {P : Program} {w : World} {K : PySem.W.Frag} {mg : Str → Option Value} {base : Heap} {L : LA}
abbrev N_wright : List Str := ["_law_well_here", "_law_moments", "_law_device", "_law_seen", "_law_bad"]
theorem sc_wright : FnScope N_wright ["_law_well_here"] (defScope st__law_right) := ⟨rfl, rfl, rfl, by decide +kernel, rfl, by decide +kernel, by decide +kernel⟩
theorem fn_wright (T : LX K mg L) (B : TX base mg L) {fd : FuncData} (F : FunT K "_law_right" "_law_right" st__law_right L.f__law_right L.k__law_right fd) : FnOk P w K mg base CX0 13 L.f__law_right fd ["_law_well_here"] (spRight50 L) := by
  have G_logof := P0.ok_logof (P := P) (w := w) (base := base) T
  have G_wothersright := ok_wothersright (P := P) (w := w) (base := base) T B
  have G_wdraw := ok_wdraw (P := P) (w := w) (base := base) T
  have G_wlogsright := ok_wlogsright (P := P) (w := w) (base := base) T B
  have G_explanations := P0.ok_explanations (P := P) (w := w) (base := base) T
  have G_firstconflict := P0.ok_firstconflict (P := P) (w := w) (base := base) T
  have G_forecast := P0.ok_forecast (P := P) (w := w) (base := base) T
  have G_waitsof := P0.ok_waitsof (P := P) (w := w) (base := base) T
  have nd := sc_wright.nd
  refine F.okG sc_wright (fun vs H Q E h => ?_) (fun g0 A outer S H vs Q E hgd hr h => ?_)
  · obtain ⟨s, rfl, _⟩ := h
    rfl
  · obtain ⟨s, rfl, src, tabs, k⟩ := h
    refine ⟨_, (pss_cons (ps_set (i := 1) nd rfl (Or.inl rfl) (pe_lst (pa_cons pe_int (pa_cons pe_int (pa_cons pe_int (pa_cons (pe_op op_add pe_int (pe_c G_wdraw (hr.mono (by decide)) rfl (pa_cons (pv 0) (pa_cons pe_int pa_nil)))) (pa_cons pe_int (pa_cons pe_int pa_nil))))))))
       (pss_cons (ps_set (i := 2) nd rfl (Or.inl rfl) (pe_tup (pa_cons (pe_op op_add pe_int (pe_c G_wdraw (hr.mono (by decide)) rfl (pa_cons (pv 0) (pa_cons pe_int pa_nil)))) (pa_cons (pe_op op_add pe_int (pe_c G_wdraw (hr.mono (by decide)) rfl (pa_cons (pv 0) (pa_cons pe_int pa_nil)))) (pa_cons pe_int pa_nil)))))
       (pss_cons (ps_set (i := 3) nd rfl (Or.inl rfl) (pe_kr T.d_log_of (fun fd F => P0.fn_logof (P := P) (w := w) (base := base) T F) (fun _ _ _ _ _ _ us hl => by match us, hl with | [_, _], _ => rfl) (hr.mono (by decide)) rfl (pk_cons (pv 1) (pk_cons (pv 2) pk_nil))))
       (pss_cons (ps_if (PW.pt (pw_or (pt_cmpR (op_neD hr.units) (pv 3) (pe_c G_logof (hr.mono (by decide)) rfl (pa_cons (pv 2) (pa_cons (pv 1) pa_nil))) (nomark _)) (pw_or1 (pt_not (pt_val (pe_c G_wlogsright (hr.mono (by decide)) rfl (pa_cons (pe_op op_add pe_int (pe_c G_wdraw (hr.mono (by decide)) rfl (pa_cons (pv 0) (pa_cons pe_int pa_nil)))) pa_nil))))))) (pss_one (ps_ret pe_bl)) pss_nil)
       (pss_cons (ps_if (pt_not (pt_val (pe_c G_wothersright (hr.mono (by decide)) rfl (pa_cons (pv 3) (pa_cons pe_int pa_nil))))) (pss_one (ps_ret pe_bl)) pss_nil)
       (pss_cons (ps_if (PW.pt (pw_or (pt_cmpR (op_neD hr.units) (pe_kr T.d_explanations (fun fd F => P0.fn_explanations (P := P) (w := w) (base := base) T F) (fun _ _ _ _ _ _ us hl => by match us, hl with | [_], _ => rfl) (hr.mono (by decide)) rfl (pk_cons (pv 3) pk_nil)) (pe_c G_explanations (hr.mono (by decide)) rfl (pa_cons (pv 3) pa_nil)) (nomark _)) (pw_or1 (pt_cmpR op_ne (pe_kr T.d_first_conflict (fun fd F => P0.fn_firstconflict (P := P) (w := w) (base := base) T F) (fun _ _ _ _ _ _ us hl => by match us, hl with | [_], _ => rfl) (hr.mono (by decide)) rfl (pk_cons (pv 3) pk_nil)) (pe_c G_firstconflict (hr.mono (by decide)) rfl (pa_cons (pv 3) pa_nil)) (nomark _))))) (pss_one (ps_ret pe_bl)) pss_nil)
       (pss_cons (ps_if (PW.pt (pw_or (pt_cmpR op_ne (pe_kr T.d_forecast (fun fd F => P0.fn_forecast (P := P) (w := w) (base := base) T F) (fun _ _ _ _ _ _ us hl => by match us, hl with | [_, _], _ => rfl) (hr.mono (by decide)) rfl (pk_cons pe_int (pk_cons (pv 3) pk_nil))) (pe_c G_forecast (hr.mono (by decide)) rfl (pa_cons (pv 3) (pa_cons pe_int pa_nil))) (nomark _)) (pw_or1 (pt_cmpR (op_neD hr.units) (pe_kr T.d_waits_of (fun fd F => P0.fn_waitsof (P := P) (w := w) (base := base) T F) (fun _ _ _ _ _ _ us hl => by match us, hl with | [_], _ => rfl) (hr.mono (by decide)) rfl (pk_cons (pe_lst (pa_cons pe_int (pa_cons pe_int pa_nil))) pk_nil)) (pe_c G_waitsof (hr.mono (by decide)) rfl (pa_cons (pe_lst (pa_cons pe_int (pa_cons pe_int pa_nil))) pa_nil)) (nomark _))))) (pss_one (ps_ret pe_bl)) pss_nil)
       (pss_cons (ps_set (i := 4) nd rfl (Or.inr rfl) (pe_lst (pa_cons (pe_tup (pa_cons pe_int (pa_cons pe_bl pa_nil))) pa_nil)))
       (pss_cons (ps_if (pt_cmpR (op_neD hr.units) (pe_lamc (T := LT L) (TT := TTsaid K L g0) (c := L.k__law_right) (P := L.t__law_right) (k := 8) T.d__law_said sc_wsaid rfl (Or.inl rfl) (fun _ => said_gives T (hr.mono (by decide)) (by exact hgd)) B.b__law_right rfl (lt_mem_wright T) (lt_one_wright T) (hr.mono (by decide)) (LamX.lamS_by (sc := defScope st__law_right) (by decide +kernel)) rfl (fun _ _ _ _ _ => rfl) (fun A outer s H E f c2 hr => by exact (pe_cX (U.ok_forecast (P := P) (w := w) (base := base) T) (hr.mono (by decide)) rfl (fun σ => passAt (takes_of rfl rfl rfl rfl) σ) (pa_cons (pv 4) (pa_cons pe_int pa_nil))))) (pe_tup (pa_cons pe_str (pa_cons pe_str pa_nil))) (nomark _)) (pss_one (ps_ret pe_bl)) pss_nil)
       (pss_one (ps_ret (pe_cmpR (op_eqD hr.units) (pe_lamc (T := LT L) (TT := TTsaid K L g0) (c := L.k__law_right) (P := L.t__law_right) (k := 8) T.d__law_said sc_wsaid rfl (Or.inl rfl) (fun _ => said_gives T (hr.mono (by decide)) (by exact hgd)) B.b__law_right rfl (lt_mem_wright T) (lt_one_wright T) (hr.mono (by decide)) (LamX.lamS_by (sc := defScope st__law_right) (by decide +kernel)) rfl (fun _ _ _ _ _ => rfl) (fun A outer s H E f c2 hr => by exact (pe_cX (U.ok_forecast (P := P) (w := w) (base := base) T) (hr.mono (by decide)) rfl (fun σ => passAt (takes_of rfl rfl rfl rfl) σ) (pa_cons (pv 4) (pa_cons pe_int pa_nil))))) (pe_tup (pa_cons pe_str (pa_cons pe_int pa_nil))) (nomark _))))))))))))), ?_⟩
    obtain ⟨y0, hy0⟩ := src.has
    refine ⟨_, rfl, s, 3, 0, rfl, by decide, by decide, src, by decide, fun r1 H1 r10 r11 src1 k1 => ⟨_, _, rfl, rfl, (by show 6 ≤ sizeLine; decide), fun l1 n1 => ?_⟩⟩
    have S1 := Same.upd (o := .lst [.int 3, .int 4, .int 6, .int (9 + r1), .int 14, .int 20]) n1
    have b1 := upd_same (H := H1) (a := l1) (o := .lst [.int 3, .int 4, .int 6, .int (9 + r1), .int 14, .int 20])
    have nl1 : l1 ≠ s := by
      obtain ⟨y, hy⟩ := src1.has
      exact fun z => by rw [z, hy] at n1; cases n1
    have src1 := src1.same S1
    have K1 : Kp s H (upd H1 l1 (.lst [.int 3, .int 4, .int 6, .int (9 + r1), .int 14, .int 20])) := k1.trans (Kp.of S1)
    generalize upd H1 l1 (.lst [.int 3, .int 4, .int 6, .int (9 + r1), .int 14, .int 20]) = J1 at b1 src1 K1 ⊢
    refine ⟨_, rfl, s, 3, _, rfl, by decide, by decide, src1, by decide, fun r2 H2 r20 r21 src2 k2 => ⟨_, _, rfl, rfl, ?_⟩⟩
    refine ⟨_, rfl, s, 9, _, rfl, by decide, by decide, src2, by decide, fun r3 H3 r30 r31 src3 k3 => ⟨_, _, rfl, rfl, (by show 3 ≤ sizeLine; decide), fun t1 m1 => ?_⟩⟩
    have S2 := Same.upd (o := .tup [.int (1 + r2), .int (1 + r3), .int 1]) m1
    have b2 := upd_same (H := H3) (a := t1) (o := .tup [.int (1 + r2), .int (1 + r3), .int 1])
    have src3 := src3.same S2
    have K13 := (k2.trans k3).trans (Kp.of S2)
    have b1 := K13 _ _ nl1 b1
    have K2 := K1.trans K13
    generalize upd H3 t1 (.tup [.int (1 + r2), .int (1 + r3), .int 1]) = J2 at b1 b2 src3 K2 ⊢
    obtain ⟨fn, hfn⟩ : ∃ fn : Nat, 1 + r2 = (fn : Int) := ⟨(1 + r2).toNat, by omega⟩
    have tabs := Tabs.nl tabs (Kp.nl K2 hy0)
    have asc : Asc 0 [3, 4, 6, 9 + r1, 14, 20] := ⟨by decide, by decide, by decide, by omega, by omega, by decide, trivial⟩
    have okT : OkT (1 + r2, 1 + r3, 1) := ⟨by show 1 ≤ 1 + r2; omega, by show 1 + r2 ≤ _; omega, by show 1 ≤ 1 + r3; omega, by show 1 + r3 ≤ _; omega, by show (1 : Int) ≤ 1; decide, by show (1 : Int) ≤ 1000000000000; decide⟩
    refine ⟨_, rfl, _, rfl, rfl, rfl, _, (1 + r2, 1 + r3, 1), l1, [3, 4, 6, 9 + r1, 14, 20], rfl, ⟨t1, rfl, b2⟩, okT, b1, asc, Nat.le_of_ble_eq_true rfl, fun l zs H4 hl hz s4 nlj => ?_⟩
    have oks : ∀ i, Ok1 ((lgG (1 + r2, 1 + r3, 1) ("closed", 0) [3, 4, 6, 9 + r1, 14, 20]).take i) := fun i => by
      rw [hfn]
      exact own_ok (by omega) (by omega) (by unfold mtE; omega) i
    have okl : OkLog (lgG (1 + r2, 1 + r3, 1) ("closed", 0) [3, 4, 6, 9 + r1, 14, 20]) := ⟨by rw [lg_fst]; exact asc, by rw [lgG_len]; exact Nat.le_of_ble_eq_true rfl⟩
    have top : lstG 0 ((lgG (1 + r2, 1 + r3, 1) ("closed", 0) [3, 4, 6, 9 + r1, 14, 20]).map (·.1)) = 21 := by rw [lg_fst]; rfl
    have lt24 : ∀ q ∈ lgG (1 + r2, 1 + r3, 1) ("closed", 0) [3, 4, 6, 9 + r1, 14, 20], q.1 < 24 := fun q hq => by
      have := (asc_topX okl.asc).2 _ (List.mem_map.mpr ⟨q, hq, rfl⟩)
      rw [top] at this
      omega
    have b2 := s4 _ _ b2
    have b1 := s4 _ _ b1
    have src4 := src3.same s4
    have K4 := K2.trans (Kp.of s4)
    have tabs := Tabs.nl tabs (NL.of s4)
    refine ⟨_, rfl, _, rfl, _, rfl, _, (1 + r2, 1 + r3, 1), l1, [3, 4, 6, 9 + r1, 14, 20], rfl, ⟨t1, rfl, b2⟩, okT, b1, asc, Nat.le_of_ble_eq_true rfl, fun l' zs' H5 hl' hz' s5 _ => ?_⟩
    generalize lgG (1 + r2, 1 + r3, 1) ("closed", 0) [3, 4, 6, 9 + r1, 14, 20] = ps at hz hz' oks okl top lt24
    have hl := s5 _ _ hl
    have hz := hz.same s5
    have src5 := src4.same s5
    have K5 := K4.trans (Kp.of s5)
    have tabs := Tabs.nl tabs (NL.of s5)
    refine ⟨_, _, Lgs.dpl hl hz, Lgs.dpl hl' hz', lg_sh ps, lg_sh ps, ?_⟩
    rw [lg_eq, decide_eq_true rfl]
    refine ⟨_, rfl, iteF ?_⟩
    refine ⟨_, rfl, s, 400, _, rfl, by decide, by decide, src5, by decide, fun r4 H6 r40 r41 src6 k6 => ⟨_, _, rfl, rfl, ?_⟩⟩
    obtain ⟨y5, hy5⟩ := src5.has
    have nls : l ≠ s := fun z => by
      obtain ⟨y, hy⟩ := src3.has
      rw [z, hy] at nlj
      cases nlj
    have hl := k6 _ _ nls hl
    have hz := Lgs.nl (Kp.nl k6 hy5) hz
    have tabs := Tabs.nl tabs (Kp.nl k6 hy5)
    have K6 := KS.of (K5.trans k6)
    obtain ⟨m, hm⟩ : ∃ m : Nat, 600 + r4 = (m : Int) := ⟨(600 + r4).toNat, by omega⟩
    refine ⟨m, by show [V.int (600 + r4)] = [V.int (m : Int)]; rw [hm], by omega, by omega, tabs, fun H7 ex7 tabs => ?_⟩
    have hl := ExtN.lst ex7 hl
    have hz := Lgs.ext ex7 hz
    have K7 := K6.trans (KS.ext ex7)
    refine ⟨_, rfl, iteF ?_⟩
    refine ⟨_, rfl, l, zs, ps, rfl, hl, hz, okl, top, tabs, fun H8 ex8 tabs => ?_⟩
    have hl := ExtN.lst ex8 hl
    have hz := Lgs.ext ex8 hz
    have K8 := K7.trans (KS.ext ex8)
    refine ⟨_, rfl, iteF ?_⟩
    refine ⟨_, rfl, rfl, rfl, l, zs, ps, rfl, hl, hz, okl, fun e1 ys1 H9 he1 hb1 s9 _ => ?_⟩
    have hl := s9 _ _ hl
    have hz := hz.same s9
    refine ⟨_, rfl, l, zs, ps, rfl, hl, hz, okl, fun e2 ys2 H10 he2 hb2 s10 _ => ?_⟩
    have hl := s10 _ _ hl
    have hz := hz.same s10
    have hb1 : Brs H10 ys1 (exG ps) := L2.Paired.mapP hb1 fun _ _ ⟨c, e, h⟩ => ⟨c, e, s10 _ _ h⟩
    refine ⟨.list ((exG ps).map triD), .list ((exG ps).map triD), .lst (SqL.of (s10 _ _ he1)) hb1.dp, .lst (SqL.of he2) hb2.dp, shTriL _, shTriL _, ?_⟩
    rw [eqTriL]
    refine ⟨_, rfl, iteF ?_⟩
    refine ⟨_, rfl, rfl, rfl, l, zs, ps, rfl, hl, hz, okl, fun v1 H11 hv1 s11 => ?_⟩
    have hl := s11 _ _ hl
    have hz := hz.same s11
    refine ⟨_, rfl, l, zs, ps, rfl, hl, hz, okl, fun v2 H12 hv2 s12 => ?_⟩
    have hl := s12 _ _ hl
    have hz := hz.same s12
    have ev := hv2.one hv1
    subst ev
    have sc : scal v2 v2 = true := by
      rcases hv1 with ⟨rfl, _⟩ | ⟨i, rfl, _⟩ <;> rfl
    refine ⟨sc, _, rfl, ?_⟩
    rw [decide_eq_true rfl]
    refine iteF ?_
    refine ⟨_, rfl, rfl, rfl, l, zs, ps, 24, rfl, hl, hz, okl, lt24, by decide, fun _ w1 H13 hw1 s13 => ?_, fun i hi bad _ => absurd (oks (i + 1)) bad⟩
    have hl := s13 _ _ hl
    have hz := hz.same s13
    refine ⟨_, rfl, l, zs, ps, 24, rfl, hl, hz, okl, lt24, by decide, fun _ w2 H14 hw2 s14 => ?_, fun i hi bad _ => absurd (oks (i + 1)) bad⟩
    have ew := hw2.one hw1
    subst ew
    refine ⟨rfl, _, rfl, ?_⟩
    rw [decide_eq_true rfl]
    refine iteF ?_
    have ok24 : ∀ i, i < ([2, 4] : List Int).length → okAt [2, 4] i := fun i hi => by
      match i, hi with
      | 0, _ => exact ⟨2, rfl, by decide, by decide⟩
      | 1, _ => exact ⟨2, 4, rfl, rfl, by decide, by decide, by decide⟩
    refine ⟨(by show 2 ≤ sizeLine; decide), fun p1 d1 => ⟨rfl, rfl, p1, [2, 4], rfl, upd_same, by decide, by decide, fun _ tA xsA HA hxA hzA sA nA => ?_, fun i hi _ hb => absurd (ok24 i hi) hb⟩⟩
    refine ⟨(by show 2 ≤ sizeLine; decide), fun p2 d2 => ⟨p2, [2, 4], rfl, upd_same, by decide, by decide, fun _ tB xsB HB hxB hzB sB nB => ?_, fun i hi _ hb => absurd (ok24 i hi) hb⟩⟩
    have SB := (Same.upd (o := .lst [.int 2, .int 4]) d2).trans sB
    have hzA := hzA.tp fun b ys e => SB _ _ e
    refine ⟨.list ((wtG [2, 4]).map wtD), .list ((wtG [2, 4]).map wtD), .lst (SqL.of (SB _ _ hxA)) (prw_dp hzA), .lst (SqL.of hxB) (prw_dp hzB), shW _, shW _, ?_⟩
    rw [eqW]
    refine ⟨_, rfl, iteF ?_⟩
    have SS := ((((((s9.trans s10).trans s11).trans s12).trans s13).trans s14).trans ((Same.upd (o := .lst [.int 2, .int 4]) d1).trans sA)).trans SB
    have tabs := Tabs.nl tabs (NL.of SS)
    have K9 := K8.trans (KS.ext (LamX.ExtN.of SS))
    have k : ∀ H', LamX.ExtN HB H' → LamX.Tabs (LT L) H' → Q (.bl true) H' := fun H' e t => k H' (K9.trans (KS.ext e)) t
    refine ⟨(by show 2 ≤ sizeLine; decide), fun c1 g1 => ⟨(by show 1 ≤ sizeLine; decide), fun c2 g2 => ?_⟩⟩
    have G1 := Same.upd (o := .tup [.int 0, .bl false]) g1
    have w1 := upd_same (H := HB) (a := c1) (o := .tup [.int 0, .bl false])
    generalize upd HB c1 (.tup [.int 0, .bl false]) = HC at G1 w1 g2 ⊢
    have G2 := Same.upd (o := .lst [.ref c1]) g2
    have w2 := upd_same (H := HC) (a := c2) (o := .lst [.ref c1])
    have w1 := G2 _ _ w1
    generalize upd HC c2 (.lst [.ref c1]) = HD at G2 w1 w2 ⊢
    have tabs := Tabs.nl tabs (NL.of (G1.trans G2))
    have k : ∀ H', LamX.ExtN HD H' → LamX.Tabs (LT L) H' → Q (.bl true) H' := fun H' e t => k H' ((LamX.ExtN.of (G1.trans G2)).trans e) t
    have lg1 : ∀ {Hy : Hp}, LamX.ExtN HD Hy → Lgs Hy [.ref c1] [(0, false)] := fun e => .cons ⟨c1, rfl, e _ _ w1 fun _ z => nomatch z⟩ .nil
    have okb : OkLog [(0, false)] := ⟨⟨by decide, trivial⟩, by decide⟩
    have z0 : ∀ Hy : Hp, ReprG g0 Hy (.int 0) "0" := fun Hy => by
      have e0 : ((toString (0 : Int) : String) : Str) = "0" := by decide +kernel
      exact e0 ▸ (.plain (.int 0 (by decide +kernel)))
    refine ⟨tabs, fun Hw exW txW E N hE hN => ⟨_, rfl, .inr ⟨_, .int 0, rfl, .inr ⟨c2, [.ref c1], [(0, false)], "int", rfl, ExtN.lst exW w2, lg1 exW, okb, .int 0, by decide, said_time T hE (z0 Hw) fun p Hu hp su => ?_⟩⟩⟩⟩
    refine ⟨(by show 2 ≤ sizeLine; decide), fun q6 m6 => ?_⟩
    have S6 := Same.upd (o := .tup [.str "time", .str "0"]) m6
    have zok : PyData.strOk "0" = true := by decide +kernel
    refine ⟨tmD "0", tmD "0", dpTm (S6 _ _ hp), dpTm upd_same, shTm zok, shTm zok, ?_⟩
    rw [eqTm zok]
    have exE := exW.trans (LamX.ExtN.of (su.trans S6))
    have tabs := Tabs.nl txW (NL.of (su.trans S6))
    generalize upd Hu q6 (.tup [.str "time", .str "0"]) = HE at exE tabs ⊢
    refine ⟨_, rfl, iteF ?_⟩
    have nok : ¬ Ok1 ([(0, false)].take 1) := by
      rintro (z | ⟨z, _⟩)
      · cases z
      · exact absurd z (by decide)
    refine ⟨tabs, fun Hv exV txV E N hE hN => ⟨_, rfl, .inl ⟨c2, [.ref c1], [(0, false)], 1, rfl, ExtN.lst (exE.trans exV) w2, lg1 (exE.trans exV), okb, fun q hq => by rw [List.mem_singleton.mp hq]; decide, by decide, fun all => absurd (all 0 (by decide)) nok, fun i hi bad' _ => ?_⟩⟩⟩
    obtain rfl : i = 0 := by
      have : i < 1 := hi
      omega
    refine said_log T hE fun p Hu' hp su' => ?_
    refine ⟨(by show 2 ≤ sizeLine; decide), fun q7 m7 => ?_⟩
    have S7 := Same.upd (o := .tup [.str "log", .int 0]) m7
    refine ⟨logD 0, logD 0, dpLog (S7 _ _ hp), dpLog upd_same, shLog _, shLog _, ?_⟩
    rw [eqLog]
    exact k _ (exE.trans (exV.trans (LamX.ExtN.of (su'.trans S7)))) (Tabs.nl txV (NL.of (su'.trans S7)))
theorem ok_wright (T : LX K mg L) (B : TX base mg L) : Cal P w K mg base "_law_right" 13 L.f__law_right ["_law_well_here"] (spRight50 L) := T.d__law_right.cal fun fd F => fn_wright T B F
end
/-! ### the law over its cells, with tables of code objects -/
def spLawT (K : PySem.W.Frag) (L : LA) : Sp := fun vs H Q _ => ∃ (a : Addr) (ns : List Int), vs = [.ref a] ∧ SqL K H a (ns.map V.int) ∧ ns.length ≤ 63 ∧ LamX.Tabs (LT L) H ∧ ∀ H', Q (.bl true) H'
section
variable {P : Program} {w : World} {K : PySem.W.Frag} {mg : Str → Option Value} {base : Heap} {L : LA}
abbrev N_law : List Str := ["_law_script", "_law_cell"]
theorem sc_law : FnScope N_law ["_law_script"] (defScope st_law) := ⟨rfl, rfl, rfl, by decide +kernel, rfl, by decide +kernel, by decide +kernel⟩
theorem ok_law {aLaw : Addr} {fd : FuncData} (F : Fun K "law" "law" st_law aLaw fd) (T : LX K mg L) (B : TX base mg L) : FnOk P w K mg base CX0 14 aLaw fd ["_law_script"] (spLawT K L) := by
  have G_wright := ok_wright (P := P) (w := w) (base := base) T B
  have G_wwell := ok_wwell (P := P) (w := w) (base := base) T
  have nd := sc_law.nd
  refine F.ok sc_law (fun vs H Q E h => ?_) (fun cdv A outer S H vs Q E hr h => ?_)
  · obtain ⟨a, ns, rfl, _⟩ := h
    rfl
  · obtain ⟨a, ns, rfl, hS, ln, tabs, k⟩ := h
    refine ⟨_, (pss_cons (ps_for PassesOwn.never rfl (pi_list (pe_op op_cat (pe_slice (r := rSlL K) sl_list (pv 0) po_none (po_some pe_int)) (pe_lst (pa_cons pe_int pa_nil)))) (pg_name (i := 1) nd rfl (Or.inl rfl)) (pss_one (ps_if (pt_not (pt_val (pe_c G_wright (hr.mono (by decide)) rfl (pa_cons (pe_c G_wwell (hr.mono (by decide)) rfl (pa_cons (pv 1) pa_nil)) pa_nil)))) (pss_one (ps_ret pe_bl)) pss_nil)))
       (pss_one (ps_ret pe_bl))), ?_⟩
    refine ⟨_, rfl, 4, rfl, a, ns.map V.int, rfl, hS, fun l1 hl1 => ⟨(by show 1 ≤ sizeLine; decide), fun l2 hl2 => ?_⟩⟩
    refine ⟨l1, l2, _, _, rfl, rfl, (Same.upd hl2) _ _ upd_same, upd_same, small2 (by have := cutV_length (ns.map V.int) none (some 4); rw [List.length_map] at this; show _ + 1 ≤ 100000; omega), fun l3 hl3 => ?_⟩
    have items : ∀ v ∈ cutV (ns.map V.int) none (some 4) ++ [V.int 0], ∃ c, v = .int c := fun v hv => by
      rcases List.mem_append.mp hv with hv | hv
      · obtain ⟨c, _, e⟩ := List.mem_map.mp (List.mem_of_mem_drop (List.mem_of_mem_take hv))
        exact ⟨c, e.symm⟩
      · exact ⟨0, by simpa using hv⟩
    have st := ((Same.upd (o := .lst (cutV (ns.map V.int) none (some 4))) hl1).trans (Same.upd (o := .lst [.int 0]) hl2)).trans (Same.upd (o := .lst (cutV (ns.map V.int) none (some 4) ++ [V.int 0])) hl3)
    have t0 := Tabs.nl tabs (NL.of st)
    generalize hit : cutV (ns.map V.int) none (some 4) ++ [V.int 0] = its at items t0
    refine ⟨l3, rfl, ⟨_, SqL.of upd_same⟩, ?_⟩
    refine for_list (K := K) (a := l3) (xs := its) (fun i σ H2 => ∃ v1 : Option V, σ = [some (.ref a), v1] ∧ H2 l3 = some (.lst its) ∧ LamX.Tabs (LT L) H2) ⟨none, rfl, by rw [upd_same], t0⟩ (fun i σ H2 _ ⟨_, _, e, _⟩ => SqL.of e) ?_ ?_
    · rintro i v σ H0 hi ⟨v1, rfl, hL, t1⟩
      obtain ⟨cc, rfl⟩ := items v (List.mem_of_getElem? hi)
      refine ⟨_, rfl, cc, rfl, fun s H1 hs0 y1 src1 => ⟨s, rfl, src1, Tabs.nl t1 (NL.of y1), fun H2 k2 t2 => ⟨_, rfl, iteF ⟨_, rfl, ?_, t2⟩⟩⟩⟩
      exact k2 _ _ (ne_of_none hL hs0) (y1 _ _ hL) fun _ z => nomatch z
    · rintro σ H2 ⟨v1, rfl, _⟩
      exact k H2
end
/-! ### the end -/
theorem bn_q0 (kV doc pm : Value) (an : Option Addr) (cdv ct : Value) (us : List Value) (hl : us.length = (["value"] : List Str).length) : bindArgs (PySem.W.fnOf "is_integer" "is_integer" (defArgs st_is_integer) (defBody st_is_integer) (defScope st_is_integer) .none kV doc pm an cdv ct) ⟨us, []⟩ = pure ((["value"] : List Str).zip us) :=
  match us, hl with | [_], _ => rfl
theorem bn_q1 (kV doc pm : Value) (an : Option Addr) (cdv ct : Value) (us : List Value) (hl : us.length = (["value", "least"] : List Str).length) : bindArgs (PySem.W.fnOf "is_at_least" "is_at_least" (defArgs st_is_at_least) (defBody st_is_at_least) (defScope st_is_at_least) .none kV doc pm an cdv ct) ⟨us, []⟩ = pure ((["value", "least"] : List Str).zip us) :=
  match us, hl with | [_, _], _ => rfl
theorem bn_q2 (kV doc pm : Value) (an : Option Addr) (cdv ct : Value) (us : List Value) (hl : us.length = (["value", "least", "most"] : List Str).length) : bindArgs (PySem.W.fnOf "is_within" "is_within" (defArgs st_is_within) (defBody st_is_within) (defScope st_is_within) .none kV doc pm an cdv ct) ⟨us, []⟩ = pure ((["value", "least", "most"] : List Str).zip us) :=
  match us, hl with | [_, _, _], _ => rfl
theorem bn_q3 (kV doc pm : Value) (an : Option Addr) (cdv ct : Value) (us : List Value) (hl : us.length = (["value"] : List Str).length) : bindArgs (PySem.W.fnOf "is_breaker" "is_breaker" (defArgs st_is_breaker) (defBody st_is_breaker) (defScope st_is_breaker) .none kV doc pm an cdv ct) ⟨us, []⟩ = pure ((["value"] : List Str).zip us) :=
  match us, hl with | [_], _ => rfl
theorem bn_q4 (kV doc pm : Value) (an : Option Addr) (cdv ct : Value) (us : List Value) (hl : us.length = (["breaker", "state", "time"] : List Str).length) : bindArgs (PySem.W.fnOf "passes" "passes" (defArgs st_passes) (defBody st_passes) (defScope st_passes) .none kV doc pm an cdv ct) ⟨us, []⟩ = pure ((["breaker", "state", "time"] : List Str).zip us) :=
  match us, hl with | [_, _, _], _ => rfl
theorem bn_q5 (kV doc pm : Value) (an : Option Addr) (cdv ct : Value) (us : List Value) (hl : us.length = (["breaker", "state", "time", "succeeded"] : List Str).length) : bindArgs (PySem.W.fnOf "state_behind" "state_behind" (defArgs st_state_behind) (defBody st_state_behind) (defScope st_state_behind) .none kV doc pm an cdv ct) ⟨us, []⟩ = pure ((["breaker", "state", "time", "succeeded"] : List Str).zip us) :=
  match us, hl with | [_, _, _, _], _ => rfl
theorem bn_q6 (kV doc pm : Value) (an : Option Addr) (cdv ct : Value) (us : List Value) (hl : us.length = (["times"] : List Str).length) : bindArgs (PySem.W.fnOf "check_times" "check_times" (defArgs st_check_times) (defBody st_check_times) (defScope st_check_times) .none kV doc pm an cdv ct) ⟨us, []⟩ = pure ((["times"] : List Str).zip us) :=
  match us, hl with | [_], _ => rfl
theorem bn_q7 (kV doc pm : Value) (an : Option Addr) (cdv ct : Value) (us : List Value) (hl : us.length = (["breaker", "times"] : List Str).length) : bindArgs (PySem.W.fnOf "log_of" "log_of" (defArgs st_log_of) (defBody st_log_of) (defScope st_log_of) .none kV doc pm an cdv ct) ⟨us, []⟩ = pure ((["breaker", "times"] : List Str).zip us) :=
  match us, hl with | [_, _], _ => rfl
theorem bn_q8 (kV doc pm : Value) (an : Option Addr) (cdv ct : Value) (us : List Value) (hl : us.length = (["value"] : List Str).length) : bindArgs (PySem.W.fnOf "is_entry" "is_entry" (defArgs st_is_entry) (defBody st_is_entry) (defScope st_is_entry) .none kV doc pm an cdv ct) ⟨us, []⟩ = pure ((["value"] : List Str).zip us) :=
  match us, hl with | [_], _ => rfl
theorem bn_q9 (kV doc pm : Value) (an : Option Addr) (cdv ct : Value) (us : List Value) (hl : us.length = (["log"] : List Str).length) : bindArgs (PySem.W.fnOf "check_log" "check_log" (defArgs st_check_log) (defBody st_check_log) (defScope st_check_log) .none kV doc pm an cdv ct) ⟨us, []⟩ = pure ((["log"] : List Str).zip us) :=
  match us, hl with | [_], _ => rfl
theorem bn_q10 (kV doc pm : Value) (an : Option Addr) (cdv ct : Value) (us : List Value) (hl : us.length = (["log"] : List Str).length) : bindArgs (PySem.W.fnOf "passes_ahead" "passes_ahead" (defArgs st_passes_ahead) (defBody st_passes_ahead) (defScope st_passes_ahead) .none kV doc pm an cdv ct) ⟨us, []⟩ = pure ((["log"] : List Str).zip us) :=
  match us, hl with | [_], _ => rfl
theorem bn_q11 (kV doc pm : Value) (an : Option Addr) (cdv ct : Value) (us : List Value) (hl : us.length = (["log"] : List Str).length) : bindArgs (PySem.W.fnOf "gaps_of" "gaps_of" (defArgs st_gaps_of) (defBody st_gaps_of) (defScope st_gaps_of) .none kV doc pm an cdv ct) ⟨us, []⟩ = pure ((["log"] : List Str).zip us) :=
  match us, hl with | [_], _ => rfl
theorem bn_q12 (kV doc pm : Value) (an : Option Addr) (cdv ct : Value) (us : List Value) (hl : us.length = (["bounds", "gap", "passed"] : List Str).length) : bindArgs (PySem.W.fnOf "narrowed" "narrowed" (defArgs st_narrowed) (defBody st_narrowed) (defScope st_narrowed) .none kV doc pm an cdv ct) ⟨us, []⟩ = pure ((["bounds", "gap", "passed"] : List Str).zip us) :=
  match us, hl with | [_, _, _], _ => rfl
theorem bn_q13 (kV doc pm : Value) (an : Option Addr) (cdv ct : Value) (us : List Value) (hl : us.length = (["log"] : List Str).length) : bindArgs (PySem.W.fnOf "explanations" "explanations" (defArgs st_explanations) (defBody st_explanations) (defScope st_explanations) .none kV doc pm an cdv ct) ⟨us, []⟩ = pure ((["log"] : List Str).zip us) :=
  match us, hl with | [_], _ => rfl
theorem bn_q14 (kV doc pm : Value) (an : Option Addr) (cdv ct : Value) (us : List Value) (hl : us.length = (["log"] : List Str).length) : bindArgs (PySem.W.fnOf "first_conflict" "first_conflict" (defArgs st_first_conflict) (defBody st_first_conflict) (defScope st_first_conflict) .none kV doc pm an cdv ct) ⟨us, []⟩ = pure ((["log"] : List Str).zip us) :=
  match us, hl with | [_], _ => rfl
theorem bn_q15 (kV doc pm : Value) (an : Option Addr) (cdv ct : Value) (us : List Value) (hl : us.length = (["log", "time"] : List Str).length) : bindArgs (PySem.W.fnOf "forecast" "forecast" (defArgs st_forecast) (defBody st_forecast) (defScope st_forecast) .none kV doc pm an cdv ct) ⟨us, []⟩ = pure ((["log", "time"] : List Str).zip us) :=
  match us, hl with | [_, _], _ => rfl
theorem bn_q16 (kV doc pm : Value) (an : Option Addr) (cdv ct : Value) (us : List Value) (hl : us.length = (["period_list"] : List Str).length) : bindArgs (PySem.W.fnOf "check_periods" "check_periods" (defArgs st_check_periods) (defBody st_check_periods) (defScope st_check_periods) .none kV doc pm an cdv ct) ⟨us, []⟩ = pure ((["period_list"] : List Str).zip us) :=
  match us, hl with | [_], _ => rfl
theorem bn_q17 (kV doc pm : Value) (an : Option Addr) (cdv ct : Value) (us : List Value) (hl : us.length = (["period_list"] : List Str).length) : bindArgs (PySem.W.fnOf "waits_of" "waits_of" (defArgs st_waits_of) (defBody st_waits_of) (defScope st_waits_of) .none kV doc pm an cdv ct) ⟨us, []⟩ = pure ((["period_list"] : List Str).zip us) :=
  match us, hl with | [_], _ => rfl
theorem bn_q18 (kV doc pm : Value) (an : Option Addr) (cdv ct : Value) (us : List Value) (hl : us.length = (["_law_cell", "_law_k"] : List Str).length) : bindArgs (PySem.W.fnOf "_law_mixed" "_law_mixed" (defArgs st__law_mixed) (defBody st__law_mixed) (defScope st__law_mixed) .none kV doc pm an cdv ct) ⟨us, []⟩ = pure ((["_law_cell", "_law_k"] : List Str).zip us) :=
  match us, hl with | [_, _], _ => rfl
theorem bn_q19 (kV doc pm : Value) (an : Option Addr) (cdv ct : Value) (us : List Value) (hl : us.length = (["_law_cell"] : List Str).length) : bindArgs (PySem.W.fnOf "_law_well" "_law_well" (defArgs st__law_well) (defBody st__law_well) (defScope st__law_well) .none kV doc pm an cdv ct) ⟨us, []⟩ = pure ((["_law_cell"] : List Str).zip us) :=
  match us, hl with | [_], _ => rfl
theorem bn_q20 (kV doc pm : Value) (an : Option Addr) (cdv ct : Value) (us : List Value) (hl : us.length = (["_law_well_here", "_law_many"] : List Str).length) : bindArgs (PySem.W.fnOf "_law_draw" "_law_draw" (defArgs st__law_draw) (defBody st__law_draw) (defScope st__law_draw) .none kV doc pm an cdv ct) ⟨us, []⟩ = pure ((["_law_well_here", "_law_many"] : List Str).zip us) :=
  match us, hl with | [_, _], _ => rfl
theorem bn_q21 (kV doc pm : Value) (an : Option Addr) (cdv ct : Value) (us : List Value) (hl : us.length = (["_law_deed"] : List Str).length) : bindArgs (PySem.W.fnOf "_law_said" "_law_said" (defArgs st__law_said) (defBody st__law_said) (defScope st__law_said) .none kV doc pm an cdv ct) ⟨us, []⟩ = pure ((["_law_deed"] : List Str).zip us) :=
  match us, hl with | [_], _ => rfl
theorem bn_q22 (kV doc pm : Value) (an : Option Addr) (cdv ct : Value) (us : List Value) (hl : us.length = (["_law_place"] : List Str).length) : bindArgs (PySem.W.fnOf "_law_logs_right" "_law_logs_right" (defArgs st__law_logs_right) (defBody st__law_logs_right) (defScope st__law_logs_right) .none kV doc pm an cdv ct) ⟨us, []⟩ = pure ((["_law_place"] : List Str).zip us) :=
  match us, hl with | [_], _ => rfl
theorem bn_q23 (kV doc pm : Value) (an : Option Addr) (cdv ct : Value) (us : List Value) (hl : us.length = (["_law_seen", "_law_last"] : List Str).length) : bindArgs (PySem.W.fnOf "_law_others_right" "_law_others_right" (defArgs st__law_others_right) (defBody st__law_others_right) (defScope st__law_others_right) .none kV doc pm an cdv ct) ⟨us, []⟩ = pure ((["_law_seen", "_law_last"] : List Str).zip us) :=
  match us, hl with | [_, _], _ => rfl
theorem bn_q24 (kV doc pm : Value) (an : Option Addr) (cdv ct : Value) (us : List Value) (hl : us.length = (["_law_well_here"] : List Str).length) : bindArgs (PySem.W.fnOf "_law_right" "_law_right" (defArgs st__law_right) (defBody st__law_right) (defScope st__law_right) .none kV doc pm an cdv ct) ⟨us, []⟩ = pure ((["_law_well_here"] : List Str).zip us) :=
  match us, hl with | [_], _ => rfl
theorem bn_NInvalidRow (kV doc pm : Value) (an : Option Addr) (cdv ct : Value) (us : List Value) (hl : us.length = (["self", "part", "at"] : List Str).length) : bindArgs (PySem.W.fnOf "__init__" "InvalidRow.__init__" (defArgs st_InvalidRow_init) (defBody st_InvalidRow_init) (defScope st_InvalidRow_init) .none kV doc pm an cdv ct) ⟨us, []⟩ = pure ((["self", "part", "at"] : List Str).zip us) :=
  match us, hl with | [_, _, _], _ => rfl
theorem bn_NInvalidTime (kV doc pm : Value) (an : Option Addr) (cdv ct : Value) (us : List Value) (hl : us.length = (["self", "time"] : List Str).length) : bindArgs (PySem.W.fnOf "__init__" "InvalidTime.__init__" (defArgs st_InvalidTime_init) (defBody st_InvalidTime_init) (defScope st_InvalidTime_init) .none kV doc pm an cdv ct) ⟨us, []⟩ = pure ((["self", "time"] : List Str).zip us) :=
  match us, hl with | [_, _], _ => rfl
theorem bn_NInvalidLog (kV doc pm : Value) (an : Option Addr) (cdv ct : Value) (us : List Value) (hl : us.length = (["self", "at"] : List Str).length) : bindArgs (PySem.W.fnOf "__init__" "InvalidLog.__init__" (defArgs st_InvalidLog_init) (defBody st_InvalidLog_init) (defScope st_InvalidLog_init) .none kV doc pm an cdv ct) ⟨us, []⟩ = pure ((["self", "at"] : List Str).zip us) :=
  match us, hl with | [_, _], _ => rfl
theorem mk_dfn {K : PySem.W.Frag} {h : Heap} {mg : Str → Option Value} {x : Str} {st : Stmt} {f : Addr} {ps : List Str} {oc : Value} {od an : Option Addr} {sl : Array (Option Value)} {kV dc pm cd ct : Value} (X : K.In h) (G : h.Ns mainGlobals mg) (a : PySem.W.nsIn K mainGlobals x = some (some (.ref f)))
    (l : K.lookup f = some ⟨oc, od, .func (PySem.W.fnOf x x (defArgs st) (defBody st) (defScope st) .none kV dc pm an cd ct), sl⟩) (c : PySem.W.codeIn K cd x = true) (k : PySem.W.keepIn K (.ref f) = true)
    (hb : ∀ (kV doc pm : Value) (an : Option Addr) (cdv ct : Value) (us : List Value), us.length = ps.length → bindArgs (PySem.W.fnOf x x (defArgs st) (defBody st) (defScope st) .none kV doc pm an cdv ct) ⟨us, []⟩ = pure (ps.zip us)) : Dfn K mg x st f ps :=
  ⟨⟨_, fun_mk l c k, (fun_mk l c k).binds hb⟩, PySem.W.mg_of X G a⟩
theorem mk_mth {K : PySem.W.Frag} {C : Addr} {x q : Str} {st : Stmt} {f : Addr} {ps : List Str} {oc : Value} {od an : Option Addr} {sl : Array (Option Value)} {kV dc pm cd ct : Value} (a : PySem.W.findIn K (.ref C) x = some (some (.ref f))) (i : PySem.W.isFn K (.ref f) = true) (fk : PySem.W.fnIn K f = true)
    (l : K.lookup f = some ⟨oc, od, .func (PySem.W.fnOf x q (defArgs st) (defBody st) (defScope st) .none kV dc pm an cd ct), sl⟩) (c : PySem.W.codeIn K cd q = true) (k : PySem.W.keepIn K (.ref f) = true)
    (hb : ∀ (kV doc pm : Value) (an : Option Addr) (cdv ct : Value) (us : List Value), us.length = ps.length → bindArgs (PySem.W.fnOf x q (defArgs st) (defBody st) (defScope st) .none kV doc pm an cdv ct) ⟨us, []⟩ = pure (ps.zip us)) : Mth K C x q st f ps :=
  ⟨⟨_, fun_mk l c k, (fun_mk l c k).binds hb⟩, a, i, fk⟩
set_option maxHeartbeats 16000000 in
theorem all_mk {P : Program} {w : World} {K : PySem.W.Frag} {h : Heap} {mg : Str → Option Value} {lv : List (Str × PySem.W.WData)} {fa aLaw fq0 fq1 fq2 fq3 fq4 fq5 fq6 fq7 fq8 fq9 fq10 fq11 fq12 fq13 fq14 fq15 fq16 fq17 fq18 fq19 fq20 fq21 fq22 kcq22 ktq22 fq23 kcq23 ktq23 fq24 kcq24 ktq24 EBreakerError EInvalidRow EInvalidTime EInvalidOutages EInvalidTrains EInvalidIndex EInvalidBound EInvalidLog EInvalidCall EInvalidText ELimitExceeded aIInvalidRow aIInvalidTime aIInvalidLog : Addr} {nmInvalidRow qnInvalidRow : Str} {nnInvalidRow : Addr} {bsInvalidRow sbInvalidRow : List Value} {snInvalidRow : List Str} {abInvalidRow : Bool} {coInvalidRow : Option Bool} {ddInvalidRow : Option Addr} {u0InvalidRow u1InvalidRow u2InvalidRow u3InvalidRow u5InvalidRow : Option Value} {nmInvalidTime qnInvalidTime : Str} {nnInvalidTime : Addr} {bsInvalidTime sbInvalidTime : List Value} {snInvalidTime : List Str} {abInvalidTime : Bool} {coInvalidTime : Option Bool} {ddInvalidTime : Option Addr} {u0InvalidTime u1InvalidTime u2InvalidTime u3InvalidTime u5InvalidTime : Option Value} {nmInvalidLog qnInvalidLog : Str} {nnInvalidLog : Addr} {bsInvalidLog sbInvalidLog : List Value} {snInvalidLog : List Str} {abInvalidLog : Bool} {coInvalidLog : Option Bool} {ddInvalidLog : Option Addr} {u0InvalidLog u1InvalidLog u2InvalidLog u3InvalidLog u5InvalidLog : Option Value} {tNMOST_BREAKERS tNMOST_ENTRIES : Tok} {odq0 anq0 odq1 anq1 odq2 anq2 odq3 anq3 odq4 anq4 odq5 anq5 odq6 anq6 odq7 anq7 odq8 anq8 odq9 anq9 odq10 anq10 odq11 anq11 odq12 anq12 odq13 anq13 odq14 anq14 odq15 anq15 odq16 anq16 odq17 anq17 odq18 anq18 odq19 anq19 odq20 anq20 odq21 anq21 odq22 anq22 odq23 anq23 odq24 anq24 odY anY odNInvalidRow anNInvalidRow odNInvalidTime anNInvalidTime odNInvalidLog anNInvalidLog : Option Addr} {slq0 slq1 slq2 slq3 slq4 slq5 slq6 slq7 slq8 slq9 slq10 slq11 slq12 slq13 slq14 slq15 slq16 slq17 slq18 slq19 slq20 slq21 slq22 slq23 slq24 slY slNInvalidRow slNInvalidTime slNInvalidLog : Array (Option Value)} {ocq0 kVq0 dcq0 pmq0 cdq0 ctq0 ocq1 kVq1 dcq1 pmq1 cdq1 ctq1 ocq2 kVq2 dcq2 pmq2 cdq2 ctq2 ocq3 kVq3 dcq3 pmq3 cdq3 ctq3 ocq4 kVq4 dcq4 pmq4 cdq4 ctq4 ocq5 kVq5 dcq5 pmq5 cdq5 ctq5 ocq6 kVq6 dcq6 pmq6 cdq6 ctq6 ocq7 kVq7 dcq7 pmq7 cdq7 ctq7 ocq8 kVq8 dcq8 pmq8 cdq8 ctq8 ocq9 kVq9 dcq9 pmq9 cdq9 ctq9 ocq10 kVq10 dcq10 pmq10 cdq10 ctq10 ocq11 kVq11 dcq11 pmq11 cdq11 ctq11 ocq12 kVq12 dcq12 pmq12 cdq12 ctq12 ocq13 kVq13 dcq13 pmq13 cdq13 ctq13 ocq14 kVq14 dcq14 pmq14 cdq14 ctq14 ocq15 kVq15 dcq15 pmq15 cdq15 ctq15 ocq16 kVq16 dcq16 pmq16 cdq16 ctq16 ocq17 kVq17 dcq17 pmq17 cdq17 ctq17 ocq18 kVq18 dcq18 pmq18 cdq18 ctq18 ocq19 kVq19 dcq19 pmq19 cdq19 ctq19 ocq20 kVq20 dcq20 pmq20 cdq20 ctq20 ocq21 kVq21 dcq21 pmq21 cdq21 ctq21 ocq22 kVq22 dcq22 pmq22 ctq22 ocq23 kVq23 dcq23 pmq23 ctq23 ocq24 kVq24 dcq24 pmq24 ctq24 ocY kVY dcY pmY cdY ctY ocNInvalidRow kVNInvalidRow dcNInvalidRow pmNInvalidRow cdNInvalidRow ctNInvalidRow ocNInvalidTime kVNInvalidTime dcNInvalidTime pmNInvalidTime cdNInvalidTime ctNInvalidTime ocNInvalidLog kVNInvalidLog dcNInvalidLog pmNInvalidLog cdNInvalidLog ctNInvalidLog : Value}
    (X : K.In h) (G : h.Ns mainGlobals mg) (LL : PySem.W.LooseAre lv mg h) (hLMOST_COUNT : (("MOST_COUNT" : Str), PySem.W.WData.int 1000000000000) ∈ lv) (hLMOST_TIME : (("MOST_TIME" : Str), PySem.W.WData.int 1000000000000000000000000000000) ∈ lv) (hfa : mg "law" = some (.ref fa))
    (aq0 : PySem.W.nsIn K mainGlobals "is_integer" = some (some (.ref fq0)))
    (lq0 : K.lookup fq0 = some ⟨ocq0, odq0, .func (PySem.W.fnOf "is_integer" "is_integer" (defArgs st_is_integer) (defBody st_is_integer) (defScope st_is_integer) .none kVq0 dcq0 pmq0 anq0 cdq0 ctq0), slq0⟩)
    (cq0 : PySem.W.codeIn K cdq0 "is_integer" = true)
    (kq0 : PySem.W.keepIn K (.ref fq0) = true)
    (aq1 : PySem.W.nsIn K mainGlobals "is_at_least" = some (some (.ref fq1)))
    (lq1 : K.lookup fq1 = some ⟨ocq1, odq1, .func (PySem.W.fnOf "is_at_least" "is_at_least" (defArgs st_is_at_least) (defBody st_is_at_least) (defScope st_is_at_least) .none kVq1 dcq1 pmq1 anq1 cdq1 ctq1), slq1⟩)
    (cq1 : PySem.W.codeIn K cdq1 "is_at_least" = true)
    (kq1 : PySem.W.keepIn K (.ref fq1) = true)
    (aq2 : PySem.W.nsIn K mainGlobals "is_within" = some (some (.ref fq2)))
    (lq2 : K.lookup fq2 = some ⟨ocq2, odq2, .func (PySem.W.fnOf "is_within" "is_within" (defArgs st_is_within) (defBody st_is_within) (defScope st_is_within) .none kVq2 dcq2 pmq2 anq2 cdq2 ctq2), slq2⟩)
    (cq2 : PySem.W.codeIn K cdq2 "is_within" = true)
    (kq2 : PySem.W.keepIn K (.ref fq2) = true)
    (aq3 : PySem.W.nsIn K mainGlobals "is_breaker" = some (some (.ref fq3)))
    (lq3 : K.lookup fq3 = some ⟨ocq3, odq3, .func (PySem.W.fnOf "is_breaker" "is_breaker" (defArgs st_is_breaker) (defBody st_is_breaker) (defScope st_is_breaker) .none kVq3 dcq3 pmq3 anq3 cdq3 ctq3), slq3⟩)
    (cq3 : PySem.W.codeIn K cdq3 "is_breaker" = true)
    (kq3 : PySem.W.keepIn K (.ref fq3) = true)
    (aq4 : PySem.W.nsIn K mainGlobals "passes" = some (some (.ref fq4)))
    (lq4 : K.lookup fq4 = some ⟨ocq4, odq4, .func (PySem.W.fnOf "passes" "passes" (defArgs st_passes) (defBody st_passes) (defScope st_passes) .none kVq4 dcq4 pmq4 anq4 cdq4 ctq4), slq4⟩)
    (cq4 : PySem.W.codeIn K cdq4 "passes" = true)
    (kq4 : PySem.W.keepIn K (.ref fq4) = true)
    (aq5 : PySem.W.nsIn K mainGlobals "state_behind" = some (some (.ref fq5)))
    (lq5 : K.lookup fq5 = some ⟨ocq5, odq5, .func (PySem.W.fnOf "state_behind" "state_behind" (defArgs st_state_behind) (defBody st_state_behind) (defScope st_state_behind) .none kVq5 dcq5 pmq5 anq5 cdq5 ctq5), slq5⟩)
    (cq5 : PySem.W.codeIn K cdq5 "state_behind" = true)
    (kq5 : PySem.W.keepIn K (.ref fq5) = true)
    (aq6 : PySem.W.nsIn K mainGlobals "check_times" = some (some (.ref fq6)))
    (lq6 : K.lookup fq6 = some ⟨ocq6, odq6, .func (PySem.W.fnOf "check_times" "check_times" (defArgs st_check_times) (defBody st_check_times) (defScope st_check_times) .none kVq6 dcq6 pmq6 anq6 cdq6 ctq6), slq6⟩)
    (cq6 : PySem.W.codeIn K cdq6 "check_times" = true)
    (kq6 : PySem.W.keepIn K (.ref fq6) = true)
    (aq7 : PySem.W.nsIn K mainGlobals "log_of" = some (some (.ref fq7)))
    (lq7 : K.lookup fq7 = some ⟨ocq7, odq7, .func (PySem.W.fnOf "log_of" "log_of" (defArgs st_log_of) (defBody st_log_of) (defScope st_log_of) .none kVq7 dcq7 pmq7 anq7 cdq7 ctq7), slq7⟩)
    (cq7 : PySem.W.codeIn K cdq7 "log_of" = true)
    (kq7 : PySem.W.keepIn K (.ref fq7) = true)
    (aq8 : PySem.W.nsIn K mainGlobals "is_entry" = some (some (.ref fq8)))
    (lq8 : K.lookup fq8 = some ⟨ocq8, odq8, .func (PySem.W.fnOf "is_entry" "is_entry" (defArgs st_is_entry) (defBody st_is_entry) (defScope st_is_entry) .none kVq8 dcq8 pmq8 anq8 cdq8 ctq8), slq8⟩)
    (cq8 : PySem.W.codeIn K cdq8 "is_entry" = true)
    (kq8 : PySem.W.keepIn K (.ref fq8) = true)
    (aq9 : PySem.W.nsIn K mainGlobals "check_log" = some (some (.ref fq9)))
    (lq9 : K.lookup fq9 = some ⟨ocq9, odq9, .func (PySem.W.fnOf "check_log" "check_log" (defArgs st_check_log) (defBody st_check_log) (defScope st_check_log) .none kVq9 dcq9 pmq9 anq9 cdq9 ctq9), slq9⟩)
    (cq9 : PySem.W.codeIn K cdq9 "check_log" = true)
    (kq9 : PySem.W.keepIn K (.ref fq9) = true)
    (aq10 : PySem.W.nsIn K mainGlobals "passes_ahead" = some (some (.ref fq10)))
    (lq10 : K.lookup fq10 = some ⟨ocq10, odq10, .func (PySem.W.fnOf "passes_ahead" "passes_ahead" (defArgs st_passes_ahead) (defBody st_passes_ahead) (defScope st_passes_ahead) .none kVq10 dcq10 pmq10 anq10 cdq10 ctq10), slq10⟩)
    (cq10 : PySem.W.codeIn K cdq10 "passes_ahead" = true)
    (kq10 : PySem.W.keepIn K (.ref fq10) = true)
    (aq11 : PySem.W.nsIn K mainGlobals "gaps_of" = some (some (.ref fq11)))
    (lq11 : K.lookup fq11 = some ⟨ocq11, odq11, .func (PySem.W.fnOf "gaps_of" "gaps_of" (defArgs st_gaps_of) (defBody st_gaps_of) (defScope st_gaps_of) .none kVq11 dcq11 pmq11 anq11 cdq11 ctq11), slq11⟩)
    (cq11 : PySem.W.codeIn K cdq11 "gaps_of" = true)
    (kq11 : PySem.W.keepIn K (.ref fq11) = true)
    (aq12 : PySem.W.nsIn K mainGlobals "narrowed" = some (some (.ref fq12)))
    (lq12 : K.lookup fq12 = some ⟨ocq12, odq12, .func (PySem.W.fnOf "narrowed" "narrowed" (defArgs st_narrowed) (defBody st_narrowed) (defScope st_narrowed) .none kVq12 dcq12 pmq12 anq12 cdq12 ctq12), slq12⟩)
    (cq12 : PySem.W.codeIn K cdq12 "narrowed" = true)
    (kq12 : PySem.W.keepIn K (.ref fq12) = true)
    (aq13 : PySem.W.nsIn K mainGlobals "explanations" = some (some (.ref fq13)))
    (lq13 : K.lookup fq13 = some ⟨ocq13, odq13, .func (PySem.W.fnOf "explanations" "explanations" (defArgs st_explanations) (defBody st_explanations) (defScope st_explanations) .none kVq13 dcq13 pmq13 anq13 cdq13 ctq13), slq13⟩)
    (cq13 : PySem.W.codeIn K cdq13 "explanations" = true)
    (kq13 : PySem.W.keepIn K (.ref fq13) = true)
    (aq14 : PySem.W.nsIn K mainGlobals "first_conflict" = some (some (.ref fq14)))
    (lq14 : K.lookup fq14 = some ⟨ocq14, odq14, .func (PySem.W.fnOf "first_conflict" "first_conflict" (defArgs st_first_conflict) (defBody st_first_conflict) (defScope st_first_conflict) .none kVq14 dcq14 pmq14 anq14 cdq14 ctq14), slq14⟩)
    (cq14 : PySem.W.codeIn K cdq14 "first_conflict" = true)
    (kq14 : PySem.W.keepIn K (.ref fq14) = true)
    (aq15 : PySem.W.nsIn K mainGlobals "forecast" = some (some (.ref fq15)))
    (lq15 : K.lookup fq15 = some ⟨ocq15, odq15, .func (PySem.W.fnOf "forecast" "forecast" (defArgs st_forecast) (defBody st_forecast) (defScope st_forecast) .none kVq15 dcq15 pmq15 anq15 cdq15 ctq15), slq15⟩)
    (cq15 : PySem.W.codeIn K cdq15 "forecast" = true)
    (kq15 : PySem.W.keepIn K (.ref fq15) = true)
    (aq16 : PySem.W.nsIn K mainGlobals "check_periods" = some (some (.ref fq16)))
    (lq16 : K.lookup fq16 = some ⟨ocq16, odq16, .func (PySem.W.fnOf "check_periods" "check_periods" (defArgs st_check_periods) (defBody st_check_periods) (defScope st_check_periods) .none kVq16 dcq16 pmq16 anq16 cdq16 ctq16), slq16⟩)
    (cq16 : PySem.W.codeIn K cdq16 "check_periods" = true)
    (kq16 : PySem.W.keepIn K (.ref fq16) = true)
    (aq17 : PySem.W.nsIn K mainGlobals "waits_of" = some (some (.ref fq17)))
    (lq17 : K.lookup fq17 = some ⟨ocq17, odq17, .func (PySem.W.fnOf "waits_of" "waits_of" (defArgs st_waits_of) (defBody st_waits_of) (defScope st_waits_of) .none kVq17 dcq17 pmq17 anq17 cdq17 ctq17), slq17⟩)
    (cq17 : PySem.W.codeIn K cdq17 "waits_of" = true)
    (kq17 : PySem.W.keepIn K (.ref fq17) = true)
    (aq18 : PySem.W.nsIn K mainGlobals "_law_mixed" = some (some (.ref fq18)))
    (lq18 : K.lookup fq18 = some ⟨ocq18, odq18, .func (PySem.W.fnOf "_law_mixed" "_law_mixed" (defArgs st__law_mixed) (defBody st__law_mixed) (defScope st__law_mixed) .none kVq18 dcq18 pmq18 anq18 cdq18 ctq18), slq18⟩)
    (cq18 : PySem.W.codeIn K cdq18 "_law_mixed" = true)
    (kq18 : PySem.W.keepIn K (.ref fq18) = true)
    (aq19 : PySem.W.nsIn K mainGlobals "_law_well" = some (some (.ref fq19)))
    (lq19 : K.lookup fq19 = some ⟨ocq19, odq19, .func (PySem.W.fnOf "_law_well" "_law_well" (defArgs st__law_well) (defBody st__law_well) (defScope st__law_well) .none kVq19 dcq19 pmq19 anq19 cdq19 ctq19), slq19⟩)
    (cq19 : PySem.W.codeIn K cdq19 "_law_well" = true)
    (kq19 : PySem.W.keepIn K (.ref fq19) = true)
    (aq20 : PySem.W.nsIn K mainGlobals "_law_draw" = some (some (.ref fq20)))
    (lq20 : K.lookup fq20 = some ⟨ocq20, odq20, .func (PySem.W.fnOf "_law_draw" "_law_draw" (defArgs st__law_draw) (defBody st__law_draw) (defScope st__law_draw) .none kVq20 dcq20 pmq20 anq20 cdq20 ctq20), slq20⟩)
    (cq20 : PySem.W.codeIn K cdq20 "_law_draw" = true)
    (kq20 : PySem.W.keepIn K (.ref fq20) = true)
    (aq21 : PySem.W.nsIn K mainGlobals "_law_said" = some (some (.ref fq21)))
    (lq21 : K.lookup fq21 = some ⟨ocq21, odq21, .func (PySem.W.fnOf "_law_said" "_law_said" (defArgs st__law_said) (defBody st__law_said) (defScope st__law_said) .none kVq21 dcq21 pmq21 anq21 cdq21 ctq21), slq21⟩)
    (cq21 : PySem.W.codeIn K cdq21 "_law_said" = true)
    (kq21 : PySem.W.keepIn K (.ref fq21) = true)
    (aq22 : PySem.W.nsIn K mainGlobals "_law_logs_right" = some (some (.ref fq22)))
    (lq22 : K.lookup fq22 = some ⟨ocq22, odq22, .func (PySem.W.fnOf "_law_logs_right" "_law_logs_right" (defArgs st__law_logs_right) (defBody st__law_logs_right) (defScope st__law_logs_right) .none kVq22 dcq22 pmq22 anq22 (.ref kcq22) ctq22), slq22⟩)
    (cq22 : PySem.W.codeIn K (.ref kcq22) "_law_logs_right" = true)
    (kq22 : PySem.W.keepIn K (.ref fq22) = true)
    (aq23 : PySem.W.nsIn K mainGlobals "_law_others_right" = some (some (.ref fq23)))
    (lq23 : K.lookup fq23 = some ⟨ocq23, odq23, .func (PySem.W.fnOf "_law_others_right" "_law_others_right" (defArgs st__law_others_right) (defBody st__law_others_right) (defScope st__law_others_right) .none kVq23 dcq23 pmq23 anq23 (.ref kcq23) ctq23), slq23⟩)
    (cq23 : PySem.W.codeIn K (.ref kcq23) "_law_others_right" = true)
    (kq23 : PySem.W.keepIn K (.ref fq23) = true)
    (aq24 : PySem.W.nsIn K mainGlobals "_law_right" = some (some (.ref fq24)))
    (lq24 : K.lookup fq24 = some ⟨ocq24, odq24, .func (PySem.W.fnOf "_law_right" "_law_right" (defArgs st__law_right) (defBody st__law_right) (defScope st__law_right) .none kVq24 dcq24 pmq24 anq24 (.ref kcq24) ctq24), slq24⟩)
    (cq24 : PySem.W.codeIn K (.ref kcq24) "_law_right" = true)
    (kq24 : PySem.W.keepIn K (.ref fq24) = true)
    (geBreakerError : PySem.W.nsIn K mainGlobals "BreakerError" = some (some (.ref EBreakerError)))
    (xaBreakerError : PySem.W.findIn K (.ref EBreakerError) "__getattribute__" = some (some (.builtin "BaseException.__getattribute__")))
    (xbBreakerError : PySem.W.findIn K (.ref EBreakerError) "__getattr__" = some none)
    (xcBreakerError : PySem.W.subIn K (.ref EBreakerError) (.type "BaseException") = some true)
    (xdBreakerError : PySem.W.hasDictIn K EBreakerError = true)
    (xeBreakerError : PySem.W.typeIn K (.ref EBreakerError) = some (.type "type"))
    (geInvalidRow : PySem.W.nsIn K mainGlobals "InvalidRow" = some (some (.ref EInvalidRow)))
    (xaInvalidRow : PySem.W.findIn K (.ref EInvalidRow) "__getattribute__" = some (some (.builtin "BaseException.__getattribute__")))
    (xbInvalidRow : PySem.W.findIn K (.ref EInvalidRow) "__getattr__" = some none)
    (xcInvalidRow : PySem.W.subIn K (.ref EInvalidRow) (.type "BaseException") = some true)
    (xdInvalidRow : PySem.W.hasDictIn K EInvalidRow = true)
    (xeInvalidRow : PySem.W.typeIn K (.ref EInvalidRow) = some (.type "type"))
    (geInvalidTime : PySem.W.nsIn K mainGlobals "InvalidTime" = some (some (.ref EInvalidTime)))
    (xaInvalidTime : PySem.W.findIn K (.ref EInvalidTime) "__getattribute__" = some (some (.builtin "BaseException.__getattribute__")))
    (xbInvalidTime : PySem.W.findIn K (.ref EInvalidTime) "__getattr__" = some none)
    (xcInvalidTime : PySem.W.subIn K (.ref EInvalidTime) (.type "BaseException") = some true)
    (xdInvalidTime : PySem.W.hasDictIn K EInvalidTime = true)
    (xeInvalidTime : PySem.W.typeIn K (.ref EInvalidTime) = some (.type "type"))
    (geInvalidOutages : PySem.W.nsIn K mainGlobals "InvalidOutages" = some (some (.ref EInvalidOutages)))
    (xaInvalidOutages : PySem.W.findIn K (.ref EInvalidOutages) "__getattribute__" = some (some (.builtin "BaseException.__getattribute__")))
    (xbInvalidOutages : PySem.W.findIn K (.ref EInvalidOutages) "__getattr__" = some none)
    (xcInvalidOutages : PySem.W.subIn K (.ref EInvalidOutages) (.type "BaseException") = some true)
    (xdInvalidOutages : PySem.W.hasDictIn K EInvalidOutages = true)
    (xeInvalidOutages : PySem.W.typeIn K (.ref EInvalidOutages) = some (.type "type"))
    (geInvalidTrains : PySem.W.nsIn K mainGlobals "InvalidTrains" = some (some (.ref EInvalidTrains)))
    (xaInvalidTrains : PySem.W.findIn K (.ref EInvalidTrains) "__getattribute__" = some (some (.builtin "BaseException.__getattribute__")))
    (xbInvalidTrains : PySem.W.findIn K (.ref EInvalidTrains) "__getattr__" = some none)
    (xcInvalidTrains : PySem.W.subIn K (.ref EInvalidTrains) (.type "BaseException") = some true)
    (xdInvalidTrains : PySem.W.hasDictIn K EInvalidTrains = true)
    (xeInvalidTrains : PySem.W.typeIn K (.ref EInvalidTrains) = some (.type "type"))
    (geInvalidIndex : PySem.W.nsIn K mainGlobals "InvalidIndex" = some (some (.ref EInvalidIndex)))
    (xaInvalidIndex : PySem.W.findIn K (.ref EInvalidIndex) "__getattribute__" = some (some (.builtin "BaseException.__getattribute__")))
    (xbInvalidIndex : PySem.W.findIn K (.ref EInvalidIndex) "__getattr__" = some none)
    (xcInvalidIndex : PySem.W.subIn K (.ref EInvalidIndex) (.type "BaseException") = some true)
    (xdInvalidIndex : PySem.W.hasDictIn K EInvalidIndex = true)
    (xeInvalidIndex : PySem.W.typeIn K (.ref EInvalidIndex) = some (.type "type"))
    (geInvalidBound : PySem.W.nsIn K mainGlobals "InvalidBound" = some (some (.ref EInvalidBound)))
    (xaInvalidBound : PySem.W.findIn K (.ref EInvalidBound) "__getattribute__" = some (some (.builtin "BaseException.__getattribute__")))
    (xbInvalidBound : PySem.W.findIn K (.ref EInvalidBound) "__getattr__" = some none)
    (xcInvalidBound : PySem.W.subIn K (.ref EInvalidBound) (.type "BaseException") = some true)
    (xdInvalidBound : PySem.W.hasDictIn K EInvalidBound = true)
    (xeInvalidBound : PySem.W.typeIn K (.ref EInvalidBound) = some (.type "type"))
    (geInvalidLog : PySem.W.nsIn K mainGlobals "InvalidLog" = some (some (.ref EInvalidLog)))
    (xaInvalidLog : PySem.W.findIn K (.ref EInvalidLog) "__getattribute__" = some (some (.builtin "BaseException.__getattribute__")))
    (xbInvalidLog : PySem.W.findIn K (.ref EInvalidLog) "__getattr__" = some none)
    (xcInvalidLog : PySem.W.subIn K (.ref EInvalidLog) (.type "BaseException") = some true)
    (xdInvalidLog : PySem.W.hasDictIn K EInvalidLog = true)
    (xeInvalidLog : PySem.W.typeIn K (.ref EInvalidLog) = some (.type "type"))
    (geInvalidCall : PySem.W.nsIn K mainGlobals "InvalidCall" = some (some (.ref EInvalidCall)))
    (xaInvalidCall : PySem.W.findIn K (.ref EInvalidCall) "__getattribute__" = some (some (.builtin "BaseException.__getattribute__")))
    (xbInvalidCall : PySem.W.findIn K (.ref EInvalidCall) "__getattr__" = some none)
    (xcInvalidCall : PySem.W.subIn K (.ref EInvalidCall) (.type "BaseException") = some true)
    (xdInvalidCall : PySem.W.hasDictIn K EInvalidCall = true)
    (xeInvalidCall : PySem.W.typeIn K (.ref EInvalidCall) = some (.type "type"))
    (geInvalidText : PySem.W.nsIn K mainGlobals "InvalidText" = some (some (.ref EInvalidText)))
    (xaInvalidText : PySem.W.findIn K (.ref EInvalidText) "__getattribute__" = some (some (.builtin "BaseException.__getattribute__")))
    (xbInvalidText : PySem.W.findIn K (.ref EInvalidText) "__getattr__" = some none)
    (xcInvalidText : PySem.W.subIn K (.ref EInvalidText) (.type "BaseException") = some true)
    (xdInvalidText : PySem.W.hasDictIn K EInvalidText = true)
    (xeInvalidText : PySem.W.typeIn K (.ref EInvalidText) = some (.type "type"))
    (geLimitExceeded : PySem.W.nsIn K mainGlobals "LimitExceeded" = some (some (.ref ELimitExceeded)))
    (xaLimitExceeded : PySem.W.findIn K (.ref ELimitExceeded) "__getattribute__" = some (some (.builtin "BaseException.__getattribute__")))
    (xbLimitExceeded : PySem.W.findIn K (.ref ELimitExceeded) "__getattr__" = some none)
    (xcLimitExceeded : PySem.W.subIn K (.ref ELimitExceeded) (.type "BaseException") = some true)
    (xdLimitExceeded : PySem.W.hasDictIn K ELimitExceeded = true)
    (xeLimitExceeded : PySem.W.typeIn K (.ref ELimitExceeded) = some (.type "type"))
    (xoInvalidRow : K.lookup EInvalidRow = some (excClassObj nmInvalidRow qnInvalidRow EInvalidRow nnInvalidRow bsInvalidRow [.ref EBreakerError, .type "ArithmeticError", .type "Exception", .type "BaseException", .type "object"] true snInvalidRow sbInvalidRow abInvalidRow coInvalidRow ddInvalidRow u0InvalidRow u1InvalidRow u2InvalidRow u3InvalidRow u5InvalidRow "ArithmeticError.__new__"))
    (xsInvalidRow : PySem.W.findIn K (.ref EInvalidRow) "__setattr__" = some (some (.builtin "object.__setattr__")))
    (xkInvalidRow : PySem.W.keepIn K (.ref EInvalidRow) = true)
    (aNInvalidRow : PySem.W.findIn K (.ref EInvalidRow) "__init__" = some (some (.ref aIInvalidRow)))
    (tNInvalidRow : PySem.W.typeIn K (.ref aIInvalidRow) = some (.type "function"))
    (lNInvalidRow : K.lookup aIInvalidRow = some ⟨ocNInvalidRow, odNInvalidRow, .func (PySem.W.fnOf "__init__" "InvalidRow.__init__" (defArgs st_InvalidRow_init) (defBody st_InvalidRow_init) (defScope st_InvalidRow_init) .none kVNInvalidRow dcNInvalidRow pmNInvalidRow anNInvalidRow cdNInvalidRow ctNInvalidRow), slNInvalidRow⟩)
    (cNInvalidRow : PySem.W.codeIn K cdNInvalidRow "InvalidRow.__init__" = true)
    (kNInvalidRow : PySem.W.keepIn K (.ref aIInvalidRow) = true)
    (neInvalidRow_part : PySem.W.findIn K (.ref EInvalidRow) "part" = some none)
    (neInvalidRow_at : PySem.W.findIn K (.ref EInvalidRow) "at" = some none)
    (neInvalidRow_time : PySem.W.findIn K (.ref EInvalidRow) "time" = some none)
    (neInvalidRow_index : PySem.W.findIn K (.ref EInvalidRow) "index" = some none)
    (neInvalidRow_call : PySem.W.findIn K (.ref EInvalidRow) "call" = some none)
    (neInvalidRow_line : PySem.W.findIn K (.ref EInvalidRow) "line" = some none)
    (neInvalidRow_word : PySem.W.findIn K (.ref EInvalidRow) "word" = some none)
    (neInvalidRow_limit : PySem.W.findIn K (.ref EInvalidRow) "limit" = some none)
    (xlInvalidRow : PySem.W.findIn K (.ref EInvalidRow) "__class__" = some (some (.builtin "object.__class__")))
    (xmInvalidRow : PySem.W.mroIn K EInvalidRow (.type "object") = some true)
    (gO1 : PySem.W.specialIn K (.builtin "object.__class__") "__get__" = some (some (.builtin "getset_descriptor.__get__")))
    (gO2 : PySem.W.takesIn K (.builtin "object.__class__") = some true)
    (seInvalidRow_BreakerError : PySem.W.subIn K (.ref EInvalidRow) (.ref EBreakerError) = some true)
    (seInvalidRow_InvalidRow : PySem.W.subIn K (.ref EInvalidRow) (.ref EInvalidRow) = some true)
    (seInvalidRow_InvalidTime : PySem.W.subIn K (.ref EInvalidRow) (.ref EInvalidTime) = some false)
    (seInvalidRow_InvalidOutages : PySem.W.subIn K (.ref EInvalidRow) (.ref EInvalidOutages) = some false)
    (seInvalidRow_InvalidTrains : PySem.W.subIn K (.ref EInvalidRow) (.ref EInvalidTrains) = some false)
    (seInvalidRow_InvalidIndex : PySem.W.subIn K (.ref EInvalidRow) (.ref EInvalidIndex) = some false)
    (seInvalidRow_InvalidBound : PySem.W.subIn K (.ref EInvalidRow) (.ref EInvalidBound) = some false)
    (seInvalidRow_InvalidLog : PySem.W.subIn K (.ref EInvalidRow) (.ref EInvalidLog) = some false)
    (seInvalidRow_InvalidCall : PySem.W.subIn K (.ref EInvalidRow) (.ref EInvalidCall) = some false)
    (seInvalidRow_InvalidText : PySem.W.subIn K (.ref EInvalidRow) (.ref EInvalidText) = some false)
    (seInvalidRow_LimitExceeded : PySem.W.subIn K (.ref EInvalidRow) (.ref ELimitExceeded) = some false)
    (saInvalidRow : PySem.W.subIn K (.ref EInvalidRow) (.type "ArithmeticError") = some true)
    (xoInvalidTime : K.lookup EInvalidTime = some (excClassObj nmInvalidTime qnInvalidTime EInvalidTime nnInvalidTime bsInvalidTime [.ref EBreakerError, .type "ArithmeticError", .type "Exception", .type "BaseException", .type "object"] true snInvalidTime sbInvalidTime abInvalidTime coInvalidTime ddInvalidTime u0InvalidTime u1InvalidTime u2InvalidTime u3InvalidTime u5InvalidTime "ArithmeticError.__new__"))
    (xsInvalidTime : PySem.W.findIn K (.ref EInvalidTime) "__setattr__" = some (some (.builtin "object.__setattr__")))
    (xkInvalidTime : PySem.W.keepIn K (.ref EInvalidTime) = true)
    (aNInvalidTime : PySem.W.findIn K (.ref EInvalidTime) "__init__" = some (some (.ref aIInvalidTime)))
    (tNInvalidTime : PySem.W.typeIn K (.ref aIInvalidTime) = some (.type "function"))
    (lNInvalidTime : K.lookup aIInvalidTime = some ⟨ocNInvalidTime, odNInvalidTime, .func (PySem.W.fnOf "__init__" "InvalidTime.__init__" (defArgs st_InvalidTime_init) (defBody st_InvalidTime_init) (defScope st_InvalidTime_init) .none kVNInvalidTime dcNInvalidTime pmNInvalidTime anNInvalidTime cdNInvalidTime ctNInvalidTime), slNInvalidTime⟩)
    (cNInvalidTime : PySem.W.codeIn K cdNInvalidTime "InvalidTime.__init__" = true)
    (kNInvalidTime : PySem.W.keepIn K (.ref aIInvalidTime) = true)
    (neInvalidTime_part : PySem.W.findIn K (.ref EInvalidTime) "part" = some none)
    (neInvalidTime_at : PySem.W.findIn K (.ref EInvalidTime) "at" = some none)
    (neInvalidTime_time : PySem.W.findIn K (.ref EInvalidTime) "time" = some none)
    (neInvalidTime_index : PySem.W.findIn K (.ref EInvalidTime) "index" = some none)
    (neInvalidTime_call : PySem.W.findIn K (.ref EInvalidTime) "call" = some none)
    (neInvalidTime_line : PySem.W.findIn K (.ref EInvalidTime) "line" = some none)
    (neInvalidTime_word : PySem.W.findIn K (.ref EInvalidTime) "word" = some none)
    (neInvalidTime_limit : PySem.W.findIn K (.ref EInvalidTime) "limit" = some none)
    (xlInvalidTime : PySem.W.findIn K (.ref EInvalidTime) "__class__" = some (some (.builtin "object.__class__")))
    (xmInvalidTime : PySem.W.mroIn K EInvalidTime (.type "object") = some true)
    (seInvalidTime_BreakerError : PySem.W.subIn K (.ref EInvalidTime) (.ref EBreakerError) = some true)
    (seInvalidTime_InvalidRow : PySem.W.subIn K (.ref EInvalidTime) (.ref EInvalidRow) = some false)
    (seInvalidTime_InvalidTime : PySem.W.subIn K (.ref EInvalidTime) (.ref EInvalidTime) = some true)
    (seInvalidTime_InvalidOutages : PySem.W.subIn K (.ref EInvalidTime) (.ref EInvalidOutages) = some false)
    (seInvalidTime_InvalidTrains : PySem.W.subIn K (.ref EInvalidTime) (.ref EInvalidTrains) = some false)
    (seInvalidTime_InvalidIndex : PySem.W.subIn K (.ref EInvalidTime) (.ref EInvalidIndex) = some false)
    (seInvalidTime_InvalidBound : PySem.W.subIn K (.ref EInvalidTime) (.ref EInvalidBound) = some false)
    (seInvalidTime_InvalidLog : PySem.W.subIn K (.ref EInvalidTime) (.ref EInvalidLog) = some false)
    (seInvalidTime_InvalidCall : PySem.W.subIn K (.ref EInvalidTime) (.ref EInvalidCall) = some false)
    (seInvalidTime_InvalidText : PySem.W.subIn K (.ref EInvalidTime) (.ref EInvalidText) = some false)
    (seInvalidTime_LimitExceeded : PySem.W.subIn K (.ref EInvalidTime) (.ref ELimitExceeded) = some false)
    (saInvalidTime : PySem.W.subIn K (.ref EInvalidTime) (.type "ArithmeticError") = some true)
    (xoInvalidLog : K.lookup EInvalidLog = some (excClassObj nmInvalidLog qnInvalidLog EInvalidLog nnInvalidLog bsInvalidLog [.ref EBreakerError, .type "ArithmeticError", .type "Exception", .type "BaseException", .type "object"] true snInvalidLog sbInvalidLog abInvalidLog coInvalidLog ddInvalidLog u0InvalidLog u1InvalidLog u2InvalidLog u3InvalidLog u5InvalidLog "ArithmeticError.__new__"))
    (xsInvalidLog : PySem.W.findIn K (.ref EInvalidLog) "__setattr__" = some (some (.builtin "object.__setattr__")))
    (xkInvalidLog : PySem.W.keepIn K (.ref EInvalidLog) = true)
    (aNInvalidLog : PySem.W.findIn K (.ref EInvalidLog) "__init__" = some (some (.ref aIInvalidLog)))
    (tNInvalidLog : PySem.W.typeIn K (.ref aIInvalidLog) = some (.type "function"))
    (lNInvalidLog : K.lookup aIInvalidLog = some ⟨ocNInvalidLog, odNInvalidLog, .func (PySem.W.fnOf "__init__" "InvalidLog.__init__" (defArgs st_InvalidLog_init) (defBody st_InvalidLog_init) (defScope st_InvalidLog_init) .none kVNInvalidLog dcNInvalidLog pmNInvalidLog anNInvalidLog cdNInvalidLog ctNInvalidLog), slNInvalidLog⟩)
    (cNInvalidLog : PySem.W.codeIn K cdNInvalidLog "InvalidLog.__init__" = true)
    (kNInvalidLog : PySem.W.keepIn K (.ref aIInvalidLog) = true)
    (neInvalidLog_part : PySem.W.findIn K (.ref EInvalidLog) "part" = some none)
    (neInvalidLog_at : PySem.W.findIn K (.ref EInvalidLog) "at" = some none)
    (neInvalidLog_time : PySem.W.findIn K (.ref EInvalidLog) "time" = some none)
    (neInvalidLog_index : PySem.W.findIn K (.ref EInvalidLog) "index" = some none)
    (neInvalidLog_call : PySem.W.findIn K (.ref EInvalidLog) "call" = some none)
    (neInvalidLog_line : PySem.W.findIn K (.ref EInvalidLog) "line" = some none)
    (neInvalidLog_word : PySem.W.findIn K (.ref EInvalidLog) "word" = some none)
    (neInvalidLog_limit : PySem.W.findIn K (.ref EInvalidLog) "limit" = some none)
    (xlInvalidLog : PySem.W.findIn K (.ref EInvalidLog) "__class__" = some (some (.builtin "object.__class__")))
    (xmInvalidLog : PySem.W.mroIn K EInvalidLog (.type "object") = some true)
    (seInvalidLog_BreakerError : PySem.W.subIn K (.ref EInvalidLog) (.ref EBreakerError) = some true)
    (seInvalidLog_InvalidRow : PySem.W.subIn K (.ref EInvalidLog) (.ref EInvalidRow) = some false)
    (seInvalidLog_InvalidTime : PySem.W.subIn K (.ref EInvalidLog) (.ref EInvalidTime) = some false)
    (seInvalidLog_InvalidOutages : PySem.W.subIn K (.ref EInvalidLog) (.ref EInvalidOutages) = some false)
    (seInvalidLog_InvalidTrains : PySem.W.subIn K (.ref EInvalidLog) (.ref EInvalidTrains) = some false)
    (seInvalidLog_InvalidIndex : PySem.W.subIn K (.ref EInvalidLog) (.ref EInvalidIndex) = some false)
    (seInvalidLog_InvalidBound : PySem.W.subIn K (.ref EInvalidLog) (.ref EInvalidBound) = some false)
    (seInvalidLog_InvalidLog : PySem.W.subIn K (.ref EInvalidLog) (.ref EInvalidLog) = some true)
    (seInvalidLog_InvalidCall : PySem.W.subIn K (.ref EInvalidLog) (.ref EInvalidCall) = some false)
    (seInvalidLog_InvalidText : PySem.W.subIn K (.ref EInvalidLog) (.ref EInvalidText) = some false)
    (seInvalidLog_LimitExceeded : PySem.W.subIn K (.ref EInvalidLog) (.ref ELimitExceeded) = some false)
    (saInvalidLog : PySem.W.subIn K (.ref EInvalidLog) (.type "ArithmeticError") = some true)
    (gNMOST_BREAKERS : PySem.W.nsIn K mainGlobals "MOST_BREAKERS" = some (some (.int 12 tNMOST_BREAKERS)))
    (gNMOST_ENTRIES : PySem.W.nsIn K mainGlobals "MOST_ENTRIES" = some (some (.int 1000 tNMOST_ENTRIES)))
    (aY : PySem.W.nsIn K mainGlobals "law" = some (some (.ref aLaw)))
    (lY : K.lookup aLaw = some ⟨ocY, odY, .func (PySem.W.fnOf "law" "law" (defArgs st_law) (defBody st_law) (defScope st_law) .none kVY dcY pmY anY cdY ctY), slY⟩)
    (cY : PySem.W.codeIn K cdY "law" = true)
    (kY : PySem.W.keepIn K (.ref aLaw) = true)
    (z_ArithmeticError : PySem.W.nsIn K mainGlobals "ArithmeticError" = some none)
    (z_bool : PySem.W.nsIn K mainGlobals "bool" = some none)
    (z_enumerate : PySem.W.nsIn K mainGlobals "enumerate" = some none)
    (z_int : PySem.W.nsIn K mainGlobals "int" = some none)
    (z_isinstance : PySem.W.nsIn K mainGlobals "isinstance" = some none)
    (z_len : PySem.W.nsIn K mainGlobals "len" = some none)
    (z_list : PySem.W.nsIn K mainGlobals "list" = some none)
    (z_max : PySem.W.nsIn K mainGlobals "max" = some none)
    (z_min : PySem.W.nsIn K mainGlobals "min" = some none)
    (z_range : PySem.W.nsIn K mainGlobals "range" = some none)
    (z_repr : PySem.W.nsIn K mainGlobals "repr" = some none)
    (z_tuple : PySem.W.nsIn K mainGlobals "tuple" = some none)
    (z_zip : PySem.W.nsIn K mainGlobals "zip" = some none)
    (tbq22 : TabE K h kcq22 ktq22)
    (tbq23 : TabE K h kcq23 ktq23)
    (tbq24 : TabE K h kcq24 ktq24)
    (ntq22_q23 : ktq22 ≠ ktq23)
    (ntq22_q24 : ktq22 ≠ ktq24)
    (ntq23_q24 : ktq23 ≠ ktq24) :
    ∃ (fd : FuncData) (cs : List (Addr × Addr)) (sp : Sp), (∀ p ∈ cs, TabE K h p.1 p.2) ∧ (∀ (s : Shared) (v : Value), BindsTo s fd ⟨[v], []⟩ [("_law_script", v)]) ∧ (∀ (H : Hp) (a : Addr) (ns : List Int), ns.length ≤ 63 → (∀ z ∈ ns, Builtin.Int.intBits z ≤ 1048576) → (∀ p ∈ cs, H p.2 = some (.tbl #[])) → SqL K H a (ns.map V.int) → sp [.ref a] H (fun v _ => v = .bl true) fun _ _ _ => False) ∧ ∀ base : Heap, K.In base → base.Ns mainGlobals mg → (∀ p ∈ cs, LamX.TabB base mg p.1 p.2) → FnOk P w K mg base CX0 14 fa fd ["_law_script"] sp := by
  have e := hfa.symm.trans (PySem.W.mg_of X G aY)
  cases e
  obtain ⟨vMOST_COUNT, hvMOST_COUNT, rMOST_COUNT⟩ := LL.val _ hLMOST_COUNT
  obtain ⟨tMOST_COUNT, rfl, -⟩ := PySem.W.readsW_int_inv rMOST_COUNT
  obtain ⟨vMOST_TIME, hvMOST_TIME, rMOST_TIME⟩ := LL.val _ hLMOST_TIME
  obtain ⟨tMOST_TIME, rfl, -⟩ := PySem.W.readsW_int_inv rMOST_TIME
  have T : LX K mg ⟨fq0, fq1, fq2, fq3, fq4, fq5, fq6, fq7, fq8, fq9, fq10, fq11, fq12, fq13, fq14, fq15, fq16, fq17, fq18, fq19, fq20, fq21, fq22, kcq22, ktq22, fq23, kcq23, ktq23, fq24, kcq24, ktq24, EBreakerError, EInvalidRow, EInvalidTime, EInvalidOutages, EInvalidTrains, EInvalidIndex, EInvalidBound, EInvalidLog, EInvalidCall, EInvalidText, ELimitExceeded, aIInvalidRow, aIInvalidTime, aIInvalidLog⟩ := ⟨PySem.W.mg_none_of X G z_ArithmeticError,
    PySem.W.mg_none_of X G z_bool,
    PySem.W.mg_none_of X G z_enumerate,
    PySem.W.mg_none_of X G z_int,
    PySem.W.mg_none_of X G z_isinstance,
    PySem.W.mg_none_of X G z_len,
    PySem.W.mg_none_of X G z_list,
    PySem.W.mg_none_of X G z_max,
    PySem.W.mg_none_of X G z_min,
    PySem.W.mg_none_of X G z_range,
    PySem.W.mg_none_of X G z_repr,
    PySem.W.mg_none_of X G z_tuple,
    PySem.W.mg_none_of X G z_zip,
    ⟨_, PySem.W.mg_of X G gNMOST_BREAKERS⟩,
    ⟨_, hvMOST_COUNT⟩,
    ⟨_, hvMOST_TIME⟩,
    ⟨_, PySem.W.mg_of X G gNMOST_ENTRIES⟩,
    mk_dfn X G aq0 lq0 cq0 kq0 bn_q0,
    mk_dfn X G aq1 lq1 cq1 kq1 bn_q1,
    mk_dfn X G aq2 lq2 cq2 kq2 bn_q2,
    mk_dfn X G aq3 lq3 cq3 kq3 bn_q3,
    mk_dfn X G aq4 lq4 cq4 kq4 bn_q4,
    mk_dfn X G aq5 lq5 cq5 kq5 bn_q5,
    mk_dfn X G aq6 lq6 cq6 kq6 bn_q6,
    mk_dfn X G aq7 lq7 cq7 kq7 bn_q7,
    mk_dfn X G aq8 lq8 cq8 kq8 bn_q8,
    mk_dfn X G aq9 lq9 cq9 kq9 bn_q9,
    mk_dfn X G aq10 lq10 cq10 kq10 bn_q10,
    mk_dfn X G aq11 lq11 cq11 kq11 bn_q11,
    mk_dfn X G aq12 lq12 cq12 kq12 bn_q12,
    mk_dfn X G aq13 lq13 cq13 kq13 bn_q13,
    mk_dfn X G aq14 lq14 cq14 kq14 bn_q14,
    mk_dfn X G aq15 lq15 cq15 kq15 bn_q15,
    mk_dfn X G aq16 lq16 cq16 kq16 bn_q16,
    mk_dfn X G aq17 lq17 cq17 kq17 bn_q17,
    mk_dfn X G aq18 lq18 cq18 kq18 bn_q18,
    mk_dfn X G aq19 lq19 cq19 kq19 bn_q19,
    mk_dfn X G aq20 lq20 cq20 kq20 bn_q20,
    mk_dfn X G aq21 lq21 cq21 kq21 bn_q21,
    mk_dfnT X G aq22 lq22 cq22 kq22 bn_q22,
    mk_dfnT X G aq23 lq23 cq23 kq23 bn_q23,
    mk_dfnT X G aq24 lq24 cq24 kq24 bn_q24,
    ntq22_q23,
    ntq22_q24,
    ntq23_q24,
    PySem.W.mg_of X G geBreakerError,
    ⟨xaBreakerError, xbBreakerError, xcBreakerError, xdBreakerError⟩,
    xeBreakerError,
    PySem.W.mg_of X G geInvalidRow,
    ⟨xaInvalidRow, xbInvalidRow, xcInvalidRow, xdInvalidRow⟩,
    xeInvalidRow,
    PySem.W.mg_of X G geInvalidTime,
    ⟨xaInvalidTime, xbInvalidTime, xcInvalidTime, xdInvalidTime⟩,
    xeInvalidTime,
    PySem.W.mg_of X G geInvalidOutages,
    ⟨xaInvalidOutages, xbInvalidOutages, xcInvalidOutages, xdInvalidOutages⟩,
    xeInvalidOutages,
    PySem.W.mg_of X G geInvalidTrains,
    ⟨xaInvalidTrains, xbInvalidTrains, xcInvalidTrains, xdInvalidTrains⟩,
    xeInvalidTrains,
    PySem.W.mg_of X G geInvalidIndex,
    ⟨xaInvalidIndex, xbInvalidIndex, xcInvalidIndex, xdInvalidIndex⟩,
    xeInvalidIndex,
    PySem.W.mg_of X G geInvalidBound,
    ⟨xaInvalidBound, xbInvalidBound, xcInvalidBound, xdInvalidBound⟩,
    xeInvalidBound,
    PySem.W.mg_of X G geInvalidLog,
    ⟨xaInvalidLog, xbInvalidLog, xcInvalidLog, xdInvalidLog⟩,
    xeInvalidLog,
    PySem.W.mg_of X G geInvalidCall,
    ⟨xaInvalidCall, xbInvalidCall, xcInvalidCall, xdInvalidCall⟩,
    xeInvalidCall,
    PySem.W.mg_of X G geInvalidText,
    ⟨xaInvalidText, xbInvalidText, xcInvalidText, xdInvalidText⟩,
    xeInvalidText,
    PySem.W.mg_of X G geLimitExceeded,
    ⟨xaLimitExceeded, xbLimitExceeded, xcLimitExceeded, xdLimitExceeded⟩,
    xeLimitExceeded,
    ⟨⟨_, _, _, _, _, _, _, _, _, _, _, _, _, _, _, xoInvalidRow, by rfl⟩, xsInvalidRow, xcInvalidRow, xeInvalidRow, xkInvalidRow⟩,
    aNInvalidRow,
    tNInvalidRow,
    ⟨_, fun_mk lNInvalidRow cNInvalidRow kNInvalidRow, (fun_mk lNInvalidRow cNInvalidRow kNInvalidRow).binds bn_NInvalidRow⟩,
    neInvalidRow_part,
    neInvalidRow_at,
    neInvalidRow_time,
    neInvalidRow_index,
    neInvalidRow_call,
    neInvalidRow_line,
    neInvalidRow_word,
    neInvalidRow_limit,
    ⟨xaInvalidRow, xbInvalidRow, xcInvalidRow, xdInvalidRow, xlInvalidRow, gO1, gO2, xmInvalidRow⟩,
    seInvalidRow_BreakerError,
    seInvalidRow_InvalidRow,
    seInvalidRow_InvalidTime,
    seInvalidRow_InvalidOutages,
    seInvalidRow_InvalidTrains,
    seInvalidRow_InvalidIndex,
    seInvalidRow_InvalidBound,
    seInvalidRow_InvalidLog,
    seInvalidRow_InvalidCall,
    seInvalidRow_InvalidText,
    seInvalidRow_LimitExceeded,
    saInvalidRow,
    ⟨⟨_, _, _, _, _, _, _, _, _, _, _, _, _, _, _, xoInvalidTime, by rfl⟩, xsInvalidTime, xcInvalidTime, xeInvalidTime, xkInvalidTime⟩,
    aNInvalidTime,
    tNInvalidTime,
    ⟨_, fun_mk lNInvalidTime cNInvalidTime kNInvalidTime, (fun_mk lNInvalidTime cNInvalidTime kNInvalidTime).binds bn_NInvalidTime⟩,
    neInvalidTime_part,
    neInvalidTime_at,
    neInvalidTime_time,
    neInvalidTime_index,
    neInvalidTime_call,
    neInvalidTime_line,
    neInvalidTime_word,
    neInvalidTime_limit,
    ⟨xaInvalidTime, xbInvalidTime, xcInvalidTime, xdInvalidTime, xlInvalidTime, gO1, gO2, xmInvalidTime⟩,
    seInvalidTime_BreakerError,
    seInvalidTime_InvalidRow,
    seInvalidTime_InvalidTime,
    seInvalidTime_InvalidOutages,
    seInvalidTime_InvalidTrains,
    seInvalidTime_InvalidIndex,
    seInvalidTime_InvalidBound,
    seInvalidTime_InvalidLog,
    seInvalidTime_InvalidCall,
    seInvalidTime_InvalidText,
    seInvalidTime_LimitExceeded,
    saInvalidTime,
    ⟨⟨_, _, _, _, _, _, _, _, _, _, _, _, _, _, _, xoInvalidLog, by rfl⟩, xsInvalidLog, xcInvalidLog, xeInvalidLog, xkInvalidLog⟩,
    aNInvalidLog,
    tNInvalidLog,
    ⟨_, fun_mk lNInvalidLog cNInvalidLog kNInvalidLog, (fun_mk lNInvalidLog cNInvalidLog kNInvalidLog).binds bn_NInvalidLog⟩,
    neInvalidLog_part,
    neInvalidLog_at,
    neInvalidLog_time,
    neInvalidLog_index,
    neInvalidLog_call,
    neInvalidLog_line,
    neInvalidLog_word,
    neInvalidLog_limit,
    ⟨xaInvalidLog, xbInvalidLog, xcInvalidLog, xdInvalidLog, xlInvalidLog, gO1, gO2, xmInvalidLog⟩,
    seInvalidLog_BreakerError,
    seInvalidLog_InvalidRow,
    seInvalidLog_InvalidTime,
    seInvalidLog_InvalidOutages,
    seInvalidLog_InvalidTrains,
    seInvalidLog_InvalidIndex,
    seInvalidLog_InvalidBound,
    seInvalidLog_InvalidLog,
    seInvalidLog_InvalidCall,
    seInvalidLog_InvalidText,
    seInvalidLog_LimitExceeded,
    saInvalidLog⟩
  have tbs : ∀ p ∈ [(kcq22, ktq22), (kcq23, ktq23), (kcq24, ktq24)], TabE K h p.1 p.2 := by
    intro p hp
    simp only [List.mem_cons, List.mem_nil_iff, or_false] at hp
    rcases hp with rfl | rfl | rfl
    · exact tbq22
    · exact tbq23
    · exact tbq24
  refine ⟨_, [(kcq22, ktq22), (kcq23, ktq23), (kcq24, ktq24)], spLawT K _, tbs, fun s v => .of_eq rfl, fun H a ns hl _ hH hS => ⟨a, ns, rfl, hS, hl, ?_, fun _ => rfl⟩, fun base _ _ hB => ok_law (fun_mk lY cY kY) T ⟨hB (kcq22, ktq22) (.head _), hB (kcq23, ktq23) (.tail _ (.head _)), hB (kcq24, ktq24) (.tail _ (.tail _ (.head _)))⟩⟩
  intro p hp
  simp only [LT, List.mem_cons, List.mem_nil_iff, or_false] at hp
  rcases hp with rfl | rfl | rfl
  · exact LamX.TabS.nil (hH (kcq22, ktq22) (.head _))
  · exact LamX.TabS.nil (hH (kcq23, ktq23) (.tail _ (.head _)))
  · exact LamX.TabS.nil (hH (kcq24, ktq24) (.tail _ (.tail _ (.head _))))
/-- the end, with tables of code objects and what the loose names hold -/
theorem walk_tabs {l : PySem.W.OpenLaw} {q p : Program} {lv : List (Str × PySem.W.WData)} {loose : List Str} {YP : World → Heap → Prop} {d : DefRec} {K : Params → PySem.W.Frag} (hn : l.most = some 63) (hd : d.params.defaults = []) (hY : ∀ (w : World) (h : Heap), YP w h → (K w.params).In h)
    (F : ∀ (w : World) (mg : Str → Option Value) (fa : Addr) (h : Heap), YP w h → (K w.params).In h → h.Ns mainGlobals mg → PySem.W.LooseAre lv mg h → mg d.name = some (.ref fa) →
      ∃ (fd : FuncData) (cs : List (Addr × Addr)) (sp : Sp), (∀ p ∈ cs, TabE (K w.params) h p.1 p.2) ∧ (∀ (s : Shared) (v : Value), BindsTo s fd ⟨[v], []⟩ [("_law_script", v)]) ∧ (∀ (H : Hp) (a : Addr) (ns : List Int), ns.length ≤ 63 → (∀ z ∈ ns, Builtin.Int.intBits z ≤ 1048576) → (∀ p ∈ cs, H p.2 = some (.tbl #[])) → SqL (K w.params) H a (ns.map V.int) → sp [.ref a] H (fun v _ => v = .bl true) fun _ _ _ => False) ∧ ∀ base : Heap, (K w.params).In base → base.Ns mainGlobals mg → (∀ p ∈ cs, LamX.TabB base mg p.1 p.2) → FnOk l.prog w (K w.params) mg base CX0 14 fa fd ["_law_script"] sp) :
    PySem.W.WalkO q loose (PySem.W.XL p lv) YP l.row.toRowW d [] (fun f vs => PySem.call f vs) := Att.attach_callB hn hd fun w _ s₁ mg mb fa _ _ _ _ a vs ns G Y _ _ _ hmg hobj hints hlen hbits hg => by
  obtain ⟨fd, cs, sp, hT, hb, hsp, hF⟩ := F w mg fa s₁.heap Y (hY w s₁.heap Y) G.T.g G.X.2 hmg
  exact LamX.law_callTs (hY w s₁.heap Y) G.T.g G.T.b G.T.builtins G.T.nolimit hg (fun p hp => (hT p hp).1) (fun p hp => (hT p hp).2.2) (fun p hp => PySem.W.codeHd_of_K (hY w s₁.heap Y) (hT p hp).2.1) G.T.bmain hobj hints (Nat.le_trans hlen (by decide)) ⟨rfl, by decide, by decide⟩ hF hb (fun H hH hS => hsp H a ns hlen hbits hH hS) fun _ _ _ z => z

end Toy
open PySem PySem.W PyProof.Rows
set_option maxRecDepth 100000 in
set_option maxHeartbeats 0 in
theorem PySem.Challenge.cw_breakerrow_k50_invalid_logs_and_names_holds : PySem.Challenge.rw_breakerrow_k50_invalid_logs_and_names.Holds := by
  w_on; o_law; k_head; (case hw => w_witness2)
  k_fill
  refine Toy.walk_tabs (l := PySem.Challenge.rw_breakerrow_k50_invalid_logs_and_names) rfl rfl (fun w h Y => PySem.W.km_in_of Y) ?F
  intro w mg fa h Y KX G LL hmg
  have hT := PySem.W.km_tabs_of Y
  refine' Toy.all_mk KX G LL (by first | exact .head _ | exact .tail _ (.head _) | exact .tail _ (.tail _ (.head _)) | exact .tail _ (.tail _ (.tail _ (.head _))) | exact .tail _ (.tail _ (.tail _ (.tail _ (.head _)))) | exact .tail _ (.tail _ (.tail _ (.tail _ (.tail _ (.head _))))) | exact .tail _ (.tail _ (.tail _ (.tail _ (.tail _ (.tail _ (.head _)))))) | exact .tail _ (.tail _ (.tail _ (.tail _ (.tail _ (.tail _ (.tail _ (.head _))))))) | exact .tail _ (.tail _ (.tail _ (.tail _ (.tail _ (.tail _ (.tail _ (.tail _ (.head _)))))))) | exact .tail _ (.tail _ (.tail _ (.tail _ (.tail _ (.tail _ (.tail _ (.tail _ (.tail _ (.head _)))))))))) (by first | exact .head _ | exact .tail _ (.head _) | exact .tail _ (.tail _ (.head _)) | exact .tail _ (.tail _ (.tail _ (.head _))) | exact .tail _ (.tail _ (.tail _ (.tail _ (.head _)))) | exact .tail _ (.tail _ (.tail _ (.tail _ (.tail _ (.head _))))) | exact .tail _ (.tail _ (.tail _ (.tail _ (.tail _ (.tail _ (.head _)))))) | exact .tail _ (.tail _ (.tail _ (.tail _ (.tail _ (.tail _ (.tail _ (.head _))))))) | exact .tail _ (.tail _ (.tail _ (.tail _ (.tail _ (.tail _ (.tail _ (.tail _ (.head _)))))))) | exact .tail _ (.tail _ (.tail _ (.tail _ (.tail _ (.tail _ (.tail _ (.tail _ (.tail _ (.head _)))))))))) hmg ?aq0 ?lq0 ?cq0 ?kq0 ?aq1 ?lq1 ?cq1 ?kq1 ?aq2 ?lq2 ?cq2 ?kq2 ?aq3 ?lq3 ?cq3 ?kq3 ?aq4 ?lq4 ?cq4 ?kq4 ?aq5 ?lq5 ?cq5 ?kq5 ?aq6 ?lq6 ?cq6 ?kq6 ?aq7 ?lq7 ?cq7 ?kq7 ?aq8 ?lq8 ?cq8 ?kq8 ?aq9 ?lq9 ?cq9 ?kq9 ?aq10 ?lq10 ?cq10 ?kq10 ?aq11 ?lq11 ?cq11 ?kq11 ?aq12 ?lq12 ?cq12 ?kq12 ?aq13 ?lq13 ?cq13 ?kq13 ?aq14 ?lq14 ?cq14 ?kq14 ?aq15 ?lq15 ?cq15 ?kq15 ?aq16 ?lq16 ?cq16 ?kq16 ?aq17 ?lq17 ?cq17 ?kq17 ?aq18 ?lq18 ?cq18 ?kq18 ?aq19 ?lq19 ?cq19 ?kq19 ?aq20 ?lq20 ?cq20 ?kq20 ?aq21 ?lq21 ?cq21 ?kq21 ?aq22 ?lq22 ?cq22 ?kq22 ?aq23 ?lq23 ?cq23 ?kq23 ?aq24 ?lq24 ?cq24 ?kq24 ?geBreakerError ?xaBreakerError ?xbBreakerError ?xcBreakerError ?xdBreakerError ?xeBreakerError ?geInvalidRow ?xaInvalidRow ?xbInvalidRow ?xcInvalidRow ?xdInvalidRow ?xeInvalidRow ?geInvalidTime ?xaInvalidTime ?xbInvalidTime ?xcInvalidTime ?xdInvalidTime ?xeInvalidTime ?geInvalidOutages ?xaInvalidOutages ?xbInvalidOutages ?xcInvalidOutages ?xdInvalidOutages ?xeInvalidOutages ?geInvalidTrains ?xaInvalidTrains ?xbInvalidTrains ?xcInvalidTrains ?xdInvalidTrains ?xeInvalidTrains ?geInvalidIndex ?xaInvalidIndex ?xbInvalidIndex ?xcInvalidIndex ?xdInvalidIndex ?xeInvalidIndex ?geInvalidBound ?xaInvalidBound ?xbInvalidBound ?xcInvalidBound ?xdInvalidBound ?xeInvalidBound ?geInvalidLog ?xaInvalidLog ?xbInvalidLog ?xcInvalidLog ?xdInvalidLog ?xeInvalidLog ?geInvalidCall ?xaInvalidCall ?xbInvalidCall ?xcInvalidCall ?xdInvalidCall ?xeInvalidCall ?geInvalidText ?xaInvalidText ?xbInvalidText ?xcInvalidText ?xdInvalidText ?xeInvalidText ?geLimitExceeded ?xaLimitExceeded ?xbLimitExceeded ?xcLimitExceeded ?xdLimitExceeded ?xeLimitExceeded ?xoInvalidRow ?xsInvalidRow ?xkInvalidRow ?aNInvalidRow ?tNInvalidRow ?lNInvalidRow ?cNInvalidRow ?kNInvalidRow ?neInvalidRow_part ?neInvalidRow_at ?neInvalidRow_time ?neInvalidRow_index ?neInvalidRow_call ?neInvalidRow_line ?neInvalidRow_word ?neInvalidRow_limit ?xlInvalidRow ?xmInvalidRow ?gO1 ?gO2 ?seInvalidRow_BreakerError ?seInvalidRow_InvalidRow ?seInvalidRow_InvalidTime ?seInvalidRow_InvalidOutages ?seInvalidRow_InvalidTrains ?seInvalidRow_InvalidIndex ?seInvalidRow_InvalidBound ?seInvalidRow_InvalidLog ?seInvalidRow_InvalidCall ?seInvalidRow_InvalidText ?seInvalidRow_LimitExceeded ?saInvalidRow ?xoInvalidTime ?xsInvalidTime ?xkInvalidTime ?aNInvalidTime ?tNInvalidTime ?lNInvalidTime ?cNInvalidTime ?kNInvalidTime ?neInvalidTime_part ?neInvalidTime_at ?neInvalidTime_time ?neInvalidTime_index ?neInvalidTime_call ?neInvalidTime_line ?neInvalidTime_word ?neInvalidTime_limit ?xlInvalidTime ?xmInvalidTime ?seInvalidTime_BreakerError ?seInvalidTime_InvalidRow ?seInvalidTime_InvalidTime ?seInvalidTime_InvalidOutages ?seInvalidTime_InvalidTrains ?seInvalidTime_InvalidIndex ?seInvalidTime_InvalidBound ?seInvalidTime_InvalidLog ?seInvalidTime_InvalidCall ?seInvalidTime_InvalidText ?seInvalidTime_LimitExceeded ?saInvalidTime ?xoInvalidLog ?xsInvalidLog ?xkInvalidLog ?aNInvalidLog ?tNInvalidLog ?lNInvalidLog ?cNInvalidLog ?kNInvalidLog ?neInvalidLog_part ?neInvalidLog_at ?neInvalidLog_time ?neInvalidLog_index ?neInvalidLog_call ?neInvalidLog_line ?neInvalidLog_word ?neInvalidLog_limit ?xlInvalidLog ?xmInvalidLog ?seInvalidLog_BreakerError ?seInvalidLog_InvalidRow ?seInvalidLog_InvalidTime ?seInvalidLog_InvalidOutages ?seInvalidLog_InvalidTrains ?seInvalidLog_InvalidIndex ?seInvalidLog_InvalidBound ?seInvalidLog_InvalidLog ?seInvalidLog_InvalidCall ?seInvalidLog_InvalidText ?seInvalidLog_LimitExceeded ?saInvalidLog ?gNMOST_BREAKERS ?gNMOST_ENTRIES ?aY ?lY ?cY ?kY ?z_ArithmeticError ?z_bool ?z_enumerate ?z_int ?z_isinstance ?z_len ?z_list ?z_max ?z_min ?z_range ?z_repr ?z_tuple ?z_zip ?tbq22 ?tbq23 ?tbq24 ?ntq22_q23 ?ntq22_q24 ?ntq23_q24
  (case aq0 => k_is)
  (case lq0 => k_is)
  (case cq0 => k_is)
  (case kq0 => k_is)
  (case aq1 => k_is)
  (case lq1 => k_is)
  (case cq1 => k_is)
  (case kq1 => k_is)
  (case aq2 => k_is)
  (case lq2 => k_is)
  (case cq2 => k_is)
  (case kq2 => k_is)
  (case aq3 => k_is)
  (case lq3 => k_is)
  (case cq3 => k_is)
  (case kq3 => k_is)
  (case aq4 => k_is)
  (case lq4 => k_is)
  (case cq4 => k_is)
  (case kq4 => k_is)
  (case aq5 => k_is)
  (case lq5 => k_is)
  (case cq5 => k_is)
  (case kq5 => k_is)
  (case aq6 => k_is)
  (case lq6 => k_is)
  (case cq6 => k_is)
  (case kq6 => k_is)
  (case aq7 => k_is)
  (case lq7 => k_is)
  (case cq7 => k_is)
  (case kq7 => k_is)
  (case aq8 => k_is)
  (case lq8 => k_is)
  (case cq8 => k_is)
  (case kq8 => k_is)
  (case aq9 => k_is)
  (case lq9 => k_is)
  (case cq9 => k_is)
  (case kq9 => k_is)
  (case aq10 => k_is)
  (case lq10 => k_is)
  (case cq10 => k_is)
  (case kq10 => k_is)
  (case aq11 => k_is)
  (case lq11 => k_is)
  (case cq11 => k_is)
  (case kq11 => k_is)
  (case aq12 => k_is)
  (case lq12 => k_is)
  (case cq12 => k_is)
  (case kq12 => k_is)
  (case aq13 => k_is)
  (case lq13 => k_is)
  (case cq13 => k_is)
  (case kq13 => k_is)
  (case aq14 => k_is)
  (case lq14 => k_is)
  (case cq14 => k_is)
  (case kq14 => k_is)
  (case aq15 => k_is)
  (case lq15 => k_is)
  (case cq15 => k_is)
  (case kq15 => k_is)
  (case aq16 => k_is)
  (case lq16 => k_is)
  (case cq16 => k_is)
  (case kq16 => k_is)
  (case aq17 => k_is)
  (case lq17 => k_is)
  (case cq17 => k_is)
  (case kq17 => k_is)
  (case aq18 => k_is)
  (case lq18 => k_is)
  (case cq18 => k_is)
  (case kq18 => k_is)
  (case aq19 => k_is)
  (case lq19 => k_is)
  (case cq19 => k_is)
  (case kq19 => k_is)
  (case aq20 => k_is)
  (case lq20 => k_is)
  (case cq20 => k_is)
  (case kq20 => k_is)
  (case aq21 => k_is)
  (case lq21 => k_is)
  (case cq21 => k_is)
  (case kq21 => k_is)
  (case aq22 => k_is)
  (case lq22 => k_is)
  (case cq22 => k_is)
  (case kq22 => k_is)
  (case aq23 => k_is)
  (case lq23 => k_is)
  (case cq23 => k_is)
  (case kq23 => k_is)
  (case aq24 => k_is)
  (case lq24 => k_is)
  (case cq24 => k_is)
  (case kq24 => k_is)
  (case geBreakerError => k_is)
  (case xaBreakerError => k_is)
  (case xbBreakerError => k_is)
  (case xcBreakerError => k_is)
  (case xdBreakerError => k_is)
  (case xeBreakerError => k_is)
  (case geInvalidRow => k_is)
  (case xaInvalidRow => k_is)
  (case xbInvalidRow => k_is)
  (case xcInvalidRow => k_is)
  (case xdInvalidRow => k_is)
  (case xeInvalidRow => k_is)
  (case geInvalidTime => k_is)
  (case xaInvalidTime => k_is)
  (case xbInvalidTime => k_is)
  (case xcInvalidTime => k_is)
  (case xdInvalidTime => k_is)
  (case xeInvalidTime => k_is)
  (case geInvalidOutages => k_is)
  (case xaInvalidOutages => k_is)
  (case xbInvalidOutages => k_is)
  (case xcInvalidOutages => k_is)
  (case xdInvalidOutages => k_is)
  (case xeInvalidOutages => k_is)
  (case geInvalidTrains => k_is)
  (case xaInvalidTrains => k_is)
  (case xbInvalidTrains => k_is)
  (case xcInvalidTrains => k_is)
  (case xdInvalidTrains => k_is)
  (case xeInvalidTrains => k_is)
  (case geInvalidIndex => k_is)
  (case xaInvalidIndex => k_is)
  (case xbInvalidIndex => k_is)
  (case xcInvalidIndex => k_is)
  (case xdInvalidIndex => k_is)
  (case xeInvalidIndex => k_is)
  (case geInvalidBound => k_is)
  (case xaInvalidBound => k_is)
  (case xbInvalidBound => k_is)
  (case xcInvalidBound => k_is)
  (case xdInvalidBound => k_is)
  (case xeInvalidBound => k_is)
  (case geInvalidLog => k_is)
  (case xaInvalidLog => k_is)
  (case xbInvalidLog => k_is)
  (case xcInvalidLog => k_is)
  (case xdInvalidLog => k_is)
  (case xeInvalidLog => k_is)
  (case geInvalidCall => k_is)
  (case xaInvalidCall => k_is)
  (case xbInvalidCall => k_is)
  (case xcInvalidCall => k_is)
  (case xdInvalidCall => k_is)
  (case xeInvalidCall => k_is)
  (case geInvalidText => k_is)
  (case xaInvalidText => k_is)
  (case xbInvalidText => k_is)
  (case xcInvalidText => k_is)
  (case xdInvalidText => k_is)
  (case xeInvalidText => k_is)
  (case geLimitExceeded => k_is)
  (case xaLimitExceeded => k_is)
  (case xbLimitExceeded => k_is)
  (case xcLimitExceeded => k_is)
  (case xdLimitExceeded => k_is)
  (case xeLimitExceeded => k_is)
  (case xoInvalidRow => k_is)
  (case xsInvalidRow => k_is)
  (case xkInvalidRow => k_is)
  (case aNInvalidRow => k_is)
  (case tNInvalidRow => k_is)
  (case lNInvalidRow => k_is)
  (case cNInvalidRow => k_is)
  (case kNInvalidRow => k_is)
  (case neInvalidRow_part => k_is)
  (case neInvalidRow_at => k_is)
  (case neInvalidRow_time => k_is)
  (case neInvalidRow_index => k_is)
  (case neInvalidRow_call => k_is)
  (case neInvalidRow_line => k_is)
  (case neInvalidRow_word => k_is)
  (case neInvalidRow_limit => k_is)
  (case xlInvalidRow => k_is)
  (case xmInvalidRow => k_is)
  (case gO1 => k_is)
  (case gO2 => k_is)
  (case seInvalidRow_BreakerError => k_is)
  (case seInvalidRow_InvalidRow => k_is)
  (case seInvalidRow_InvalidTime => k_is)
  (case seInvalidRow_InvalidOutages => k_is)
  (case seInvalidRow_InvalidTrains => k_is)
  (case seInvalidRow_InvalidIndex => k_is)
  (case seInvalidRow_InvalidBound => k_is)
  (case seInvalidRow_InvalidLog => k_is)
  (case seInvalidRow_InvalidCall => k_is)
  (case seInvalidRow_InvalidText => k_is)
  (case seInvalidRow_LimitExceeded => k_is)
  (case saInvalidRow => k_is)
  (case xoInvalidTime => k_is)
  (case xsInvalidTime => k_is)
  (case xkInvalidTime => k_is)
  (case aNInvalidTime => k_is)
  (case tNInvalidTime => k_is)
  (case lNInvalidTime => k_is)
  (case cNInvalidTime => k_is)
  (case kNInvalidTime => k_is)
  (case neInvalidTime_part => k_is)
  (case neInvalidTime_at => k_is)
  (case neInvalidTime_time => k_is)
  (case neInvalidTime_index => k_is)
  (case neInvalidTime_call => k_is)
  (case neInvalidTime_line => k_is)
  (case neInvalidTime_word => k_is)
  (case neInvalidTime_limit => k_is)
  (case xlInvalidTime => k_is)
  (case xmInvalidTime => k_is)
  (case seInvalidTime_BreakerError => k_is)
  (case seInvalidTime_InvalidRow => k_is)
  (case seInvalidTime_InvalidTime => k_is)
  (case seInvalidTime_InvalidOutages => k_is)
  (case seInvalidTime_InvalidTrains => k_is)
  (case seInvalidTime_InvalidIndex => k_is)
  (case seInvalidTime_InvalidBound => k_is)
  (case seInvalidTime_InvalidLog => k_is)
  (case seInvalidTime_InvalidCall => k_is)
  (case seInvalidTime_InvalidText => k_is)
  (case seInvalidTime_LimitExceeded => k_is)
  (case saInvalidTime => k_is)
  (case xoInvalidLog => k_is)
  (case xsInvalidLog => k_is)
  (case xkInvalidLog => k_is)
  (case aNInvalidLog => k_is)
  (case tNInvalidLog => k_is)
  (case lNInvalidLog => k_is)
  (case cNInvalidLog => k_is)
  (case kNInvalidLog => k_is)
  (case neInvalidLog_part => k_is)
  (case neInvalidLog_at => k_is)
  (case neInvalidLog_time => k_is)
  (case neInvalidLog_index => k_is)
  (case neInvalidLog_call => k_is)
  (case neInvalidLog_line => k_is)
  (case neInvalidLog_word => k_is)
  (case neInvalidLog_limit => k_is)
  (case xlInvalidLog => k_is)
  (case xmInvalidLog => k_is)
  (case seInvalidLog_BreakerError => k_is)
  (case seInvalidLog_InvalidRow => k_is)
  (case seInvalidLog_InvalidTime => k_is)
  (case seInvalidLog_InvalidOutages => k_is)
  (case seInvalidLog_InvalidTrains => k_is)
  (case seInvalidLog_InvalidIndex => k_is)
  (case seInvalidLog_InvalidBound => k_is)
  (case seInvalidLog_InvalidLog => k_is)
  (case seInvalidLog_InvalidCall => k_is)
  (case seInvalidLog_InvalidText => k_is)
  (case seInvalidLog_LimitExceeded => k_is)
  (case saInvalidLog => k_is)
  (case gNMOST_BREAKERS => k_is)
  (case gNMOST_ENTRIES => k_is)
  (case aY => k_is)
  (case lY => k_is)
  (case cY => k_is)
  (case kY => k_is)
  (case z_ArithmeticError => k_is)
  (case z_bool => k_is)
  (case z_enumerate => k_is)
  (case z_int => k_is)
  (case z_isinstance => k_is)
  (case z_len => k_is)
  (case z_list => k_is)
  (case z_max => k_is)
  (case z_min => k_is)
  (case z_range => k_is)
  (case z_repr => k_is)
  (case z_tuple => k_is)
  (case z_zip => k_is)
  (case tbq22 => first | exact Toy.tabE_of (hT _ (.tail _ (.head _))) (by kernel_rfl) (by kernel_rfl))
  (case tbq23 => first | exact Toy.tabE_of (hT _ (.head _)) (by kernel_rfl) (by kernel_rfl))
  (case tbq24 => first | exact Toy.tabE_of (hT _ (.tail _ (.tail _ (.head _)))) (by kernel_rfl) (by kernel_rfl))
  (case ntq22_q23 => decide)
  (case ntq22_q24 => decide)
  (case ntq23_q24 => decide)
