import PyProof.Rows.All
import Wide.All
import OpenK.AllK
import Wide.FinOn
import HandS.ForMost
import HandS.IsInst
import HandS.Wide
import HandS.Style
import HandS.Defaults
import HandS.MakeKwOnly
import HandS.Zip
import HandS.SortRule
import HandS.TupAny
import HandS.Lambda
import KE.GoesEnum
import HandS.Flow
import HandS.Codes
import HandS.WideBits
import HandS.OwnEq
import HandS.TryOnly
import HandS.TupLe
import HandS.SetFor
import KE.DataMinMax
import HandS.Conv
import KE.DataFind
import PyProof.Rows.CallKwBuiltin
import PyProof.LongRange
import HandS.ExcInit
import KE.KExcInit
import HandS.WordsExc
import HandS.ExcField
import KE.KExcIs
import HandS.RaiseMore
import HandS.EndTab
import KE.KNestM
import PyProof.ReprRoads
import PyProof.ReprHeads
import PyProof.ReprDict
import PySem.Challenge.RW_breakerrow_k09_trains_refused
set_option Elab.async false
set_option linter.all false
set_option maxRecDepth 100000
set_option maxHeartbeats 4000000
namespace Own
open PySem PySem.Spec PyProof.Rows L2
open Builtin

section
variable {X : Cx} {CX : CXT} {k : Nat} {f C : Addr} {fd : FuncData} {ps : List Str} {sp : Sp} {E : XK}

theorem rr {p : Addr} : L2.RelV (.ref p) (.ref p) := rfl
/-- a promise used under any frame below the body -/
theorem run_at {A : Around} {pins : List (Addr × Obj)} {σ : L2.St} {H : Hp} {s : Shared} {Q : VK} {us : List Value} {vs : List V} (F : FnOk X.prog X.w X.K X.mg X.base CX k f fd ps sp) (hr : Room k A) (hA : A.frames = X.A.frames)
    (hb : Binds X.K fd ps []) (hx : Passes CX X E) (I : Inv X pins σ H s) (r : Vals vs us) (h : sp vs H Q E) : wpAny (model X.prog X.w) A (call (.ref f) us) (EP X pins σ Q) X.xe s := by
  have hl : us.length = ps.length := by rw [← r.length]; exact F.len _ _ _ _ h
  have e0 : Env0 X.prog X.w X.K X.mg X.base A X.stack s H := by
    have e := I.env0
    exact ⟨by rw [hA]; exact e.frames, e.mod, e.bs, e.bsz, e.funs, e.frf, e.hok, e.bare⟩
  have hB : BindsTo s fd ⟨us, []⟩ (ps.zip us) := by
    have := hb s us I.kIn (by rw [List.append_nil]; exact hl)
    rwa [List.append_nil] at this
  refine wpAny_call (codeAny_mono (F.run A X.stack s H ⟨us, []⟩ us vs Q E hr e0 hB r h) fun r s' hq => ?_)
  cases r with
  | error e => exact hx pins σ H s e s' I hq
  | ok fl =>
    cases fl with
    | ret u => exact I.after hq
    | next => exact False.elim hq
    | brk => exact False.elim hq
    | cont => exact False.elim hq

theorem inst_of {pins : List (Addr × Obj)} {σ : L2.St} {H : Hp} {s : Shared} {p dx : Addr} {fs : List (Str × V)} (I : Inv X pins σ H s) (e : H p = some (.ins C dx fs)) : ∃ od, PySem.W.InstAt s.heap p (PySem.W.instObj C dx) C od := by
  obtain ⟨mA, O, _⟩ := ins_get I.hok e
  obtain ⟨od, J, _⟩ := O.look
  exact ⟨_, J⟩

/-- a bool is wanted of the method -/
def BlQ (Q : VK) (g : Bool → Bool) : VK := fun v H' => ∃ b, v = .bl b ∧ Q (.bl (g b)) H'
def rOwnIn (C : Addr) (sp : Sp) (E : XK) (g : Bool → Bool) : R2 := fun x y H Q => ∃ p dx fs, y = .ref p ∧ H p = some (.ins C dx fs) ∧ sp [.ref p, x] H (BlQ Q g) E
theorem op_own_in (F : FnOk X.prog X.w X.K X.mg X.base CX k f fd ps sp) (hr : Room k X.A) (hs : PySem.W.findIn X.K (.ref C) "__contains__" = some (some (.ref f))) (hf : PySem.W.isFn X.K (.ref f) = true) (hb : Binds X.K fd ps []) (hx : Passes CX X E) :
    OpR X (compareOp .In) (rOwnIn C sp E id) := by
  intro pins s σ H x y v u Q I rx ry h
  obtain ⟨p, dx, fs, rfl, hp, q⟩ := h
  cases ry
  obtain ⟨od, J⟩ := inst_of I hp
  obtain ⟨m, hF⟩ := I.fr
  refine PySem.W.in_K hF I.ok.mod.kin J hs hf (thn (run_at F hr rfl hb hx I (.cons rr (.cons rx .nil)) q) fun r s' hh => ?_)
  obtain ⟨z, H', I', rz, b, ez, q'⟩ := hh
  subst ez
  cases rz
  exact wpAny_truthy_bool ⟨.bl b, H', I', rfl, q'⟩
theorem op_own_notin (F : FnOk X.prog X.w X.K X.mg X.base CX k f fd ps sp) (hr : Room k X.A) (hs : PySem.W.findIn X.K (.ref C) "__contains__" = some (some (.ref f))) (hf : PySem.W.isFn X.K (.ref f) = true) (hb : Binds X.K fd ps []) (hx : Passes CX X E) :
    OpR X (compareOp .NotIn) (rOwnIn C sp E not) := by
  intro pins s σ H x y v u Q I rx ry h
  obtain ⟨p, dx, fs, rfl, hp, q⟩ := h
  cases ry
  obtain ⟨od, J⟩ := inst_of I hp
  obtain ⟨m, hF⟩ := I.fr
  refine PySem.W.notIn_K hF I.ok.mod.kin J hs hf (thn (run_at F hr rfl hb hx I (.cons rr (.cons rx .nil)) q) fun r s' hh => ?_)
  obtain ⟨z, H', I', rz, b, ez, q'⟩ := hh
  subst ez
  cases rz
  exact wpAny_truthy_bool ⟨.bl (!b), H', I', rfl, q'⟩
/-- len(o) -/
def rOwnLen (C : Addr) (sp : Sp) (E : XK) : List V → Hp → VK → Prop := fun xs H Q => ∃ p dx fs, xs = [.ref p] ∧ H p = some (.ins C dx fs) ∧ sp [.ref p] H (fun v H' => ∃ n : Int, v = .int n ∧ 0 ≤ n ∧ n < 2 ^ 63 ∧ Q (.int n) H') E
theorem call_own_len (F : FnOk X.prog X.w X.K X.mg X.base CX k f fd ps sp) (hr : Room (k + 1) X.A) (hs : PySem.W.findIn X.K (.ref C) "__len__" = some (some (.ref f))) (hf : PySem.W.isFn X.K (.ref f) = true) (hb : Binds X.K fd ps []) (hx : Passes CX X E) :
    CallR X (.builtin "len") (rOwnLen C sp E) := by
  intro pins s σ H xs us Q I r h
  obtain ⟨p, dx, fs, rfl, hp, q⟩ := h
  obtain ⟨u, rfl, ru⟩ := vals1 r
  cases ru
  obtain ⟨od, J⟩ := inst_of I hp
  obtain ⟨m, hF⟩ := I.fr
  refine PySem.W.len_K hF I.ok.mod.kin J hs hf (thn (run_at F hr.in1 rfl hb hx I (.cons rr .nil) q) fun r s' hh => ?_)
  obtain ⟨z, H', I', rz, n, ez, h0, h1, q'⟩ := hh
  subst ez
  obtain ⟨t, rfl⟩ := rz
  exact ⟨⟨h0, h1⟩, ⟨.int n, H', I'.tok _, ⟨_, rfl⟩, q'⟩⟩
/-- o + p, both of the class -/
def rOwnAdd (C : Addr) (sp : Sp) (E : XK) : R2 := fun x y H Q => ∃ p dx fs q dy gs, x = .ref p ∧ H p = some (.ins C dx fs) ∧ y = .ref q ∧ H q = some (.ins C dy gs) ∧ sp [.ref p, .ref q] H (fun v H' => (∃ a, v = .ref a) ∧ Q v H') E
theorem op_own_add (F : FnOk X.prog X.w X.K X.mg X.base CX k f fd ps sp) (hr : Room k X.A) (hc : PySem.W.selfFirst X.K C = true) (hs : PySem.W.findIn X.K (.ref C) "__add__" = some (some (.ref f))) (hf : PySem.W.isFn X.K (.ref f) = true) (hb : Binds X.K fd ps []) (hx : Passes CX X E) :
    OpR X (binaryOp .Add) (rOwnAdd C sp E) := by
  intro pins s σ H x y v u Q I rx ry h
  obtain ⟨p, dx, fs, q, dy, gs, rfl, hp, rfl, hq, hh⟩ := h
  cases rx
  cases ry
  obtain ⟨od, J⟩ := inst_of I hp
  obtain ⟨od', J'⟩ := inst_of I hq
  obtain ⟨m, hF⟩ := I.fr
  refine PySem.W.binop_K hF I.ok.mod.kin J J'.type hc hs hf (thn (run_at F hr rfl hb hx I (.cons rr (.cons rr .nil)) hh) fun r s' hh => ?_)
  obtain ⟨z, H', I', rz, ⟨a, ez⟩, q'⟩ := hh
  subst ez
  cases rz
  exact ⟨.ref a, H', I', rfl, q'⟩
/-- o[i] -/
def rOwnIx (C : Addr) (sp : Sp) (E : XK) : R2 := fun x y H Q => ∃ p dx fs, x = .ref p ∧ H p = some (.ins C dx fs) ∧ sp [.ref p, y] H Q E
theorem pe_own_ix {a b : Expr} {ta tb : TE} {pos : Pos} (F : FnOk X.prog X.w X.K X.mg X.base CX k f fd ps sp) (hr : Room (k + 1) X.A) (hs : PySem.W.findIn X.K (.ref C) "__getitem__" = some (some (.ref f))) (hfn : PySem.W.fnIn X.K f = true) (hf : PySem.W.isFn X.K (.ref f) = true)
    (hb : Binds X.K fd ps []) (hx : Passes CX X E) (ha : PE X a ta) (hb' : PE X b tb) (hsl : ∀ o i, subscripted b true o i = runValue (.builtin "lifetime.subscript" ⟨[o, i], []⟩) := by exact fun _ _ => rfl) :
    PE X (.Subscript a b pos) (tOp (rOwnIx C sp E) ta tb) := by
  refine ⟨fun pins s σ H Q I h => ?_⟩
  refine Subscript_ (binT ha hb' I h fun v u s2 x y H2 I2 rx ry q => ?_)
  obtain ⟨p, dx, fs, rfl, hp, q⟩ := q
  cases rx
  obtain ⟨od, J⟩ := inst_of I2 hp
  obtain ⟨m, hF⟩ := I2.fr
  exact PySem.W.sub_K hF I2.ok.mod.kin J hs hfn hf (run_at F hr.in1 rfl hb hx I2 (.cons rr (.cons ry .nil)) q) (hsl _ _)

/-! ### own == and the != that comes with it -/
theorem sub_ty {K : PySem.W.Frag} {C : Addr} {T : String} {l : List String} (e : fastBuiltinMro T = some (l.map Value.type)) : PySem.W.subIn K (.type T) (.ref C) = some false := by
  show (fastBuiltinMro T).map (·.contains (.ref C)) = some false
  rw [e]
  have : ∀ l : List String, (l.map Value.type).contains (Value.ref C) = false := by
    intro l
    induction l with
    | nil => rfl
    | cons a r ih =>
      rw [List.map_cons, List.contains_cons, ih]
      rfl
  rw [Option.map_some, this]
/-- a value's type, not one below the class C -/
inductive TyN (H : Hp) (C : Addr) : V → Value → Prop where
  | non : TyN H C .non (.type "NoneType")
  | bl (x : Bool) : TyN H C (.bl x) (.type "bool")
  | int (i : Int) : TyN H C (.int i) (.type "int")
  | str (x : Str) : TyN H C (.str x) (.type "str")
  | lst {a : Addr} {xs : List V} (e : H a = some (.lst xs)) : TyN H C (.ref a) (.type "list")
  | tup {a : Addr} {xs : List V} (e : H a = some (.tup xs)) : TyN H C (.ref a) (.type "tuple")
  | ins {a dx : Addr} {fs : List (Str × V)} (e : H a = some (.ins C dx fs)) : TyN H C (.ref a) (.ref C)
theorem TyN.notFirst {K : PySem.W.Frag} {H : Hp} {x : V} {t : Value} (h : TyN H C x t) : PySem.W.notFirst K C t = true := by
  cases h with
  | non => exact Bool.or_eq_true_iff.mpr (.inr (beq_iff_eq.mpr (sub_ty (l := ["NoneType", "object"]) (by decide +kernel))))
  | bl _ => exact Bool.or_eq_true_iff.mpr (.inr (beq_iff_eq.mpr (sub_ty (l := ["bool", "int", "object"]) (by decide +kernel))))
  | int _ => exact Bool.or_eq_true_iff.mpr (.inr (beq_iff_eq.mpr (sub_ty (l := ["int", "object"]) (by decide +kernel))))
  | str _ => exact Bool.or_eq_true_iff.mpr (.inr (beq_iff_eq.mpr (sub_ty (l := ["str", "object"]) (by decide +kernel))))
  | lst _ => exact Bool.or_eq_true_iff.mpr (.inr (beq_iff_eq.mpr (sub_ty (l := ["list", "object"]) (by decide +kernel))))
  | tup _ => exact Bool.or_eq_true_iff.mpr (.inr (beq_iff_eq.mpr (sub_ty (l := ["tuple", "object"]) (by decide +kernel))))
  | ins _ => exact Bool.or_eq_true_iff.mpr (.inl (by simp))
theorem looks_obj {M : Model} {h : Heap} {a : Addr} {o : Obj} (e : h.get? a = some o) : PySem.W.Looks M h (typeOf (.ref a)) o.cls := fun A Q E s kp q => PySem.wpAny_typeOf_ref (kp _ _ e) q
theorem TyN.looks {M : Model} {pins : List (Addr × Obj)} {σ : L2.St} {H : Hp} {s : Shared} {x : V} {u t : Value} (I : Inv X pins σ H s) (r : RelV x u) (h : TyN H C x t) : PySem.W.Looks M s.heap (typeOf u) t := by
  cases h with
  | non => cases r; exact PySem.W.Looks.of_pure rfl
  | bl _ => cases r; exact PySem.W.Looks.of_pure rfl
  | int _ => obtain ⟨_, rfl⟩ := r; exact PySem.W.Looks.of_pure rfl
  | str _ => obtain ⟨_, rfl⟩ := r; exact PySem.W.Looks.of_pure rfl
  | @lst a xs e =>
    cases r
    obtain ⟨_, _, n, _, h1⟩ := (show ObjOk X.prog X.w H s.heap a (.lst xs) from I.hok a _ e)
    exact looks_obj h1
  | @tup a xs e =>
    cases r
    obtain ⟨_, _, _, o, h1, h2, _⟩ := (show ObjOk X.prog X.w H s.heap a (.tup xs) from I.hok a _ e)
    have := looks_obj (M := M) h1
    rw [h2] at this
    exact this
  | ins e =>
    cases r
    obtain ⟨od, J⟩ := inst_of I e
    exact J.type
def rOwnEq (C : Addr) (sp : Sp) (E : XK) (g : Bool → Bool) : R2 := fun x y H Q => ∃ p dx fs t, x = .ref p ∧ H p = some (.ins C dx fs) ∧ TyN H C y t ∧ sp [.ref p, y] H (BlQ Q g) E
theorem op_own_eq (F : FnOk X.prog X.w X.K X.mg X.base CX k f fd ps sp) (hr : Room k X.A) (hs : PySem.W.findIn X.K (.ref C) "__eq__" = some (some (.ref f))) (hf : PySem.W.isFn X.K (.ref f) = true) (hb : Binds X.K fd ps []) (hx : Passes CX X E) :
    OpR X (compareOp .Eq) (rOwnEq C sp E id) := by
  intro pins s σ H x y v u Q I rx ry h
  obtain ⟨p, dx, fs, t, rfl, hp, ty, q⟩ := h
  cases rx
  obtain ⟨od, J⟩ := inst_of I hp
  obtain ⟨m, hF⟩ := I.fr
  show wpAny (model X.prog X.w) X.A (richCompare .Eq (.ref p) u) (EP X pins σ Q) X.xe s
  refine PySem.W.cmp_K (op := .Eq) hr.units0 hF I.ok.mod.kin J (ty.looks I ry) ty.notFirst hs hf (thn (run_at F hr rfl hb hx I (.cons rr (.cons ry .nil)) q) fun r s' hh => ?_)
  obtain ⟨z, H', I', rz, b, ez, q'⟩ := hh
  subst ez
  cases rz
  exact ⟨.bl b, H', I', rfl, q'⟩
section
variable {prog : Program} {w : World} {A : Around} {E' : Value → Shared → Prop} {s : Shared} {K : PySem.W.Frag} {x : Addr} {ox : Obj} {od : Option Obj} {b : Value}
theorem objNe_entry (hX : K.In s.heap) (I : PySem.W.InstAt s.heap x ox C od) (hs : PySem.W.findIn K (.ref C) "__eq__" = some (some (.ref f))) (hf : PySem.W.isFn K (.ref f) = true) (hu : A.units < cLine) {Q : Fin → Shared → Prop}
    (hcall : wpAny (model prog w) A (call (.ref f) [.ref x, b]) (fun v s' => ∃ k, v = .bool k ∧ Q (.done (.ret (.bool (!k)))) s') E' s) :
    wpAny (model prog w) A (Builtin.«object.__ne__» ⟨[.ref x, b], []⟩) Q E' s := by
  unfold Builtin.«object.__ne__»
  repeat (first
    | with_reducible refine wpAny_cRoomFor hu ?_
    | (refine wpAny_bind (m := callSpecialIfBound? (.ref x) (Str.ofString "__eq__") [b])
        (PySem.W.ifBound_K hX I hs hf (wpAny_mono hcall (fun r s' hr => by
          obtain ⟨k, rfl, hq⟩ := hr
          repeat (first | exact hq | exact wpAny_pure hq | exact wpAny_truthy_bool hq | (refine wpAny_bind (m := truthy (.bool _)) (wpAny_truthy_bool ?_)) | wp_step)) fun _ _ e => e)))
    | wp_step)
theorem call_objNe (hX : K.In s.heap) (I : PySem.W.InstAt s.heap x ox C od) (hm : PySem.W.mroIn K C (.type "object") = some true) (hs : PySem.W.findIn K (.ref C) "__eq__" = some (some (.ref f))) (hf : PySem.W.isFn K (.ref f) = true) (hu : A.units + 1 < cLine) {Q : Value → Shared → Prop}
    (hcall : wpAny (model prog w) A.in1 (call (.ref f) [.ref x, b]) (fun v s' => ∃ k, v = .bool k ∧ Q (.bool (!k)) s') E' s) :
    wpAny (model prog w) A (call (.builtin "object.__ne__") [.ref x, b]) Q E' s :=
  wpAny_call (codeAny_call_builtin PySem.F.cmp_object.ne.plain PySem.F.cmpEntry_ne (PySem.W.check_slot PySem.F.cmpKind_ne PySem.F.cmpSplit_ne (I.type.andThen (PySem.W.looks_mroIn hX hm)) (PySem.F.cmpArgs_ne _ _)
    (objNe_entry (A := A.in1) hX I hs hf hu (wpAny_mono hcall (fun v s' hv => by
      obtain ⟨k, e, hq⟩ := hv
      exact ⟨k, e, hq⟩) fun _ _ e => e))))
theorem ifBound_objNe {M : Model} {args : List Value} {Q : Option Value → Shared → Prop} (hX : K.In s.heap) (I : PySem.W.InstAt s.heap x ox C od) (hs : PySem.W.findIn K (.ref C) "__ne__" = some (some (.builtin "object.__ne__")))
    (h : wpAny M A (call (.builtin "object.__ne__") (.ref x :: args)) (fun v => Q (some v)) E' s) : wpAny M A (callSpecialIfBound? (.ref x) "__ne__" args) Q E' s := by
  simp only [callSpecialIfBound?, bindSpecialIfBound?]
  refine wpAny_holding (wpAny_bind (wpAny_bind (wpAny_bind (I.type.here ((PySem.W.looks_findIn hX hs).here ?_)))))
  refine wpAny_bind (wpAny_askSetting (wpAny_ite ?_))
  have fin : wpAny M A (call (.builtin "object.__ne__") ([.ref x] ++ args) >>= fun v => pure (some v)) Q E' s := wpAny_bind (wpAny_mono h (fun v s' h' => wpAny_pure h') fun _ _ h' => h')
  split
  · exact wpAny_bind (wpAny_of_eq (PySem.F.cmp_object.ne.bind _) (wpAny_pure (by exact fin)))
  · exact wpAny_tryCatch (wpAny_bind (wpAny_of_eq (PySem.F.cmp_object.ne.bind _) (wpAny_pure (by exact fin))))
theorem rc_ne {tb : Value} {Q : Value → Shared → Prop} (hu : A.units + 1 < cLine) (hX : K.In s.heap) (I : PySem.W.InstAt s.heap x ox C od) (hb : PySem.W.Looks (model prog w) s.heap (typeOf b) tb) (hn : PySem.W.notFirst K C tb = true)
    (hm : PySem.W.mroIn K C (.type "object") = some true) (hne : PySem.W.findIn K (.ref C) "__ne__" = some (some (.builtin "object.__ne__"))) (hs : PySem.W.findIn K (.ref C) "__eq__" = some (some (.ref f))) (hf : PySem.W.isFn K (.ref f) = true)
    (hcall : wpAny (model prog w) A.in1 (call (.ref f) [.ref x, b]) (fun v s' => ∃ k, v = .bool k ∧ Q (.bool (!k)) s') E' s) : wpAny (model prog w) A (richCompare .NotEq (.ref x) b) Q E' s := by
  have one : wpAny (model prog w) A (tryCompare (.ref x) "__ne__" b) (fun r s' => ∃ v, r = some v ∧ Q v s') E' s := by
    unfold tryCompare
    refine wpAny_bind (ifBound_objNe hX I hne (call_objNe hX I hm hs hf hu (wpAny_mono hcall (fun v s' hv => ?_) fun _ _ e => e)))
    obtain ⟨k, rfl, hq⟩ := hv
    exact ⟨k, rfl, wpAny_pure ⟨_, rfl, hq⟩⟩
  unfold richCompare
  simp only [oneThing_ref, cmpInfo_NotEq]
  refine wpAny_holding (wpAny_bind (wpAny_cRoomFor (Nat.lt_of_succ_lt hu) ?_))
  refine wpAny_bind (I.type.here (wpAny_bind (hb.here ?_)))
  split
  · rename_i q
    have e : PySem.W.subIn K tb (.ref C) = some false := by
      rcases Bool.or_eq_true_iff.mp hn with e | e
      · rw [beq_iff_eq.mp e] at q; simp at q
      · exact beq_iff_eq.mp e
    refine wpAny_bind ((PySem.W.looks_subIn hX e).here ?_)
    simp only [Bool.false_eq_true, if_false]
    refine wpAny_bind (wpAny_mono one (fun r s' z => ?_) fun _ _ e => e)
    obtain ⟨v, rfl, hq⟩ := z
    exact wpAny_pure hq
  · refine wpAny_bind (wpAny_pure ?_)
    simp only [Bool.false_eq_true, if_false]
    refine wpAny_bind (wpAny_mono one (fun r s' z => ?_) fun _ _ e => e)
    obtain ⟨v, rfl, hq⟩ := z
    exact wpAny_pure hq
end
theorem op_own_ne (F : FnOk X.prog X.w X.K X.mg X.base CX k f fd ps sp) (hr : Room (k + 1) X.A) (hm : PySem.W.mroIn X.K C (.type "object") = some true) (hne : PySem.W.findIn X.K (.ref C) "__ne__" = some (some (.builtin "object.__ne__")))
    (hs : PySem.W.findIn X.K (.ref C) "__eq__" = some (some (.ref f))) (hf : PySem.W.isFn X.K (.ref f) = true) (hb : Binds X.K fd ps []) (hx : Passes CX X E) :
    OpR X (compareOp .NotEq) (rOwnEq C sp E not) := by
  intro pins s σ H x y v u Q I rx ry h
  obtain ⟨p, dx, fs, t, rfl, hp, ty, q⟩ := h
  cases rx
  obtain ⟨od, J⟩ := inst_of I hp
  show wpAny (model X.prog X.w) X.A (richCompare .NotEq (.ref p) u) (EP X pins σ Q) X.xe s
  refine rc_ne (hu_of hr) I.kIn J (ty.looks I ry) ty.notFirst hm hne hs hf (thn (run_at F hr.in1 rfl hb hx I (.cons rr (.cons ry .nil)) q) fun r s' hh => ?_)
  obtain ⟨z, H', I', rz, b, ez, q'⟩ := hh
  subst ez
  cases rz
  exact ⟨b, rfl, .bl (!b), H', I', rfl, q'⟩
end
end Own

namespace Toy
open PySem L2 Own
/-! ### exceptions of the text's own, over ArithmeticError, with fields of their own -/
abbrev aeT : List Value := [.type "ArithmeticError", .type "Exception", .type "BaseException", .type "object"]
theorem no_taker {K : PySem.W.Frag} {C : Addr} {f : Str} (h : PySem.W.findIn K (.ref C) f = some none) : PySem.W.takerIn K C f = some none := by
  unfold PySem.W.takerIn
  rw [h]
  rfl
section
variable {prog : Program} {w : World} {A : Around} {R : Result → Shared → Prop} {hp : Heap} {g : Array GenState} {d : Drawn} {t : Nat} {os : OsState}
/-- the first field -/
theorem ae_first {K : PySem.W.Frag} {f : Str} {tk : Tok} {u : Value} {x C : Addr} {fv : Array Value} {cd : ClassData} (X : K.In hp) (hx : hp.get? x = some { cls := .ref C, data := .fields fv }) (hc : PySem.W.clsIn K C = some cd) (hd : cd.hasDict = true)
    (over : PySem.W.excOver K C aeT = true) (no : PySem.W.findIn K (.ref C) f = some none)
    (k : ∀ h' tk' dx, (∀ b o, b ≠ x → hp.get? b = some o → h'.get? b = some o) → hp.objs.size ≤ dx → dx ≠ x → h'.get? x = some { cls := .ref C, dict := some dx, data := .fields fv } → h'.Ns1 dx (fun y => if y = f then some u else none) → R (.ok (.ret .none)) ⟨h', g, d, tk', os⟩) :
    codeAny (model prog w) A (.call (.builtin "object.__setattr__") ⟨[.ref x, .str f tk, u], []⟩) R ⟨hp, g, d, t, os⟩ := by
  have I : PySem.W.InstAt hp x { cls := .ref C, data := .fields fv } C none := ⟨hx, rfl, rfl, trivial⟩
  refine PySem.W.osa_openX PySem.F.store_ArithmeticError X I over (no_taker no) fun b => ?_
  have look : PySem.W.Looks (model prog w) hp (classData C) cd := PySem.W.looks_clsIn X hc
  have old : x ≠ hp.objs.size := Nat.ne_of_lt (Heap.lt_size hx)
  obtain ⟨nm, bs, mro, ns, qn, hdd, sn, sb, ab, col, dl⟩ := cd
  dsimp only at hd
  subst hd
  dsimp only
  unfold Builtin.ObjectAttr.storeInOwnDict Builtin.ObjectAttr.ownDictForStores
  repeat (first
    | with_reducible refine look.at ?_
    | with_reducible refine wpAny_loadPart_at hx ?_
    | with_reducible refine PySem.HandSPX.store_in_new ?_ ?_
    | wp_step)
  · exact ⟨_, #[], _, (Heap.get?_update_ne _ _ _ _ old.symm).trans (Heap.get?_push_at rfl rfl), rfl, (fun e he => absurd he (by simp)), fun _ => rfl⟩
  · intro h' tk' n1 sb'
    have hx' : (hp.push { cls := .type "dict", data := .dict #[] }).get? x = some { cls := .ref C, data := .fields fv } := Heap.get?_push_of_some _ hx
    refine k h' tk' hp.objs.size (fun b o nb e => ?_) (Nat.le_refl _) old.symm ((sb'.2 x old).trans (Heap.get?_update_self _ hx' rfl)) n1
    rw [sb'.2 b (Nat.ne_of_lt (Heap.lt_size e)), Heap.get?_update_ne _ _ _ _ nb]
    exact Heap.get?_push_of_some _ e
/-- a further one -/
theorem ae_more {K : PySem.W.Frag} {f : Str} {tk : Tok} {u : Value} {x C dx : Addr} {fv : Array Value} {cd : ClassData} {m0 : Str → Option Value} {nl : List Str} (X : K.In hp) (hx : hp.get? x = some { cls := .ref C, dict := some dx, data := .fields fv }) (hn : hp.Ns1 dx m0) (hw : Within m0 nl) (hz : nl.length ≤ 1000)
    (hc : PySem.W.clsIn K C = some cd) (hd : cd.hasDict = true) (over : PySem.W.excOver K C aeT = true) (no : PySem.W.findIn K (.ref C) f = some none)
    (k : ∀ h' tk', (∀ b o, b ≠ dx → hp.get? b = some o → h'.get? b = some o) → h'.Ns1 dx (fun y => if y = f then some u else m0 y) → R (.ok (.ret .none)) ⟨h', g, d, tk', os⟩) :
    codeAny (model prog w) A (.call (.builtin "object.__setattr__") ⟨[.ref x, .str f tk, u], []⟩) R ⟨hp, g, d, t, os⟩ := by
  obtain ⟨oD, _, _, hoD, _, _⟩ := hn.count hw
  have I : PySem.W.InstAt hp x { cls := .ref C, dict := some dx, data := .fields fv } C (some oD) := ⟨hx, rfl, rfl, hoD⟩
  refine PySem.W.osa_openX PySem.F.store_ArithmeticError X I over (no_taker no) fun b => ?_
  have look : PySem.W.Looks (model prog w) hp (classData C) cd := PySem.W.looks_clsIn X hc
  obtain ⟨nm, bs, mro, ns, qn, hdd, sn, sb, ab, col, dl⟩ := cd
  dsimp only at hd
  subst hd
  dsimp only
  unfold Builtin.ObjectAttr.storeInOwnDict Builtin.ObjectAttr.ownDictForStores
  repeat (first
    | with_reducible refine look.at ?_
    | with_reducible refine wpAny_loadPart_at hx ?_
    | with_reducible refine PySem.OEX.store_in_old hn hw hz ?_
    | wp_step)
  intro h' tk' n1 sb'
  exact k h' tk' (fun b o nb e => (sb'.2 b nb).trans e) n1
end
/-- what the text has written of such a class -/
structure AeC (K : PySem.W.Frag) (C : Addr) : Prop where
  obj : ∃ nm q N bs bm sn sub ab col dd k0 k1 k2 k3 k5, K.lookup C = some (excClassObj nm q C N bs bm true sn sub ab col dd k0 k1 k2 k3 k5 "ArithmeticError.__new__") ∧ PySem.W.excTail aeT bm = true
  sa : PySem.W.findIn K (.ref C) "__setattr__" = some (some (.builtin "object.__setattr__"))
  ex : PySem.W.subIn K (.ref C) (.type "BaseException") = some true
  ty : PySem.W.typeIn K (.ref C) = some (.type "type")
  kp : PySem.W.keepIn K (.ref C) = true
theorem AeC.cd {K : PySem.W.Frag} {C : Addr} (T : AeC K C) : ∃ cd, PySem.W.clsIn K C = some cd ∧ cd.hasDict = true ∧ PySem.W.excOver K C aeT = true := by
  obtain ⟨nm, q, N, bs, bm, sn, sub, ab, col, dd, k0, k1, k2, k3, k5, hC, ht⟩ := T.obj
  have hc : PySem.W.clsIn K C = some { name := nm, bases := bs, mro := .ref C :: bm, ns := N, qualname := q, hasDict := true, slotNames := sn, subclasses := sub, abstract := ab, collection := col, hasDel := false } := by
    unfold PySem.W.clsIn
    rw [hC] <;> rfl
  refine ⟨_, hc, rfl, ?_⟩
  unfold PySem.W.excOver
  rw [hc]
  show (C == C && PySem.W.excTail aeT bm) = true
  rw [ht, beq_self_eq_true] <;> rfl
section
variable {X : Cx} {pins : List (Addr × Obj)} {σ : L2.St} {H : Hp} {s : Shared} {a C dx : Addr} {f : Str} {y : V} {u : Value} {fs : List (Str × V)} {Q : Unit → Shared → Prop} {E : Value → Shared → Prop} {A : Around}
theorem ast_first (T : AeC X.K C) (I : L2.Inv X pins σ H s) (e : H a = some (L2.exo a C none)) (no : PySem.W.findIn X.K (.ref C) f = some none) (ry : L2.RelV y u)
    (k : ∀ dx s', H dx = none → dx ≠ a → L2.Inv X pins σ (upd (upd H dx (L2.exd dx [(f, y)])) a (L2.exo a C (some dx))) s' → Q () s') : wpAny (model X.prog X.w) A (setAttr (.ref a) f u) Q E s := by
  obtain ⟨cd, hc, hd, over⟩ := T.cd
  obtain ⟨t1, ho⟩ := L2.exo_at I.hok e
  obtain ⟨hp, g, d, t, os⟩ := s
  refine PySem.W.set_plain I.kIn (ox := { cls := .ref C, dict := none, data := .fields #[.ref t1, .none, .none, .none, .bool false, .none] }) (od := none) ⟨ho, rfl, rfl, trivial⟩ T.sa ?_
  refine ae_first I.kIn ho hc hd over no fun h' tk' dx keep big ne hx n1 => ?_
  -- between the two there is a heap with the dict, and the exception still without it
  let G := h'.update a fun _ => { cls := .ref C, dict := none, data := .fields #[.ref t1, .none, .none, .none, .bool false, .none] }
  have ga : G.get? a = some { cls := .ref C, dict := none, data := .fields #[.ref t1, .none, .none, .none, .bool false, .none] } := Heap.get?_update_self _ hx rfl
  have gb : ∀ b, b ≠ a → G.get? b = h'.get? b := fun b nb => Heap.get?_update_ne _ _ _ _ nb
  have hdx : H dx = none := I.hok.fresh big
  have I1 := I.laid (t' := tk') (a := dx) (o := L2.exd dx [(f, y)]) (h' := G) (fun b o q => by
    by_cases c : b = a
    · subst c
      rw [ga]
      exact ho.symm.trans q
    · rw [gb b c]
      exact keep b o c q) big (L2.exd_ok (n1.at fun o q => (gb dx ne).trans q) (L2.relO_put (fs := []) ry fun _ => True.intro))
  have ea : (upd H dx (L2.exd dx [(f, y)])) a = some (L2.exo a C none) := by rw [upd_ne ne.symm, e]
  have I2 := I1.write (t' := tk') (x := a) (e := a) (o := L2.exo a C (some dx)) (h' := h') (by rw [ea]; exact True.intro) (.inl rfl) (fun b o nb q => (gb b nb).symm.trans q) ⟨_, hx⟩ (L2.exo_ok hx)
  exact k dx _ hdx ne I2
theorem ast_more (T : AeC X.K C) (I : L2.Inv X pins σ H s) (e : H a = some (L2.exo a C (some dx))) (ed : H dx = some (L2.exd dx fs)) (hl : fs.length ≤ 900) (no : PySem.W.findIn X.K (.ref C) f = some none) (ry : L2.RelV y u)
    (k : ∀ s', L2.Inv X pins σ (upd H dx (L2.exd dx ((f, y) :: fs))) s' → Q () s') : wpAny (model X.prog X.w) A (setAttr (.ref a) f u) Q E s := by
  obtain ⟨cd, hc, hd, over⟩ := T.cd
  obtain ⟨t1, ho⟩ := L2.exo_at I.hok e
  obtain ⟨mA, n1, rel⟩ := L2.exd_at I.hok ed
  have hw := L2.within_of rel
  obtain ⟨hp, g, d, t, os⟩ := s
  obtain ⟨oD, _, _, hoD, _, _⟩ := n1.count hw
  refine PySem.W.set_plain I.kIn (ox := { cls := .ref C, dict := some dx, data := .fields #[.ref t1, .none, .none, .none, .bool false, .none] }) (od := some oD) ⟨ho, rfl, rfl, hoD⟩ T.sa ?_
  refine ae_more I.kIn ho n1 hw (by rw [List.length_map]; omega) hc hd over no fun h' tk' keep n2 => ?_
  have there : ∃ o, h'.get? dx = some o := by
    obtain ⟨o, _, _, q, _⟩ := n2
    exact ⟨o, q⟩
  exact k _ (I.write (t' := tk') (x := dx) (e := dx) (o := L2.exd dx ((f, y) :: fs)) (by rw [ed]; exact True.intro) (.inl rfl) keep there (L2.exd_ok n2 (L2.relO_put ry rel)))
end
/-- o.f = e, o such an exception that is being made -/
def sAe (K : PySem.W.Frag) (f : Str) (to te : TE) : TS := fun D σ H => te σ H fun y H1 => to σ H1 fun x H2 => ∃ a C : Addr, x = .ref a ∧ AeC K C ∧ PySem.W.findIn K (.ref C) f = some none ∧
  ((H2 a = some (L2.exo a C none) ∧ ∀ dx, H2 dx = none → dx ≠ a → D.nx σ (upd (upd H2 dx (L2.exd dx [(f, y)])) a (L2.exo a C (some dx)))) ∨
    ∃ (dx : Addr) (fs : List (Str × V)), H2 a = some (L2.exo a C (some dx)) ∧ H2 dx = some (L2.exd dx fs) ∧ fs.length ≤ 900 ∧ D.nx σ (upd H2 dx (L2.exd dx ((f, y) :: fs))))
theorem ps_ae {X : Cx} {o e : Expr} {to te : TE} {f : Str} {p' pos : Pos} (ho : PE X o to) (he : PE X e te) (hs : swapsWith e (some (.Attribute o f p')) pos.line X.env = pure false := by rfl) : PS X (.Assign [.Attribute o f p'] e pos) (sAe X.K f to te) := by
  refine ⟨fun pins s σ H D I h => plainObj_wpAny_Assign_Attribute (L2.thn (he.run pins s σ H _ I h) fun v s1 ⟨y, H1, I1, r1, q1⟩ => L2.thn (ho.run pins s1 σ H1 _ I1 q1) fun z s2 ⟨x, H2, I2, r2, a, C, ex, T, no, q⟩ => ?_) hs⟩
  subst ex
  obtain rfl : z = Value.ref a := r2
  rcases q with ⟨ea, q⟩ | ⟨dx, fs, ea, ed, hl, q⟩
  · exact ast_first T I2 ea no r1 fun dx s' n ne J => ⟨σ, _, J, q dx n ne⟩
  · exact ast_more T I2 ea ed hl no r1 fun s' J => ⟨σ, _, J, q⟩
/-- C(e, ..): C's own __init__ keeps sp -/
theorem pmk_ae {X : Cx} {CX : CXT} {x : Str} {C f : Addr} {k : Nat} {fd : FuncData} {ps : List Str} {sp : Sp} {ds : List Value} {dvs : List V} {e : Expr} {es : List Expr} {ta : TA} {p pos : Pos} (T : AeC X.K C) (hi : PySem.W.findIn X.K (.ref C) "__init__" = some (some (.ref f))) (ht : PySem.W.typeIn X.K (.ref f) = some (.type "function"))
    (F : FnOk X.prog X.w X.K X.mg X.base CX k f fd ps sp) (hr : Room (k + 1) X.A) (hb : Binds X.K fd ps ds) (hd : L2.Vals dvs ds) (hx : Passes CX X fun _ _ _ => False) (hg : Gl X x) (hm : X.mg x = some (.ref C)) (ha : PA X (e :: es) ta)
    (hdb : (x == ("__debug__" : Str)) = false := by decide) (he : starEach (e :: es) X.env = (false, eval e X.env) :: starEach es X.env := by rfl) (hpl : (backTo pos (starEach es X.env)).any (·.1) = false := by rfl) :
    L2.PMk X (.Call (.Name x p) (e :: es) [] pos) (L2.tMkO C sp dvs ta) := by
  rintro pins s σ H Q I h
  obtain ⟨nm, q, N, bs, bm, sn, sub, ab, col, dd, k0, k1, k2, k3, k5, hC, hbm⟩ := T.obj
  refine wpAny_Call_Name_kw (L2.ld_glob I hg hm ?_ hdb)
  refine PySem.W.callWith_K (h₀ := X.base) I.ok.mod.kin T.kp (L2.thn (ha.run pos pins s σ H _ I h) fun us s1 ⟨vs, H1, I1, r1, hz, q1⟩ => ⟨I1.kIn, ?_⟩) he hpl
  obtain ⟨hp, g, dr, tk, os⟩ := s1
  have up : hp.objs.size ≤ hp.objs.size + 1 := Nat.le_succ _
  have fresh : H1 (hp.objs.size + 1) = none := I1.hok.fresh up
  have prom := q1 _ fresh
  have keep : ∀ b o, hp.get? b = some o → ((hp.push (PySem.W.kdv_tup us)).push (PySem.HandSPX.excO C hp.objs.size)).get? b = some o := fun b o z => Heap.get?_push_of_some _ (Heap.get?_push_of_some _ z)
  have at_ : ((hp.push (PySem.W.kdv_tup us)).push (PySem.HandSPX.excO C hp.objs.size)).get? (hp.objs.size + 1) = some (PySem.HandSPX.excO C hp.objs.size) := by heap_get
  have I2 := I1.laid (t' := tk) (a := hp.objs.size + 1) (o := L2.exo (hp.objs.size + 1) C none) keep up (L2.exo_ok at_)
  have rel : L2.Vals (V.ref (hp.objs.size + 1) :: (vs ++ dvs)) (Value.ref (hp.objs.size + 1) :: (us ++ ds)) := .cons rfl (r1.append hd)
  have len := rel.length
  rw [F.len _ _ _ _ prom] at len
  have small : us.length ≤ sizeLine := by
    rw [← r1.length, sizeLine_eq]
    omega
  have body := F.run _ X.stack _ _ ⟨Value.ref (hp.objs.size + 1) :: us, []⟩ (Value.ref (hp.objs.size + 1) :: (us ++ ds)) _ _ (fun _ _ _ => False) (hr.make C us []) (I2.env0.make C us []) (hb _ (Value.ref (hp.objs.size + 1) :: us) I2.kIn len.symm) rel prom
  refine wpAny_call (PySem.HandSPX.call_own PySem.F.excBase_ArithmeticError (fun Y => PySem.W.excTail_contains Y bm hbm) (I1.kIn _ _ hC) (PySem.W.looks_findIn I1.kIn hi) (fun self => PySem.W.bind_fn I1.kIn self ht) small (codeAny_mono body ?_))
  rintro (er | fl) s' hq
  · exact hx pins σ _ _ er s' I2 hq
  · cases fl with
    | ret u =>
      obtain ⟨v, H2, os2, bare2, un2, hok2, rv, ev, d, fs, ea, ed, hd1, q2⟩ := hq
      subst ev
      obtain ⟨h2, g2, d2, t2, os'⟩ := s'
      exact ⟨rv, L2.mk_end (L2.raises_own T.ex T.ty) I1 up keep un2 hok2 os2 bare2 ea ed hd1 q2⟩
    | next => exact False.elim hq
    | brk => exact False.elim hq
    | cont => exact False.elim hq
/-- what is needed for isinstance(e, ..), e such an exception -/
structure IsC (K : PySem.W.Frag) (D : Addr) : Prop where
  hg : PySem.W.findIn K (.ref D) "__getattribute__" = some (some (.builtin "BaseException.__getattribute__"))
  hk : PySem.W.findIn K (.ref D) "__getattr__" = some none
  hs : PySem.W.subIn K (.ref D) (.type "BaseException") = some true
  hd : PySem.W.hasDictIn K D = true
  ha : PySem.W.findIn K (.ref D) "__class__" = some (some (.builtin "object.__class__"))
  hn : PySem.W.specialIn K (.builtin "object.__class__") "__get__" = some (some (.builtin "getset_descriptor.__get__"))
  ht : PySem.W.takesIn K (.builtin "object.__class__") = some true
  hm : PySem.W.mroIn K D (.type "object") = some true
def rIsX (K : PySem.W.Frag) (D a d : Addr) : List V → Hp → VK → Prop := fun xs H Q => ∃ (c : V) (cv : Value) (b : Bool) (fs : List (Str × V)), xs = [.ref a, c] ∧ H d = some (.xd fs) ∧ (∀ u, L2.RelV c u → u = cv) ∧ PySem.W.kitOne K (.ref D) cv = some b ∧ Q (.bl b) H
/-- isinstance(e, c), e the caught exception with its fields in a dict at d -/
theorem call_isX {X : Cx} {a D d : Addr} {oe : Obj} {pn : List (Addr × Obj)} (T : IsC X.K D) (hz : L2.Zc (.ref D) (some d) oe) (hf : ∃ vs, oe.data = .fields vs) : CallR (X.suite a ((a, oe) :: pn)) (.builtin "isinstance") (rIsX X.K D a d) := by
  rintro pins s σ H xs us Q I r ⟨c, cv, b, fs, rfl, hdd, hcv, e, q⟩
  match us, r with
  | [_, _], .cons rx (.cons rt .nil) =>
    cases rx
    have ec := hcv _ rt
    subst ec
    obtain ⟨hget, _⟩ := I.pin (a, oe) (List.mem_append.mpr (.inl List.mem_cons_self))
    obtain ⟨vs, hv⟩ := hf
    have hx : ObjOk X.prog X.w H s.heap d (.xd fs) := I.hok d _ hdd
    obtain ⟨mA, hns, _⟩ := hx
    obtain ⟨od, ho, _⟩ := lookIn_ns hns
    have J : PySem.W.InstAt s.heap a oe D (some od) := by
      refine ⟨hget, hz.1, by unfold PySem.W.notCls; rw [hv] <;> rfl, ?_⟩
      rw [hz.2]
      exact ho
    have hcl : (PySem.W.clsIn X.K D).isSome = true := by
      obtain ⟨cd, hc, _⟩ := PySem.W.any_some T.hd
      rw [hc] <;> rfl
    exact PySem.W.kia_one (PySem.W.kitx_exc hcl T.hg T.hk T.hs T.ha T.hn T.ht T.hm) I.kIn J e (fun z => nomatch z) fun tk => ⟨.bl b, H, I.kept (t' := tk) fun _ _ z => z, rfl, q⟩
/-- the same where the suite is told of any error -/
def rIsY (K : PySem.W.Frag) (D a : Addr) (cls : Value) (d : Option Addr) : List V → Hp → VK → Prop := fun xs H Q => cls = .ref D ∧ ∃ dd, d = some dd ∧ rIsX K D a dd xs H Q
theorem call_isY {X : Cx} {a D : Addr} {cls : Value} {d : Option Addr} {oe : Obj} {pn : List (Addr × Obj)} (T : IsC X.K D) (hz : L2.Zc cls d oe) (hf : ∃ vs, oe.data = .fields vs) : CallR (X.suite a ((a, oe) :: pn)) (.builtin "isinstance") (rIsY X.K D a cls d) := by
  rintro pins s σ H xs us Q I r ⟨rfl, dd, rfl, h⟩
  exact call_isX T hz hf pins s σ H xs us Q I r h
/-- isinstance(e, (C1, ..)), the tuple new or not -/
def rIsT (K : PySem.W.Frag) (D a : Addr) (cls : Value) (d : Option Addr) : List V → Hp → VK → Prop := fun xs H Q => cls = .ref D ∧ ∃ (dd t : Addr) (cs : List Addr) (fs : List (Str × V)), d = some dd ∧ H dd = some (.xd fs) ∧ xs = [.ref a, .ref t] ∧ H t = some (.tup (cs.map V.ref)) ∧ PySem.W.kitAny K (.ref D) (cs.map Value.ref) = some false ∧ Q (.bl false) H
theorem refs_vals : ∀ {cs : List Addr} {us : List Value}, L2.Vals (cs.map V.ref) us → us = cs.map Value.ref
  | [], _, r => by cases r; rfl
  | c :: cs, _, r => by
    cases r with
    | cons h t =>
      have e : _ = Value.ref c := h
      rw [e, refs_vals t]
      rfl
theorem call_isT {X : Cx} {a D : Addr} {cls : Value} {d : Option Addr} {oe : Obj} {pn : List (Addr × Obj)} (T : IsC X.K D) (hz : L2.Zc cls d oe) (hf : ∃ vs, oe.data = .fields vs) : CallR (X.suite a ((a, oe) :: pn)) (.builtin "isinstance") (rIsT X.K D a cls d) := by
  rintro pins s σ H xs us Q I r ⟨rfl, dd, t, cs, fs, rfl, hdd, rfl, ht, e, q⟩
  match us, r with
  | [_, _], .cons rx (.cons rt .nil) =>
    cases rx
    cases rt
    obtain ⟨hget, _⟩ := I.pin (a, oe) (List.mem_append.mpr (.inl List.mem_cons_self))
    obtain ⟨vs, hv⟩ := hf
    have hx : ObjOk X.prog X.w H s.heap dd (.xd fs) := I.hok dd _ hdd
    obtain ⟨mA, hns, _⟩ := hx
    obtain ⟨od, ho, _⟩ := lookIn_ns hns
    have J : PySem.W.InstAt s.heap a oe D (some od) := by
      refine ⟨hget, hz.1, by unfold PySem.W.notCls; rw [hv] <;> rfl, ?_⟩
      rw [hz.2]
      exact ho
    have hcl : (PySem.W.clsIn X.K D).isSome = true := by
      obtain ⟨cd, hc, _⟩ := PySem.W.any_some T.hd
      rw [hc] <;> rfl
    obtain ⟨its, rv, htp, _⟩ := I.tuple (SqT.of ht)
    have ei := refs_vals rv
    subst ei
    obtain ⟨⟨tc, tdd, tda, tsl⟩, hto, htc, n, htd⟩ := htp
    dsimp only at htc htd
    subst htc htd
    exact PySem.W.kia_tup (PySem.W.kitx_exc hcl T.hg T.hk T.hs T.ha T.hn T.ht T.hm) I.kIn J hto e (fun z => nomatch z) fun tk => ⟨.bl false, H, I.kept (t' := tk) fun _ _ z => z, rfl, q⟩
/-! ### defs in which lambdas are made: what the text says of them -/
/-- a def of the text whose code object stands at c -/
structure FunT (K : PySem.W.Frag) (x q : Str) (st : Stmt) (f c : Addr) (fd : FuncData) : Prop where
  ex : ∃ (oc : Value) (od : Option Addr) (kV doc pm : Value) (an : Option Addr) (ct : Value) (osl : Array (Option Value)), fd = PySem.W.fnOf x q (defArgs st) (defBody st) (defScope st) .none kV doc pm an (.ref c) ct ∧ K.lookup f = some ⟨oc, od, .func fd, osl⟩ ∧ PySem.W.codeIn K (.ref c) q = true
  kp : PySem.W.keepIn K (.ref f) = true
theorem FunT.ok {P : Program} {w : World} {K : PySem.W.Frag} {mg : Str → Option Value} {base : Heap} {x q : Str} {st : Stmt} {f c : Addr} {fd : FuncData} {N ps : List Str} {k : Nat} {sp : Sp} (F : FunT K x q st f c fd) (S : FnScope N ps (defScope st)) (len : ∀ vs H Q E, sp vs H Q E → vs.length = ps.length)
    (hbody : ∀ (A : Around) (outer : List Env) (s : Shared) (H : Hp) (vs : List V) (Q : VK) (E : XK), Room k (A.deeper (PyProof.Rows.envOfC q (defScope st) s.heap.objs.size f (.ref c))) → sp vs H Q E →
      ∃ t, PSs (cxOf CX0 P w K mg base N q (defScope st) f (.ref c) A outer s H E).nox (defBody st) t ∧ t { nx := fun _ H' => Q .non H', rt := Q } (start N vs) H) : FnOk P w K mg base CX0 (k + 1) f fd ps sp := by
  obtain ⟨oc, od, kV, doc, pm, an, ct, osl, rfl, lk, hcd⟩ := F.ex
  refine fn_of lk hcd S len fun A outer s H vs Q E hr hsp => ?_
  obtain ⟨t, h, z⟩ := hbody A outer s H vs Q E hr hsp
  exact ⟨t, h.nox, z⟩
structure DfnT (K : PySem.W.Frag) (mg : Str → Option Value) (x : Str) (st : Stmt) (f c : Addr) (ps : List Str) : Prop where
  ex : ∃ fd, FunT K x x st f c fd ∧ Binds K fd ps []
  g : mg x = some (.ref f)
/-! ### the text by places -/
def top (i : Nat) : Stmt := PySem.Challenge.pw_breakerrow_k09_trains_refused.main.body.getD i (.Pass ⟨0, 0, 0, 0⟩)
abbrev st__wall : Stmt := top 0
abbrev st_InvalidTime_init : Stmt := inClass (top 3) 0
abbrev st_InvalidTrains_init : Stmt := inClass (top 4) 0
abbrev st_InvalidIndex_init : Stmt := inClass (top 5) 0
abbrev st_InvalidBound_init : Stmt := inClass (top 6) 0
abbrev st_LimitExceeded_init : Stmt := inClass (top 7) 0
abbrev st_is_integer : Stmt := top 9
abbrev st_is_at_least : Stmt := top 10
abbrev st_steps_to : Stmt := top 11
abbrev st_count_below : Stmt := top 12
abbrev st_is_train : Stmt := top 14
abbrev st_last_time : Stmt := top 15
abbrev st_times_before : Stmt := top 16
abbrev st_part_of : Stmt := top 17
abbrev st_joined : Stmt := top 18
abbrev st_normal_form : Stmt := top 19
abbrev st_with_plain_step : Stmt := top 20
abbrev st_counts_ahead : Stmt := top 21
abbrev st_total_count : Stmt := top 22
abbrev st_Trains_init : Stmt := inClass (top 25) 0
abbrev st_Trains_train_list : Stmt := inClass (top 25) 1
abbrev st_Trains_len : Stmt := inClass (top 25) 2
abbrev st_Trains_contains : Stmt := inClass (top 25) 3
abbrev st_Trains_getitem : Stmt := inClass (top 25) 4
abbrev st_Trains_iter : Stmt := inClass (top 25) 5
abbrev st_Trains_add : Stmt := inClass (top 25) 6
abbrev st_Trains_eq : Stmt := inClass (top 25) 7
abbrev st_check_trains : Stmt := top 26
abbrev st_is_behind : Stmt := top 27
abbrev st_trains_of : Stmt := top 28
abbrev st_count_before : Stmt := top 29
abbrev st__law_cell_at : Stmt := top 31
abbrev st__law_source_of : Stmt := top 32
abbrev st__law_draw : Stmt := top 33
abbrev st__law_choice : Stmt := top 34
abbrev st__law_rows : Stmt := top 35
abbrev st__law_told : Stmt := top 36
abbrev st__law_odd : Stmt := top 37
abbrev st_law : Stmt := top 38
/-- a def of the top -/
structure Dfn (K : PySem.W.Frag) (mg : Str → Option Value) (x : Str) (st : Stmt) (f : Addr) (ps : List Str) : Prop where
  ex : ∃ fd, Fun K x x st f fd ∧ Binds K fd ps []
  g : mg x = some (.ref f)
structure Mth (K : PySem.W.Frag) (C : Addr) (m q : Str) (st : Stmt) (f : Addr) (ps : List Str) : Prop where
  ex : ∃ fd, Fun K m q st f fd ∧ Binds K fd ps []
  at_ : PySem.W.findIn K (.ref C) m = some (some (.ref f))
  fn : PySem.W.isFn K (.ref f) = true
  fk : PySem.W.fnIn K f = true
/-- a def that is called by its name, with its promise -/
structure Cal (P : Program) (w : World) (K : PySem.W.Frag) (mg : Str → Option Value) (base : Heap) (x : Str) (k : Nat) (f : Addr) (ps : List Str) (sp : Sp) : Prop where
  ex : ∃ fd, FnOk P w K mg base CX0 k f fd ps sp ∧ Binds K fd ps []
  g : mg x = some (.ref f)
  kp : PySem.W.keepIn K (.ref f) = true
theorem Dfn.cal {P : Program} {w : World} {K : PySem.W.Frag} {mg : Str → Option Value} {base : Heap} {x : Str} {st : Stmt} {f : Addr} {ps : List Str} {k : Nat} {sp : Sp} (D : Dfn K mg x st f ps) (h : ∀ fd, Fun K x x st f fd → FnOk P w K mg base CX0 k f fd ps sp) : Cal P w K mg base x k f ps sp := by
  obtain ⟨fd, F, b⟩ := D.ex
  exact ⟨⟨fd, h fd F, b⟩, D.g, F.kp⟩
theorem pe_c {X : Cx} {x : Str} {k : Nat} {f : Addr} {ps : List Str} {sp : Sp} {t : TA} {e : Expr} {es : List Expr} {p pos : Pos} (c : Cal X.prog X.w X.K X.mg X.base x k f ps sp) (hr : Room k X.A) (hg : Gl X x)
    (ha : PA X (e :: es) t) (hdb : (x == ("__debug__" : Str)) = false := by decide) (he : starEach (e :: es) X.env = (false, eval e X.env) :: starEach es X.env := by rfl) (hpl : (backTo pos (starEach es X.env)).any (·.1) = false := by rfl) :
    PE X (.Call (.Name x p) (e :: es) [] pos) (tCall sp [] E0 t) := by
  obtain ⟨fd, F, b⟩ := c.ex
  exact pe_call F hr hg c.g c.kp b .nil pass0 ha hdb he hpl
/-- a method with its promise -/
structure Met (P : Program) (w : World) (K : PySem.W.Frag) (mg : Str → Option Value) (base : Heap) (C : Addr) (m : Str) (k : Nat) (f : Addr) (ps : List Str) (sp : Sp) : Prop where
  ex : ∃ fd, FnOk P w K mg base CX0 k f fd ps sp ∧ Binds K fd ps []
  me : Meth K C m f
  fk : PySem.W.fnIn K f = true
theorem Mth.met {P : Program} {w : World} {K : PySem.W.Frag} {mg : Str → Option Value} {base : Heap} {C : Addr} {m q : Str} {st : Stmt} {f : Addr} {ps : List Str} {k : Nat} {sp : Sp} (D : Mth K C m q st f ps) (h : ∀ fd, Fun K m q st f fd → FnOk P w K mg base CX0 k f fd ps sp) : Met P w K mg base C m k f ps sp := by
  obtain ⟨fd, F, b⟩ := D.ex
  exact ⟨⟨fd, h fd F, b⟩, ⟨D.at_, D.fn, F.kp⟩, D.fk⟩

/-! ### values of plain kinds -/
inductive Kd (H : Hp) : V → String → Prop where
  | non : Kd H .non "NoneType"
  | bl (b : Bool) : Kd H (.bl b) "bool"
  | int (i : Int) : Kd H (.int i) "int"
  | str (x : Str) : Kd H (.str x) "str"
  | lst {a : Addr} {xs : List V} (e : H a = some (.lst xs)) : Kd H (.ref a) "list"
  | tup {a : Addr} {xs : List V} (e : H a = some (.tup xs)) : Kd H (.ref a) "tuple"
  | dK {a : Addr} {xs : List (Key × V)} (e : H a = some (.dK xs)) : Kd H (.ref a) "dict"
theorem Kd.ty {K : PySem.W.Frag} {H : Hp} {v : V} {n : String} (h : Kd H v n) : TyX K H v (.type n) := by
  cases h with
  | non => exact .base .non
  | bl b => exact .base (.bl b)
  | int i => exact .base (.int i)
  | str x => exact .base (.str x)
  | lst e => exact .base (.lst e)
  | tup e => exact .base (.tup e)
  | dK e => exact .base (.dK e)
def isI : V → Bool
  | .int _ => true
  | _ => false
def toI : V → Int
  | .int i => i
  | _ => 0
theorem Kd.kit {K : PySem.W.Frag} {H : Hp} {v : V} {n : String} (h : Kd H v n) (c : String) (b : Bool) (hc : c = "int" ∧ b = (n == "int" || n == "bool") ∨ c ≠ "int" ∧ c ∈ ["bool", "list", "tuple"] ∧ b = (n == c)) : PySem.W.kitOne K (.type n) (.type c) = some b := by
  rcases hc with ⟨rfl, rfl⟩ | ⟨_, hc, rfl⟩
  · cases h <;> exact kit_ty (by decide +kernel)
  · simp only [List.mem_cons, List.mem_nil_iff, or_false] at hc
    rcases hc with rfl | rfl | rfl <;> cases h <;> exact kit_ty (by decide +kernel)
theorem Kd.same {H H' : Hp} {v : V} {n : String} (h : Kd H v n) (s : ∀ b o, v = .ref b → H b = some o → H' b = some o) : Kd H' v n := by
  cases h with
  | non => exact .non
  | bl b => exact .bl b
  | int i => exact .int i
  | str x => exact .str x
  | lst e => exact .lst (s _ _ rfl e)
  | tup e => exact .tup (s _ _ rfl e)
  | dK e => exact .dK (s _ _ rfl e)
/-- all but what stands at a is kept -/
def Kp (a : Addr) (H H' : Hp) : Prop := ∀ b o, b ≠ a → H b = some o → H' b = some o
theorem Kp.refl {a : Addr} {H : Hp} : Kp a H H := fun _ _ _ h => h
theorem Kp.trans {a : Addr} {H H1 H2 : Hp} (h : Kp a H H1) (h' : Kp a H1 H2) : Kp a H H2 := fun b o n e => h' b o n (h b o n e)
theorem Kp.of {a : Addr} {H H' : Hp} (s : Same H H') : Kp a H H' := fun b o _ e => s b o e
theorem Kp.upd {a : Addr} {H : Hp} {o : HO} : Kp a H (upd H a o) := fun b _ n e => by rw [upd_ne n]; exact e
theorem Same.upd {H : Hp} {p : Addr} {o : HO} (h : H p = none) : Same H (L2.upd H p o) := fun b u e => by rw [upd_ne (ne_of_none e h)]; exact e
theorem Kp.free {a b : Addr} {H H' : Hp} {o : HO} (k : Kp a H H') (ha : H a = some o) (h : H' b = none) (n : b ≠ a) : H b = none := by
  cases q : H b with
  | none => rfl
  | some u => rw [k b u n q] at h; cases h

/-! ### the promises of the small defs -/
def spIsInt : Sp := fun vs H Q _ => ∃ v n, vs = [v] ∧ Kd H v n ∧ Q (.bl (isI v)) H
def spAtL : Sp := fun vs H Q _ => ∃ v n l, vs = [v, .int l] ∧ Kd H v n ∧ Q (.bl (isI v && decide (l ≤ toI v))) H
def spWithin : Sp := fun vs H Q _ => ∃ v n l m, vs = [v, .int l, .int m] ∧ Kd H v n ∧ Q (.bl (isI v && (decide (l ≤ toI v) && decide (toI v ≤ m)))) H
/-- how many steps -/
def stepsUp (d s : Int) : Int := if -(-d / s) > 0 then -(-d / s) else 0
def spSteps : Sp := fun vs H Q _ => ∃ d s, vs = [.int d, .int s] ∧ 0 < s ∧ s.natAbs.log2 < 9000 ∧ Q (.int (stepsUp d s)) H

/-- what is no list is kept -/
def NL (H H' : Hp) : Prop := ∀ b o, H b = some o → (∀ xs, o ≠ .lst xs) → H' b = some o
theorem NL.refl {H : Hp} : NL H H := fun _ _ h _ => h
theorem NL.trans {H H1 H2 : Hp} (a : NL H H1) (b : NL H1 H2) : NL H H2 := fun c o h n => b c o (a c o h n) n
theorem NL.of {H H' : Hp} (s : Same H H') : NL H H' := fun b o e _ => s b o e
theorem Kp.nl {a : Addr} {H H' : Hp} {xs : List V} (k : Kp a H H') (h : H a = some (.lst xs)) : NL H H' := fun b o e n => k b o (fun z => by subst z; rw [h] at e; exact n xs (Option.some.inj e).symm) e
theorem NL.upd {H : Hp} {p : Addr} {xs : List V} {o : HO} (h : H p = some (.lst xs)) : NL H (L2.upd H p o) := Kp.nl Kp.upd h
theorem pe_gI {X : Cx} {x : Str} {i : Int} {t : Tok} {pos : Pos} (hm : X.mg x = some (.int i t)) (hg : Gl X x := by rfl) (hd : (x == ("__debug__" : Str)) = false := by decide) : PE X (.Name x pos) (tC (.int i)) := pe_glob hg hm ⟨t, rfl⟩ hd
@[irreducible] def PB (n : Nat) : Int := 2 ^ n
theorem PB_succ (n : Nat) : PB (n + 1) = PB n + PB n := by
  unfold PB
  rw [Int.pow_succ]
  omega
theorem PB_pos (n : Nat) : 1 ≤ PB n := by
  unfold PB
  have : (0 : Int) < 2 ^ n := Int.pow_pos (by decide)
  omega
theorem PB_le {n m : Nat} (h : n ≤ m) : PB n ≤ PB m := by
  induction m with
  | zero => rw [Nat.le_zero.mp h]; exact Int.le_refl _
  | succ m ih =>
    by_cases e : n = m + 1
    · rw [e]; exact Int.le_refl _
    · have h1 := ih (by omega)
      have h2 := PB_succ m
      have h3 := PB_pos m
      omega
theorem PB_abs {i : Int} {n : Nat} (h0 : 0 ≤ i) (h : i ≤ PB n) : i.natAbs < 2 ^ (n + 1) := by
  unfold PB at h
  have e : (2 : Nat) ^ (n + 1) = 2 ^ n * 2 := Nat.pow_succ 2 n
  have e2 : ((2 ^ n : Nat) : Int) = 2 ^ n := by rw [Int.natCast_pow]; rfl
  rw [← e2] at h
  have : 0 < 2 ^ n := Nat.pow_pos (by decide)
  rw [e]
  generalize 2 ^ n = w at *
  omega
theorem PB_of {i : Int} {n : Nat} (h : i.natAbs < 2 ^ n) : i ≤ PB n := by
  unfold PB
  have e2 : ((2 ^ n : Nat) : Int) = 2 ^ n := by rw [Int.natCast_pow]; rfl
  rw [← e2]
  generalize 2 ^ n = w at *
  omega
def BB : Int := PB 5000
theorem BB0 : 0 ≤ BB := by
  have := PB_pos 5000
  unfold BB
  omega
theorem bb_lt {i : Int} (h0 : 0 ≤ i) (h : i ≤ BB + BB) : i.natAbs < 2 ^ 5002 := PB_abs h0 (by rw [PB_succ]; exact h)
theorem mulBB {i j : Int} (i0 : 0 ≤ i) (i1 : i ≤ BB + BB) (j0 : 0 ≤ j) (j1 : j ≤ BB + BB) : CMulW i j := wide_mul (bb_lt i0 i1) (bb_lt j0 j1) (by decide) (by decide) (by decide)
theorem BB1 : 1 ≤ BB := PB_pos 5000
theorem divBB {j : Int} (j0 : 1 ≤ j) (j1 : j ≤ BB) : j.natAbs.log2 < 9000 := (wide_div (i := 0) (by omega : 0 < j) (bb_lt (by omega) (by have := BB0; omega)) (by decide) (by decide)).2
theorem small2 {n : Nat} (h : n ≤ 100000) : n ≤ sizeLine := Nat.le_trans h (by decide)
theorem small1 {n : Nat} (h : n ≤ 100000) : n < sizeLine := Nat.lt_of_le_of_lt h (by decide)
theorem tYes_of {σ : L2.St} {H : Hp} {A B : Hp → Prop} (h : A H) : tYes σ H (fun b H3 => if b = true then A H3 else B H3) := by
  show if true = true then A H else B H
  rw [if_pos rfl]
  exact h
theorem cut_init (xs : List V) : cutV xs none (some (-1)) = xs.take (xs.length - 1) := by
  show (xs.drop 0).take ((if (-1 : Int) < 0 then ((-1 : Int) + (xs.length : Int)).toNat else min (-1 : Int).toNat xs.length) - 0) = _
  rw [if_pos (by decide), List.drop_zero]
  congr 1
  omega
theorem cut_last (xs : List V) : cutV xs (some (-1)) none = xs.drop (xs.length - 1) := by
  show (xs.drop (if (-1 : Int) < 0 then ((-1 : Int) + (xs.length : Int)).toNat else min (-1 : Int).toNat xs.length)).take (xs.length - (if (-1 : Int) < 0 then ((-1 : Int) + (xs.length : Int)).toNat else min (-1 : Int).toNat xs.length)) = _
  rw [if_pos (by decide)]
  have e : ((-1 : Int) + (xs.length : Int)).toNat = xs.length - 1 := by omega
  rw [e]
  refine List.take_of_length_le ?_
  rw [List.length_drop]
  exact Nat.le_refl _
theorem none_of {H H' : Hp} {l : Addr} (s : Same H H') (h : H' l = none) : H l = none := by
  cases q : H l with
  | none => rfl
  | some o => rw [s _ _ q] at h; cases h
theorem for_enum {K : PySem.W.Frag} {a : Addr} {xs : List V} {g : TG} {tb : TS} {D : Ends} {σ : L2.St} {H : Hp} (Pv : Nat → L2.St → Hp → Prop) (h0 : Pv 0 σ H) (hl : ∀ i σ H, i ≤ xs.length → Pv i σ H → SqL K H a xs)
    (hs : ∀ i x T σ H, xs[i]? = some x → Pv i σ H → H T = none → g (.ref T) σ (upd H T (.tup [.int (i : Nat), x])) fun σ2 H2 => tb { D with nx := Pv (i + 1), ct := Pv (i + 1), bk := D.nx } σ2 H2) (hd : ∀ σ H, Pv xs.length σ H → D.nx σ H) :
    ∃ W : Nat → Nat → L2.St → Hp → Prop, (∃ m, W 0 m σ H) ∧ ∀ i m σ H, W i m σ H →
      ((Ite K a).stop i H ∧ D.nx σ H) ∨ ((Ite K a).go i H ∧ ∃ N : L2.St → Hp → Prop, (∀ σ' H', N σ' H' → ∃ m', m' < m ∧ W (i + 1) m' σ' H') ∧ ∀ x H', (Ite K a).yld i H x H' → g x σ H' fun σ2 H2 => tb { D with nx := N, ct := N, bk := D.nx } σ2 H2) := by
  refine ⟨fun i m σ H => m = xs.length - i ∧ i ≤ xs.length ∧ Pv i σ H, ⟨xs.length, by simp, Nat.zero_le _, h0⟩, ?_⟩
  rintro i m σ H ⟨rfl, hi, p⟩
  have q := hl i σ H hi p
  by_cases hlt : i < xs.length
  · refine .inr ⟨⟨xs, xs[i], q, by simp [hlt]⟩, Pv (i + 1), fun σ' H' p' => ⟨xs.length - (i + 1), by omega, rfl, hlt, p'⟩, fun x H' y => ?_⟩
    obtain ⟨T, x', rfl, hT, rfl, hx⟩ := y
    exact hs i x' T σ H (hx xs q) p hT
  · have e : i = xs.length := by omega
    subst e
    exact .inl ⟨⟨xs, q, Nat.le_refl _⟩, hd σ H p⟩
theorem pe_callN0 {X : Cx} {CX : CXT} {k : Nat} {f : Addr} {fd : FuncData} {ps ks : List Str} {sp : Sp} {E : XK} {x : Str} {p pos : Pos} {kws : List Keyword} {tk : TA} {g : List Value → List Value → List Value} {gV : List V → List V → List V}
    (F : FnOk X.prog X.w X.K X.mg X.base CX k f fd ps sp) (hr : Room k X.A) (hg : Gl X x) (hm : X.mg x = some (.ref f)) (hk : PySem.W.keepIn X.K (.ref f) = true) (hb : KBn X.K fd ps 0 ks g gV) (hx : Passes CX X E) (hkw : PK X kws tk)
    (hall : (backToKw pos (keywordEach kws X.env)).all (·.1.isSome) = true := by rfl) (hks : (backToKw pos (keywordEach kws X.env)).filterMap (·.1) = ks := by rfl) (hdb : (x == ("__debug__" : Str)) = false := by decide)
    (hpl : ((backTo pos (starEach [] X.env)).any (·.1) || (backToKw pos (keywordEach kws X.env)).any (·.1.isNone)) = false := by rfl) :
    PE X (.Call (.Name x p) [] kws pos) (tCallN 0 ks.length sp gV E tNil tk) := by
  refine ⟨fun pins s σ H Q I h => ?_⟩
  refine wpAny_Call_Name_kw (ld_glob I hg hm ?_ hdb)
  refine PySem.W.callWith_KW0 (h₀ := X.base) I.ok.mod.kin hk hall ?_ hpl
  refine thn (hkw.run pos pins s σ H _ I h) fun ws s2 ⟨zs, H2, I2, rz, l1, l2, q2⟩ => ⟨I2.kIn, ?_⟩
  rw [hks]
  exact run_fnN F hr hb hx I2 .nil rz rfl l2 q2
section
variable {X : Cx} {C : Addr} {k : Nat} {f : Addr} {ps : List Str} {sp : Sp}
theorem Met.op_in (c : Met X.prog X.w X.K X.mg X.base C "__contains__" k f ps sp) (hr : Room k X.A) : OpR X (compareOp .In) (rOwnIn C sp E0 _root_.id) := by
  obtain ⟨fd, F, b⟩ := c.ex
  exact op_own_in F hr c.me.at_ c.me.fn b pass0
theorem Met.op_notin (c : Met X.prog X.w X.K X.mg X.base C "__contains__" k f ps sp) (hr : Room k X.A) : OpR X (compareOp .NotIn) (rOwnIn C sp E0 Bool.not) := by
  obtain ⟨fd, F, b⟩ := c.ex
  exact op_own_notin F hr c.me.at_ c.me.fn b pass0
theorem Met.c_len (c : Met X.prog X.w X.K X.mg X.base C "__len__" k f ps sp) (hr : Room (k + 1) X.A) : CallR X (.builtin "len") (rOwnLen C sp E0) := by
  obtain ⟨fd, F, b⟩ := c.ex
  exact call_own_len F hr c.me.at_ c.me.fn b pass0
theorem Met.op_add (c : Met X.prog X.w X.K X.mg X.base C "__add__" k f ps sp) (hr : Room k X.A) (hc : PySem.W.selfFirst X.K C = true) : OpR X (binaryOp .Add) (rOwnAdd C sp E0) := by
  obtain ⟨fd, F, b⟩ := c.ex
  exact op_own_add F hr hc c.me.at_ c.me.fn b pass0
theorem Met.op_eq (c : Met X.prog X.w X.K X.mg X.base C "__eq__" k f ps sp) (hr : Room k X.A) : OpR X (compareOp .Eq) (rOwnEq C sp E0 _root_.id) := by
  obtain ⟨fd, F, b⟩ := c.ex
  exact op_own_eq F hr c.me.at_ c.me.fn b pass0
theorem Met.op_ne (c : Met X.prog X.w X.K X.mg X.base C "__eq__" k f ps sp) (hr : Room (k + 1) X.A) (hm : PySem.W.mroIn X.K C (.type "object") = some true) (hne : PySem.W.findIn X.K (.ref C) "__ne__" = some (some (.builtin "object.__ne__"))) : OpR X (compareOp .NotEq) (rOwnEq C sp E0 Bool.not) := by
  obtain ⟨fd, F, b⟩ := c.ex
  exact op_own_ne F hr hm hne c.me.at_ c.me.fn b pass0
theorem Met.p_ix {a b : Expr} {ta tb : TE} {pos : Pos} (c : Met X.prog X.w X.K X.mg X.base C "__getitem__" k f ps sp) (hr : Room (k + 1) X.A) (ha : PE X a ta) (hb' : PE X b tb) (hsl : ∀ o i, subscripted b true o i = runValue (.builtin "lifetime.subscript" ⟨[o, i], []⟩) := by exact fun _ _ => rfl) :
    PE X (.Subscript a b pos) (tOp (rOwnIx C sp E0) ta tb) := by
  obtain ⟨fd, F, bb⟩ := c.ex
  exact pe_own_ix F hr c.me.at_ c.fk c.me.fn bb pass0 ha hb' hsl
end
theorem Met.p_m0 {X : Cx} {C : Addr} {k : Nat} {f : Addr} {ps : List Str} {sp : Sp} {m : Str} {o : Expr} {ta : TE} {apos pos : Pos} {pl : Sem Bool} (c : Met X.prog X.w X.K X.mg X.base C m k f ps sp) (cl : Cls X.K C) (hr : Room k X.A) (he : PE X o ta)
    (ht : eval (.Call (.Attribute o m apos) [] [] pos) X.env = (do
      let ov ← eval o X.env
      standAt apos.atName
      let (f, first) ← holding [ov] (getMethod ov m pl)
      callWith pos f first (backTo pos (starEach [] X.env)) (backToKw pos (keywordEach [] X.env))) := by rfl) :
    PE X (.Call (.Attribute o m apos) [] [] pos) (tMeth C m sp [] E0 ta tNil) := by
  obtain ⟨fd, F, b⟩ := c.ex
  exact pe_meth0 he cl c.me F hr b .nil pass0 ht
/-! ### a class of the text -/
structure CF (K : PySem.W.Frag) (C : Addr) : Prop where
  cl : Cls K C
  cls : PySem.W.isClsIn K C = true
  ty : PySem.W.typeIn K (.ref C) = some (.type "type")
  oc : PySem.W.findIn K (.ref C) "__class__" = some (some (.builtin "object.__class__"))
  og : PySem.W.specialIn K (.builtin "object.__class__") "__get__" = some (some (.builtin "getset_descriptor.__get__"))
  ot : PySem.W.takesIn K (.builtin "object.__class__") = some true
  om : PySem.W.mroIn K C (.type "object") = some true
  sf : PySem.W.selfFirst K C = true
  ne : PySem.W.findIn K (.ref C) "__ne__" = some (some (.builtin "object.__ne__"))
theorem CF.kitT {K : PySem.W.Frag} {C : Addr} (M : CF K C) {H : Hp} {v : V} {n : String} (h : Kd H v n) : PySem.W.kitOne K (.type n) (.ref C) = some false := by
  have e1 : ((PySem.W.clsIn K C).isSome && PySem.W.typeIn K (.ref C) == some (.type "type")) = true := by
    have h2 : (PySem.W.clsIn K C).isSome = true := M.cls
    rw [h2, M.ty] <;> rfl
  have e2 : PySem.W.subIn K (.type n) (.ref C) = some false := by
    cases h with
    | non => exact sub_ty (l := ["NoneType", "object"]) (by decide +kernel)
    | bl _ => exact sub_ty (l := ["bool", "int", "object"]) (by decide +kernel)
    | int _ => exact sub_ty (l := ["int", "object"]) (by decide +kernel)
    | str _ => exact sub_ty (l := ["str", "object"]) (by decide +kernel)
    | lst _ => exact sub_ty (l := ["list", "object"]) (by decide +kernel)
    | tup _ => exact sub_ty (l := ["tuple", "object"]) (by decide +kernel)
    | dK _ => exact sub_ty (l := ["dict", "object"]) (by decide +kernel)
  show (if (Value.type n == Value.ref C) = true then some true else PySem.W.kitCls K (.type n) (.ref C)) = some false
  rw [if_neg (by intro z; cases z)]
  show (if ((PySem.W.clsIn K C).isSome && PySem.W.typeIn K (.ref C) == some (.type "type")) = true then PySem.W.subIn K (.type n) (.ref C) else none) = some false
  rw [if_pos e1, e2]
theorem CF.tyR {K : PySem.W.Frag} {C : Addr} (M : CF K C) {H : Hp} {p dx : Addr} {fs : List (Str × V)} (h : H p = some (.ins C dx fs)) : TyX K H (.ref p) (.ref C) := .base (.ins h M.cl M.oc M.og M.ot M.om)
theorem vals_rev {vs : List V} {us : List Value} (r : Vals vs us) : Vals vs.reverse us.reverse := by
  induction r with
  | nil => exact .nil
  | cons h t ih =>
    rw [List.reverse_cons, List.reverse_cons]
    exact ih.append (.cons h .nil)
/-- f(c = .., b = .., a = ..) of a def f(a, b, c) -/
theorem pe_kr {X : Cx} {k : Nat} {f : Addr} {sp : Sp} {x : Str} {ps : List Str} {st : Stmt} {kws : List Keyword} {tk : TA} {p pos : Pos} (D : Dfn X.K X.mg x st f ps) (h : ∀ fd, Fun X.K x x st f fd → FnOk X.prog X.w X.K X.mg X.base CX0 k f fd ps sp)
    (hbind : ∀ (kV doc pm : Value) (an : Option Addr) (cdv ct : Value) (us : List Value), us.length = ps.reverse.length → bindArgs (PySem.W.fnOf x x (defArgs st) (defBody st) (defScope st) .none kV doc pm an cdv ct) ⟨[], ps.reverse.zip us⟩ = pure (ps.zip us.reverse))
    (hr : Room k X.A) (hg : Gl X x) (hkw : PK X kws tk) (hall : (backToKw pos (keywordEach kws X.env)).all (·.1.isSome) = true := by rfl) (hks : (backToKw pos (keywordEach kws X.env)).filterMap (·.1) = ps.reverse := by rfl) (hdb : (x == ("__debug__" : Str)) = false := by decide)
    (hpl : ((backTo pos (starEach [] X.env)).any (·.1) || (backToKw pos (keywordEach kws X.env)).any (·.1.isNone)) = false := by rfl) :
    PE X (.Call (.Name x p) [] kws pos) (tCallN 0 ps.reverse.length sp (fun us ws => us ++ ws.reverse) E0 tNil tk) := by
  obtain ⟨fd, F, _⟩ := D.ex
  have hb : KBn X.K fd ps 0 ps.reverse (fun us ws => us ++ ws.reverse) (fun us ws => us ++ ws.reverse) := by
    refine ⟨fun s us ws hX h1 h2 => ?_, fun r1 r2 => r1.append (vals_rev r2)⟩
    obtain ⟨oc, od, kV, doc, pm, an, cdv, ct, osl, rfl, lk, hcd⟩ := F.ex
    match us, h1 with
    | [], _ => exact .of_eq (hbind kV doc pm an cdv ct ws h2)
  exact pe_callN0 (h fd F) hr hg D.g F.kp hb pass0 hkw hall hks hdb hpl
/-- where the defs and classes of the text stand -/
structure LA where
  f__wall : Addr
  f_is_integer : Addr
  f_is_at_least : Addr
  f_steps_to : Addr
  f_count_below : Addr
  f_is_train : Addr
  f_last_time : Addr
  f_times_before : Addr
  f_part_of : Addr
  f_joined : Addr
  f_normal_form : Addr
  f_with_plain_step : Addr
  f_counts_ahead : Addr
  f_total_count : Addr
  f_check_trains : Addr
  f_is_behind : Addr
  f_trains_of : Addr
  f_count_before : Addr
  f__law_cell_at : Addr
  f__law_source_of : Addr
  f__law_draw : Addr
  f__law_choice : Addr
  f__law_rows : Addr
  f__law_told : Addr
  f__law_odd : Addr
  c_Trains : Addr
  i_Trains : Addr
  m_Trains_train_list : Addr
  m_Trains_len : Addr
  m_Trains_contains : Addr
  m_Trains_getitem : Addr
  m_Trains_add : Addr
  m_Trains_eq : Addr
  e_BreakerError : Addr
  e_InvalidTime : Addr
  e_InvalidTrains : Addr
  e_InvalidIndex : Addr
  e_InvalidBound : Addr
  e_LimitExceeded : Addr
  i_InvalidTrains : Addr
/-- what the text says of them -/
structure LX (K : PySem.W.Frag) (mg : Str → Option Value) (L : LA) : Prop where
  b_ArithmeticError : mg "ArithmeticError" = none
  b_bool : mg "bool" = none
  b_enumerate : mg "enumerate" = none
  b_int : mg "int" = none
  b_isinstance : mg "isinstance" = none
  b_len : mg "len" = none
  b_list : mg "list" = none
  b_max : mg "max" = none
  b_min : mg "min" = none
  b_range : mg "range" = none
  b_repr : mg "repr" = none
  b_sum : mg "sum" = none
  b_tuple : mg "tuple" = none
  n_MOST_TRAINS : ∃ t, mg "MOST_TRAINS" = some (.int 1000 t)
  d__wall : Dfn K mg "_wall" st__wall L.f__wall ["k"]
  d_is_integer : Dfn K mg "is_integer" st_is_integer L.f_is_integer ["value"]
  d_is_at_least : Dfn K mg "is_at_least" st_is_at_least L.f_is_at_least ["value", "least"]
  d_steps_to : Dfn K mg "steps_to" st_steps_to L.f_steps_to ["distance", "step"]
  d_count_below : Dfn K mg "count_below" st_count_below L.f_count_below ["numbers", "bound"]
  d_is_train : Dfn K mg "is_train" st_is_train L.f_is_train ["value"]
  d_last_time : Dfn K mg "last_time" st_last_time L.f_last_time ["train"]
  d_times_before : Dfn K mg "times_before" st_times_before L.f_times_before ["train", "time"]
  d_part_of : Dfn K mg "part_of" st_part_of L.f_part_of ["train", "low", "high"]
  d_joined : Dfn K mg "joined" st_joined L.f_joined ["train", "following"]
  d_normal_form : Dfn K mg "normal_form" st_normal_form L.f_normal_form ["trains"]
  d_with_plain_step : Dfn K mg "with_plain_step" st_with_plain_step L.f_with_plain_step ["train"]
  d_counts_ahead : Dfn K mg "counts_ahead" st_counts_ahead L.f_counts_ahead ["trains"]
  d_total_count : Dfn K mg "total_count" st_total_count L.f_total_count ["trains"]
  d_check_trains : Dfn K mg "check_trains" st_check_trains L.f_check_trains ["trains"]
  d_is_behind : Dfn K mg "is_behind" st_is_behind L.f_is_behind ["one", "other"]
  d_trains_of : Dfn K mg "trains_of" st_trains_of L.f_trains_of ["runs"]
  d_count_before : Dfn K mg "count_before" st_count_before L.f_count_before ["trains", "time"]
  d__law_cell_at : Dfn K mg "_law_cell_at" st__law_cell_at L.f__law_cell_at ["_law_script", "_law_place"]
  d__law_source_of : Dfn K mg "_law_source_of" st__law_source_of L.f__law_source_of ["_law_cell"]
  d__law_draw : Dfn K mg "_law_draw" st__law_draw L.f__law_draw ["_law_source", "_law_bound"]
  d__law_choice : Dfn K mg "_law_choice" st__law_choice L.f__law_choice ["_law_source", "_law_options"]
  d__law_rows : Dfn K mg "_law_rows" st__law_rows L.f__law_rows ["_law_source", "_law_far", "_law_most"]
  d__law_told : Dfn K mg "_law_told" st__law_told L.f__law_told ["_law_value"]
  d__law_odd : Dfn K mg "_law_odd" st__law_odd L.f__law_odd ["_law_source", "_law_early"]
  gc_Trains : mg "Trains" = some (.ref L.c_Trains)
  cf_Trains : CF K L.c_Trains
  mk_Trains : Mk K L.c_Trains L.i_Trains
  nf_Trains_runs : NoAttr K L.c_Trains "runs"
  nf_Trains_firsts : NoAttr K L.c_Trains "firsts"
  nf_Trains_ahead : NoAttr K L.c_Trains "ahead"
  nf_Trains_total : NoAttr K L.c_Trains "total"
  in_Trains : ∃ fd, Fun K "__init__" "Trains.__init__" st_Trains_init L.i_Trains fd ∧ Binds K fd ["self", "trains"] []
  mm_Trains_train_list : Mth K L.c_Trains "train_list" "Trains.train_list" st_Trains_train_list L.m_Trains_train_list ["self"]
  mm_Trains_len : Mth K L.c_Trains "__len__" "Trains.__len__" st_Trains_len L.m_Trains_len ["self"]
  mm_Trains_contains : Mth K L.c_Trains "__contains__" "Trains.__contains__" st_Trains_contains L.m_Trains_contains ["self", "x"]
  mm_Trains_getitem : Mth K L.c_Trains "__getitem__" "Trains.__getitem__" st_Trains_getitem L.m_Trains_getitem ["self", "at"]
  mm_Trains_add : Mth K L.c_Trains "__add__" "Trains.__add__" st_Trains_add L.m_Trains_add ["self", "other"]
  mm_Trains_eq : Mth K L.c_Trains "__eq__" "Trains.__eq__" st_Trains_eq L.m_Trains_eq ["self", "other"]
  ge_BreakerError : mg "BreakerError" = some (.ref L.e_BreakerError)
  xe_BreakerError : L2.XfC K L.e_BreakerError
  te_BreakerError : PySem.W.typeIn K (.ref L.e_BreakerError) = some (.type "type")
  ge_InvalidTime : mg "InvalidTime" = some (.ref L.e_InvalidTime)
  xe_InvalidTime : L2.XfC K L.e_InvalidTime
  te_InvalidTime : PySem.W.typeIn K (.ref L.e_InvalidTime) = some (.type "type")
  ge_InvalidTrains : mg "InvalidTrains" = some (.ref L.e_InvalidTrains)
  xe_InvalidTrains : L2.XfC K L.e_InvalidTrains
  te_InvalidTrains : PySem.W.typeIn K (.ref L.e_InvalidTrains) = some (.type "type")
  ge_InvalidIndex : mg "InvalidIndex" = some (.ref L.e_InvalidIndex)
  xe_InvalidIndex : L2.XfC K L.e_InvalidIndex
  te_InvalidIndex : PySem.W.typeIn K (.ref L.e_InvalidIndex) = some (.type "type")
  ge_InvalidBound : mg "InvalidBound" = some (.ref L.e_InvalidBound)
  xe_InvalidBound : L2.XfC K L.e_InvalidBound
  te_InvalidBound : PySem.W.typeIn K (.ref L.e_InvalidBound) = some (.type "type")
  ge_LimitExceeded : mg "LimitExceeded" = some (.ref L.e_LimitExceeded)
  xe_LimitExceeded : L2.XfC K L.e_LimitExceeded
  te_LimitExceeded : PySem.W.typeIn K (.ref L.e_LimitExceeded) = some (.type "type")
  ae_InvalidTrains : AeC K L.e_InvalidTrains
  hi_InvalidTrains : PySem.W.findIn K (.ref L.e_InvalidTrains) "__init__" = some (some (.ref L.i_InvalidTrains))
  ti_InvalidTrains : PySem.W.typeIn K (.ref L.i_InvalidTrains) = some (.type "function")
  in_InvalidTrains : ∃ fd, Fun K "__init__" "InvalidTrains.__init__" st_InvalidTrains_init L.i_InvalidTrains fd ∧ Binds K fd ["self", "at"] []
  ne_InvalidTrains_time : PySem.W.findIn K (.ref L.e_InvalidTrains) "time" = some none
  ne_InvalidTrains_at : PySem.W.findIn K (.ref L.e_InvalidTrains) "at" = some none
  ne_InvalidTrains_index : PySem.W.findIn K (.ref L.e_InvalidTrains) "index" = some none
  ne_InvalidTrains_part : PySem.W.findIn K (.ref L.e_InvalidTrains) "part" = some none
  ne_InvalidTrains_limit : PySem.W.findIn K (.ref L.e_InvalidTrains) "limit" = some none
  is_InvalidTrains : IsC K L.e_InvalidTrains
  se_InvalidTrains_BreakerError : PySem.W.subIn K (.ref L.e_InvalidTrains) (.ref L.e_BreakerError) = some true
  se_InvalidTrains_InvalidTime : PySem.W.subIn K (.ref L.e_InvalidTrains) (.ref L.e_InvalidTime) = some false
  se_InvalidTrains_InvalidTrains : PySem.W.subIn K (.ref L.e_InvalidTrains) (.ref L.e_InvalidTrains) = some true
  se_InvalidTrains_InvalidIndex : PySem.W.subIn K (.ref L.e_InvalidTrains) (.ref L.e_InvalidIndex) = some false
  se_InvalidTrains_InvalidBound : PySem.W.subIn K (.ref L.e_InvalidTrains) (.ref L.e_InvalidBound) = some false
  se_InvalidTrains_LimitExceeded : PySem.W.subIn K (.ref L.e_InvalidTrains) (.ref L.e_LimitExceeded) = some false
  sa_InvalidTrains : PySem.W.subIn K (.ref L.e_InvalidTrains) (.type "ArithmeticError") = some true

/-- a comprehension over zip of two lists -/
theorem lc_zip {K : PySem.W.Frag} {a b : Addr} {xs ys : List V} {g : TG} {tt : TT} {te : TE} {vs : List Nat} {σ : L2.St} {H1 : Hp} {D : Addr} {Qd : Hp → Prop} (hlen : ys.length ≤ xs.length) (Pv : Nat → Hp → Prop) (h0 : Pv 0 (upd H1 D (.lst []))) (hl : ∀ i H, Pv i H → SqL K H a xs ∧ SqL K H b ys)
    (hs : ∀ (i : Nat) (x y : V) (T : Addr) (H : Hp), xs[i]? = some x → ys[i]? = some y → Pv i H → H T = none → g (.ref T) (wipe σ vs) (upd H T (.tup [x, y])) fun σ2 H2 => wipe σ2 vs = wipe σ vs ∧ tt σ2 H2 fun b H3 =>
      if b = true then te σ2 H3 fun y H4 => ∃ acc, H4 D = some (.lst acc) ∧ acc.length < sizeLine ∧ Pv (i + 1) (upd H4 D (.lst (acc ++ [y]))) else Pv (i + 1) H3) (hd : ∀ H, Pv ys.length H → Qd H) :
    ∃ W : Nat → Nat → Hp → Prop, (∃ m, W 0 m (upd H1 D (.lst []))) ∧ ∀ i m H, W i m H → ((Itz K a b).stop i H ∧ Qd H) ∨ ((Itz K a b).go i H ∧ ∃ Nx : Hp → Prop, (∀ H', Nx H' → ∃ m', m' < m ∧ W (i + 1) m' H') ∧ ∀ x H', (Itz K a b).yld i H x H' → g x (wipe σ vs) H' fun σ2 H2 => wipe σ2 vs = wipe σ vs ∧ tt σ2 H2 fun b H3 =>
        if b = true then te σ2 H3 fun y H4 => ∃ acc, H4 D = some (.lst acc) ∧ acc.length < sizeLine ∧ Nx (upd H4 D (.lst (acc ++ [y]))) else Nx H3) := by
  refine ⟨fun i m H => m = ys.length - i ∧ i ≤ ys.length ∧ Pv i H, ⟨ys.length, by omega, Nat.zero_le _, h0⟩, ?_⟩
  rintro i m H ⟨rfl, hi, p⟩
  obtain ⟨qx, qy⟩ := hl i H p
  by_cases hlt : i < ys.length
  · have hx : xs[i]? = some xs[i] := List.getElem?_eq_getElem (by omega)
    have hy : ys[i]? = some ys[i] := List.getElem?_eq_getElem hlt
    refine .inr ⟨⟨xs, ys, _, _, qx, qy, hx, hy⟩, Pv (i + 1), fun H' p' => ⟨ys.length - (i + 1), by omega, rfl, hlt, p'⟩, fun v H' y => ?_⟩
    obtain ⟨T, x', y', rfl, hT, rfl, f1, f2⟩ := y
    exact hs i x' y' T H (f1 xs qx) (f2 ys qy) p hT
  · have e : i = ys.length := by omega
    subst e
    exact .inl ⟨⟨xs, ys, qx, qy, .inr (Nat.le_refl _)⟩, hd H p⟩
/-- an attribute inside a comprehension -/
theorem pe_fldK {X : Cx} {K : PySem.W.Frag} {e : Expr} {f : Str} {pos : Pos} {ta : TE} (hK : X.K = K) (he : PE X e ta) (hb : attributeBase e f X.env (eval e X.env) = eval e X.env) : PE X (.Attribute e f pos) (tFld K ta f) := by
  subst hK
  exact pe_fld he hb
theorem putF_len (f : Str) (v : V) (fs : List (Str × V)) {n : Nat} (h : fs.length ≤ n) : (putF f v fs).length ≤ n + 1 := Nat.le_trans (length_putF f v fs) (Nat.succ_le_succ h)
def spRup : Sp := fun vs H Q _ => ∃ v u : Int, vs = [.int v, .int u] ∧ 0 < u ∧ u.natAbs.log2 < 9000 ∧ CMulW (stepsUp v u) u ∧ Q (.int (stepsUp v u * u)) H
/-! ### the small defs -/
section
variable {P : Program} {w : World} {K : PySem.W.Frag} {mg : Str → Option Value} {base : Heap} {L : LA}
abbrev N_isinteger : List Str := ["value"]
theorem sc_isinteger : FnScope N_isinteger ["value"] (defScope st_is_integer) := ⟨rfl, rfl, rfl, by decide +kernel, rfl, by decide +kernel, by decide +kernel⟩
theorem fn_isinteger (T : LX K mg L) {fd : FuncData} (F : Fun K "is_integer" "is_integer" st_is_integer L.f_is_integer fd) : FnOk P w K mg base CX0 1 L.f_is_integer fd ["value"] (spIsInt) := by
  have nd := sc_isinteger.nd
  refine F.ok sc_isinteger (fun vs H Q E h => ?_) (fun cdv A outer S H vs Q E hr h => ?_)
  · obtain ⟨v, n, rfl, _⟩ := h
    rfl
  · obtain ⟨v, n, rfl, hv, k⟩ := h
    refine ⟨_, (pss_one (ps_ret (pe_and (pe_callB call_isi (by rfl) T.b_isinstance (by decide +kernel) (pa_cons (pv 0) (pa_cons (pe_bltn (by rfl) T.b_int (by decide +kernel : bootBuiltins "int" = some (.type "int")) (v := .ty "int") rfl) pa_nil))) (pe_one (pe_not (pe_callB call_isi (by rfl) T.b_isinstance (by decide +kernel) (pa_cons (pv 0) (pa_cons (pe_bltn (by rfl) T.b_bool (by decide +kernel : bootBuiltins "bool" = some (.type "bool")) (v := .ty "bool") rfl) pa_nil)))))))), ?_⟩
    refine ⟨_, rfl, v, .ty "int", _, _, _, rfl, .ty "int", hv.ty, hv.kit "int" _ (.inl ⟨rfl, rfl⟩), _, rfl, ?_⟩
    refine ite2 (fun c => ?_) (fun c => ?_)
    · refine ⟨_, rfl, v, .ty "bool", _, _, _, rfl, .ty "bool", hv.ty, hv.kit "bool" _ (.inr ⟨by decide, by decide, rfl⟩), _, rfl, ?_⟩
      cases hv <;> first | exact k | (exact absurd c (by decide))
    · cases hv <;> first | exact k | (exact absurd (by decide) c)
theorem ok_isinteger (T : LX K mg L) : Cal P w K mg base "is_integer" 1 L.f_is_integer ["value"] (spIsInt) := T.d_is_integer.cal fun fd F => fn_isinteger T F
abbrev N_isatleast : List Str := ["value", "least"]
theorem sc_isatleast : FnScope N_isatleast ["value", "least"] (defScope st_is_at_least) := ⟨rfl, rfl, rfl, by decide +kernel, rfl, by decide +kernel, by decide +kernel⟩
theorem fn_isatleast (T : LX K mg L) {fd : FuncData} (F : Fun K "is_at_least" "is_at_least" st_is_at_least L.f_is_at_least fd) : FnOk P w K mg base CX0 2 L.f_is_at_least fd ["value", "least"] (spAtL) := by
  have G_isinteger := ok_isinteger (P := P) (w := w) (base := base) T
  have nd := sc_isatleast.nd
  refine F.ok sc_isatleast (fun vs H Q E h => ?_) (fun cdv A outer S H vs Q E hr h => ?_)
  · obtain ⟨v, n, l, rfl, _⟩ := h
    rfl
  · obtain ⟨v, n, l, rfl, hv, k⟩ := h
    refine ⟨_, (pss_one (ps_ret (pe_and (pe_c G_isinteger (hr.mono (by decide)) rfl (pa_cons (pv 0) pa_nil)) (pe_one (pe_cmpR op_ge (pv 0) (pv 1) (nomark _)))))), ?_⟩
    refine ⟨_, rfl, v, n, rfl, hv, _, rfl, ?_⟩
    cases v with
    | int i => exact iteT ⟨_, rfl, _, rfl, _, _, rfl, rfl, k⟩
    | _ => exact iteF k
theorem ok_isatleast (T : LX K mg L) : Cal P w K mg base "is_at_least" 2 L.f_is_at_least ["value", "least"] (spAtL) := T.d_is_at_least.cal fun fd F => fn_isatleast T F
abbrev N_stepsto : List Str := ["distance", "step"]
theorem sc_stepsto : FnScope N_stepsto ["distance", "step"] (defScope st_steps_to) := ⟨rfl, rfl, rfl, by decide +kernel, rfl, by decide +kernel, by decide +kernel⟩
theorem fn_stepsto (T : LX K mg L) {fd : FuncData} (F : Fun K "steps_to" "steps_to" st_steps_to L.f_steps_to fd) : FnOk P w K mg base CX0 1 L.f_steps_to fd ["distance", "step"] (spSteps) := by
  have nd := sc_stepsto.nd
  refine F.ok sc_stepsto (fun vs H Q E h => ?_) (fun cdv A outer S H vs Q E hr h => ?_)
  · obtain ⟨d, st, rfl, _⟩ := h
    rfl
  · obtain ⟨d, st, rfl, h0, h1, k⟩ := h
    refine ⟨_, (pss_one (ps_ret (pe_callB (call_max2 rfl) (by rfl) T.b_max (by decide +kernel) (pa_cons pe_int (pa_cons (pe_un un_neg (pe_op op_fdivW (pe_un un_neg (pv 0)) (pv 1))) pa_nil))))), ?_⟩
    exact ⟨_, rfl, _, rfl, _, rfl, _, _, rfl, rfl, ⟨h0, h1⟩, _, rfl, _, _, rfl, k⟩
theorem ok_stepsto (T : LX K mg L) : Cal P w K mg base "steps_to" 1 L.f_steps_to ["distance", "step"] (spSteps) := T.d_steps_to.cal fun fd F => fn_stepsto T F
end
/-! ### trains as data -/
abbrev Trn := Int × Int × Option Int
def OkTr (t : Trn) : Prop := 0 ≤ t.1 ∧ 1 ≤ t.2.1 ∧ ∀ c, t.2.2 = some c → 1 ≤ c
/-- all times of the first are before the second -/
def Lt (t u : Trn) : Prop := ∃ c, t.2.2 = some c ∧ t.1 + (c - 1) * t.2.1 < u.1
def Srt (ts : List Trn) : Prop := (∀ t ∈ ts, OkTr t) ∧ ts.Pairwise Lt
def minO (n : Int) : Option Int → Int
  | none => n
  | some c => if c < n then c else n
/-- how many times of a train are before x -/
def nbT (t : Trn) (x : Int) : Int := minO (stepsUp (x - t.1) t.2.1) t.2.2
def NB : List Trn → Int → Int
  | [], _ => 0
  | t :: ts, x => nbT t x + NB ts x
def At : List Trn → Int → Option Int
  | [], _ => none
  | t :: ts, i => match t.2.2 with
    | none => some (t.1 + i * t.2.1)
    | some c => if i < c then some (t.1 + i * t.2.1) else At ts (i - c)
def addO (c : Int) : Option Int → Option Int
  | none => none
  | some n => some (c + n)
def Tot : List Trn → Option Int
  | [] => some 0
  | t :: ts => match t.2.2 with
    | none => none
    | some c => addO c (Tot ts)
/-- d / s, rounded up -/
def cl (d s : Int) : Int := -(-d / s)
theorem stepsUp_cl (d s : Int) : stepsUp d s = if cl d s > 0 then cl d s else 0 := rfl
theorem cl_sub (d s c : Int) (hs : 0 < s) : cl (d - c * s) s = cl d s - c := by
  unfold cl
  have e : -(d - c * s) = -d + c * s := by omega
  rw [e, Int.add_mul_ediv_right _ _ (show s ≠ 0 by omega)]
  omega
theorem cl_le {d s n : Int} (hs : 0 < s) : cl d s ≤ n ↔ d ≤ n * s := by
  unfold cl
  have h : -n ≤ -d / s ↔ -n * s ≤ -d := Int.le_ediv_iff_mul_le hs
  rw [Int.neg_mul] at h
  omega
theorem cl_gt {d s n : Int} (hs : 0 < s) : n < cl d s ↔ n * s < d := by
  have h := cl_le (d := d) (s := s) (n := n) hs
  omega
def subO (k : Option Int) (c : Int) : Option Int := match k with
  | none => none
  | some n => some (n - c)
/-- a train is its first c times, and the others -/
theorem nbT_split {s p c : Int} {k : Option Int} (hp : 0 < p) (hc : 0 ≤ c) (hk : ∀ n, k = some n → c ≤ n) (x : Int) : nbT (s, p, k) x = nbT (s, p, some c) x + nbT (s + c * p, p, subO k c) x := by
  have e : x - (s + c * p) = x - s - c * p := by omega
  show minO (stepsUp (x - s) p) k = minO (stepsUp (x - s) p) (some c) + minO (stepsUp (x - (s + c * p)) p) (subO k c)
  rw [e, stepsUp_cl, stepsUp_cl, cl_sub _ _ _ hp]
  cases k with
  | none =>
    show (if cl (x - s) p > 0 then cl (x - s) p else 0) = (if c < (if cl (x - s) p > 0 then cl (x - s) p else 0) then c else (if cl (x - s) p > 0 then cl (x - s) p else 0)) + (if cl (x - s) p - c > 0 then cl (x - s) p - c else 0)
    split <;> split <;> split <;> omega
  | some n =>
    have := hk n rfl
    show (if n < (if cl (x - s) p > 0 then cl (x - s) p else 0) then n else (if cl (x - s) p > 0 then cl (x - s) p else 0)) = (if c < (if cl (x - s) p > 0 then cl (x - s) p else 0) then c else (if cl (x - s) p > 0 then cl (x - s) p else 0)) + (if n - c < (if cl (x - s) p - c > 0 then cl (x - s) p - c else 0) then n - c else (if cl (x - s) p - c > 0 then cl (x - s) p - c else 0))
    split <;> split <;> split <;> split <;> (try split) <;> omega
/-- the step of a single time is nothing -/
theorem nbT_one {s p q : Int} (hp : 0 < p) (hq : 0 < q) (x : Int) : nbT (s, p, some 1) x = nbT (s, q, some 1) x := by
  have one : ∀ p : Int, 0 < p → nbT (s, p, some 1) x = if s < x then 1 else 0 := fun p hp => by
    show (if (1 : Int) < (if cl (x - s) p > 0 then cl (x - s) p else 0) then (1 : Int) else (if cl (x - s) p > 0 then cl (x - s) p else 0)) = _
    have h0 : 0 < cl (x - s) p ↔ 0 * p < x - s := cl_gt hp
    rw [Int.zero_mul] at h0
    split <;> split <;> split <;> omega
  rw [one p hp, one q hq]
theorem NB_app : ∀ (ts us : List Trn) (x : Int), NB (ts ++ us) x = NB ts x + NB us x
  | [], us, x => by show NB us x = 0 + NB us x; omega
  | t :: ts, us, x => by
    show nbT t x + NB (ts ++ us) x = nbT t x + NB ts x + NB us x
    rw [NB_app ts us x]
    omega
theorem addO_addO (a b : Int) (k : Option Int) : addO a (addO b k) = addO (a + b) k := by
  cases k with
  | none => rfl
  | some n => show some (a + (b + n)) = some (a + b + n); rw [Int.add_assoc]
theorem nbT_nn {t : Trn} (h : OkTr t) (x : Int) : 0 ≤ nbT t x := by
  obtain ⟨s, p, k⟩ := t
  show 0 ≤ minO (stepsUp (x - s) p) k
  rw [stepsUp_cl]
  cases k with
  | none => show 0 ≤ if cl (x - s) p > 0 then cl (x - s) p else 0; split <;> omega
  | some c =>
    have := h.2.2 c rfl
    show 0 ≤ if c < (if cl (x - s) p > 0 then cl (x - s) p else 0) then c else (if cl (x - s) p > 0 then cl (x - s) p else 0)
    split <;> (try split) <;> omega
theorem nbT_zero {t : Trn} (h : OkTr t) {x : Int} (hx : x ≤ t.1) : nbT t x = 0 := by
  obtain ⟨s, p, k⟩ := t
  have hp : 0 < p := by
    have h2 : 1 ≤ p := h.2.1
    omega
  have h1 : cl (x - s) p ≤ 0 := (cl_le hp).mpr (by
    have h2 : x ≤ s := hx
    omega)
  show minO (stepsUp (x - s) p) k = 0
  rw [stepsUp_cl, if_neg (by omega)]
  cases k with
  | none => rfl
  | some c =>
    have := h.2.2 c rfl
    show (if c < 0 then c else 0) = 0
    rw [if_neg (by omega)]
theorem nbT_all {t : Trn} (h : OkTr t) {x c : Int} (hc : t.2.2 = some c) (hx : t.1 + (c - 1) * t.2.1 < x) : nbT t x = c := by
  obtain ⟨s, p, k⟩ := t
  have hp : 0 < p := by
    have h2 : 1 ≤ p := h.2.1
    omega
  have h0 : k = some c := hc
  subst h0
  have h1 : c - 1 < cl (x - s) p := (cl_gt hp).mpr (by
    have h2 : s + (c - 1) * p < x := hx
    omega)
  have := h.2.2 c rfl
  show (if c < stepsUp (x - s) p then c else stepsUp (x - s) p) = c
  rw [stepsUp_cl]
  split <;> (try split at *) <;> omega
theorem NB_nn {ts : List Trn} (h : ∀ t ∈ ts, OkTr t) (x : Int) : 0 ≤ NB ts x := by
  induction ts with
  | nil => exact Int.le_refl _
  | cons t ts ih =>
    have h1 := nbT_nn (h t (List.mem_cons_self ..)) x
    have h2 := ih fun u hu => h u (List.mem_cons_of_mem _ hu)
    show 0 ≤ nbT t x + NB ts x
    omega
theorem NB_zero {ts : List Trn} (h : ∀ t ∈ ts, OkTr t) {x : Int} (hx : ∀ t ∈ ts, x ≤ t.1) : NB ts x = 0 := by
  induction ts with
  | nil => rfl
  | cons t ts ih =>
    show nbT t x + NB ts x = 0
    rw [nbT_zero (h t (List.mem_cons_self ..)) (hx t (List.mem_cons_self ..)), ih (fun u hu => h u (List.mem_cons_of_mem _ hu)) fun u hu => hx u (List.mem_cons_of_mem _ hu)]
    rfl
theorem Srt.tail {t : Trn} {ts : List Trn} (h : Srt (t :: ts)) : Srt ts := ⟨fun u hu => h.1 u (List.mem_cons_of_mem _ hu), (List.pairwise_cons.mp h.2).2⟩
theorem Srt.head {t : Trn} {ts : List Trn} (h : Srt (t :: ts)) : OkTr t := h.1 t (List.mem_cons_self ..)
theorem Srt.lt {t : Trn} {ts : List Trn} (h : Srt (t :: ts)) : ∀ u ∈ ts, Lt t u := (List.pairwise_cons.mp h.2).1
theorem lt_start {t u : Trn} (h : OkTr t) (l : Lt t u) : t.1 < u.1 := by
  obtain ⟨c, e, q⟩ := l
  have hc := h.2.2 c e
  have : 0 ≤ (c - 1) * t.2.1 := Int.mul_nonneg (by omega) (by have := h.2.1; omega)
  omega
/-! what is before x, and which time is the i-th -/
theorem nbT_le {t : Trn} {x c : Int} (e : t.2.2 = some c) : nbT t x ≤ c := by
  unfold nbT
  rw [e]
  show (if c < stepsUp (x - t.1) t.2.1 then c else stepsUp (x - t.1) t.2.1) ≤ c
  split <;> omega
/-- the times before x are those with an index below nbT -/
theorem nbT_lt {t : Trn} (h : OkTr t) {x i : Int} (i0 : 0 ≤ i) (hi : ∀ c, t.2.2 = some c → i < c) : i < nbT t x ↔ t.1 + i * t.2.1 < x := by
  obtain ⟨s, p, k⟩ := t
  have hp : 0 < p := by
    have h2 : 1 ≤ p := h.2.1
    omega
  have h1 : i < cl (x - s) p ↔ i * p < x - s := cl_gt hp
  have e : (s + i * p < x) ↔ i * p < x - s := by omega
  show i < minO (stepsUp (x - s) p) k ↔ s + i * p < x
  rw [stepsUp_cl, e, ← h1]
  cases k with
  | none =>
    show i < (if cl (x - s) p > 0 then cl (x - s) p else 0) ↔ _
    split <;> omega
  | some c =>
    have := hi c rfl
    show i < (if c < (if cl (x - s) p > 0 then cl (x - s) p else 0) then c else (if cl (x - s) p > 0 then cl (x - s) p else 0)) ↔ _
    split <;> (try split) <;> (try split at *) <;> omega
theorem At_lt : ∀ {ts : List Trn}, Srt ts → ∀ {i y : Int}, 0 ≤ i → At ts i = some y → ∀ x, i < NB ts x ↔ y < x
  | [], _, i, y, _, e, _ => by cases e
  | t :: ts, h, i, y, i0, e, x => by
    have ht := h.head
    have hs := h.tail
    have nn := NB_nn hs.1 x
    cases hk : t.2.2 with
    | none =>
      have e' : At (t :: ts) i = some (t.1 + i * t.2.1) := by
        show (match t.2.2 with | none => some (t.1 + i * t.2.1) | some c => if i < c then some (t.1 + i * t.2.1) else At ts (i - c)) = _
        rw [hk]
      rw [e'] at e
      have ey := Option.some.inj e
      subst ey
      have nt : ts = [] := by
        cases ts with
        | nil => rfl
        | cons u us =>
          obtain ⟨c, hc, _⟩ := h.lt u (List.mem_cons_self ..)
          rw [hk] at hc
          cases hc
      subst nt
      have := nbT_lt ht (x := x) i0 (fun c hc => by rw [hk] at hc; cases hc)
      show i < nbT t x + 0 ↔ _
      rw [Int.add_zero]
      exact this
    | some c =>
      have e' : At (t :: ts) i = if i < c then some (t.1 + i * t.2.1) else At ts (i - c) := by
        show (match t.2.2 with | none => some (t.1 + i * t.2.1) | some c => if i < c then some (t.1 + i * t.2.1) else At ts (i - c)) = _
        rw [hk]
      rw [e'] at e
      show i < nbT t x + NB ts x ↔ y < x
      by_cases hi : i < c
      · rw [if_pos hi] at e
        have ey := Option.some.inj e
        have h1 := nbT_lt ht (x := x) i0 (fun c' hc => by rw [hk] at hc; cases hc; exact hi)
        by_cases hl : t.1 + (c - 1) * t.2.1 < x
        · have h2 := nbT_all ht hk hl
          omega
        · have h3 : NB ts x = 0 := NB_zero hs.1 fun u hu => by
            obtain ⟨c', hc, q⟩ := h.lt u hu
            rw [hk] at hc
            cases hc
            omega
          omega
      · rw [if_neg hi] at e
        have ih := At_lt hs (i := i - c) (by omega) e x
        have h2 := nbT_le (x := x) hk
        by_cases hl : t.1 + (c - 1) * t.2.1 < x
        · have h3 := nbT_all ht hk hl
          omega
        · have h3 : NB ts x = 0 := NB_zero hs.1 fun u hu => by
            obtain ⟨c', hc, q⟩ := h.lt u hu
            rw [hk] at hc
            cases hc
            omega
          omega
theorem tot_nn : ∀ {ts : List Trn}, (∀ t ∈ ts, OkTr t) → ∀ n, Tot ts = some n → 0 ≤ n
  | [], _, n, e => by cases e; exact Int.le_refl _
  | t :: ts, h, n, e => by
    cases hk : t.2.2 with
    | none =>
      have e2 : Tot (t :: ts) = none := by
        show (match t.2.2 with | none => none | some c => addO c (Tot ts)) = _
        rw [hk]
      rw [e2] at e
      cases e
    | some c =>
      have e2 : Tot (t :: ts) = addO c (Tot ts) := by
        show (match t.2.2 with | none => none | some c => addO c (Tot ts)) = _
        rw [hk]
      rw [e2] at e
      cases ht : Tot ts with
      | none => rw [ht] at e; cases e
      | some m =>
        rw [ht] at e
        have z' : c + m = n := Option.some.inj e
        have := tot_nn (fun u hu => h u (List.mem_cons_of_mem _ hu)) m ht
        have := (h t (List.mem_cons_self ..)).2.2 c hk
        omega
theorem At_none : ∀ {ts : List Trn}, (∀ t ∈ ts, OkTr t) → ∀ {i : Int}, 0 ≤ i → (At ts i = none ↔ ∃ n, Tot ts = some n ∧ n ≤ i)
  | [], _, i, i0 => ⟨fun _ => ⟨0, rfl, i0⟩, fun _ => rfl⟩
  | t :: ts, h, i, i0 => by
    cases hk : t.2.2 with
    | none =>
      have e' : At (t :: ts) i = some (t.1 + i * t.2.1) := by
        show (match t.2.2 with | none => some (t.1 + i * t.2.1) | some c => if i < c then some (t.1 + i * t.2.1) else At ts (i - c)) = _
        rw [hk]
      have e2 : Tot (t :: ts) = none := by
        show (match t.2.2 with | none => none | some c => addO c (Tot ts)) = _
        rw [hk]
      rw [e', e2]
      exact ⟨fun z => (by cases z), fun ⟨n, z, _⟩ => (by cases z)⟩
    | some c =>
      have e' : At (t :: ts) i = if i < c then some (t.1 + i * t.2.1) else At ts (i - c) := by
        show (match t.2.2 with | none => some (t.1 + i * t.2.1) | some c => if i < c then some (t.1 + i * t.2.1) else At ts (i - c)) = _
        rw [hk]
      have e2 : Tot (t :: ts) = addO c (Tot ts) := by
        show (match t.2.2 with | none => none | some c => addO c (Tot ts)) = _
        rw [hk]
      have tn : ∀ n, Tot ts = some n → 0 ≤ n := tot_nn fun u hu => h u (List.mem_cons_of_mem _ hu)
      rw [e', e2]
      by_cases hi : i < c
      · rw [if_pos hi]
        refine ⟨fun z => (by cases z), fun ⟨n, z, hn⟩ => ?_⟩
        cases ht : Tot ts with
        | none => rw [ht] at z; cases z
        | some m =>
          rw [ht] at z
          have := tn m ht
          have z' : c + m = n := Option.some.inj z
          omega
      · rw [if_neg hi]
        have ih := At_none (ts := ts) (fun u hu => h u (List.mem_cons_of_mem _ hu)) (i := i - c) (by omega)
        rw [ih]
        constructor
        · rintro ⟨n, e, hn⟩
          exact ⟨c + n, by rw [e]; rfl, by omega⟩
        · rintro ⟨n, e, hn⟩
          cases ht : Tot ts with
          | none => rw [ht] at e; cases e
          | some m =>
            rw [ht] at e
            have z' : c + m = n := Option.some.inj e
            exact ⟨m, rfl, by omega⟩
theorem NB_tot : ∀ {ts : List Trn}, (∀ t ∈ ts, OkTr t) → ∀ {n : Int}, Tot ts = some n → ∀ x, NB ts x ≤ n
  | [], _, n, e, x => by cases e; exact Int.le_refl _
  | t :: ts, h, n, e, x => by
    cases hk : t.2.2 with
    | none =>
      have e2 : Tot (t :: ts) = none := by
        show (match t.2.2 with | none => none | some c => addO c (Tot ts)) = _
        rw [hk]
      rw [e2] at e
      cases e
    | some c =>
      have e2 : Tot (t :: ts) = addO c (Tot ts) := by
        show (match t.2.2 with | none => none | some c => addO c (Tot ts)) = _
        rw [hk]
      rw [e2] at e
      cases ht : Tot ts with
      | none => rw [ht] at e; cases e
      | some m =>
        rw [ht] at e
        have z' : c + m = n := Option.some.inj e
        have h1 := nbT_le (x := x) hk
        have h2 := NB_tot (fun u hu => h u (List.mem_cons_of_mem _ hu)) ht x
        show nbT t x + NB ts x ≤ n
        omega
theorem nbT_step {t : Trn} (h : OkTr t) (x : Int) : nbT t (x + 1) ≤ nbT t x + 1 := by
  obtain ⟨s, p, k⟩ := t
  have hp : 1 ≤ p := h.2.1
  have h1 : cl (x + 1 - s) p ≤ cl (x - s) p + 1 := by
    refine (cl_le (by omega)).mpr ?_
    have h2 : x - s ≤ cl (x - s) p * p := (cl_le (by omega)).mp (Int.le_refl _)
    rw [Int.add_mul, Int.one_mul]
    omega
  show minO (stepsUp (x + 1 - s) p) k ≤ minO (stepsUp (x - s) p) k + 1
  rw [stepsUp_cl, stepsUp_cl]
  cases k with
  | none =>
    show (if cl (x + 1 - s) p > 0 then cl (x + 1 - s) p else 0) ≤ (if cl (x - s) p > 0 then cl (x - s) p else 0) + 1
    split <;> split <;> omega
  | some c =>
    show (if c < (if cl (x + 1 - s) p > 0 then cl (x + 1 - s) p else 0) then c else (if cl (x + 1 - s) p > 0 then cl (x + 1 - s) p else 0)) ≤ (if c < (if cl (x - s) p > 0 then cl (x - s) p else 0) then c else (if cl (x - s) p > 0 then cl (x - s) p else 0)) + 1
    repeat' split
    all_goals omega
theorem NB_step : ∀ {ts : List Trn}, Srt ts → ∀ x, NB ts (x + 1) ≤ NB ts x + 1
  | [], _, x => by show (0 : Int) ≤ 0 + 1; omega
  | t :: ts, h, x => by
    have ht := h.head
    have hs := h.tail
    have st := nbT_step ht x
    show nbT t (x + 1) + NB ts (x + 1) ≤ nbT t x + NB ts x + 1
    cases hk : t.2.2 with
    | none =>
      have nt : ts = [] := by
        cases ts with
        | nil => rfl
        | cons u us =>
          obtain ⟨c, hc, _⟩ := h.lt u (List.mem_cons_self ..)
          rw [hk] at hc
          cases hc
      subst nt
      show nbT t (x + 1) + 0 ≤ nbT t x + 0 + 1
      omega
    | some c =>
      by_cases hl : t.1 + (c - 1) * t.2.1 < x
      · have h1 := nbT_all ht hk hl
        have h2 := nbT_all ht hk (show t.1 + (c - 1) * t.2.1 < x + 1 by omega)
        have h3 := NB_step hs x
        omega
      · have z : ∀ y, y ≤ x + 1 → NB ts y = 0 := fun y hy => NB_zero hs.1 fun u hu => by
          obtain ⟨c', hc, q⟩ := h.lt u hu
          rw [hk] at hc
          cases hc
          omega
        have h1 := z x (by omega)
        have h2 := z (x + 1) (Int.le_refl _)
        omega
/-- the i-th time is told by what is before x -/
theorem At_iff {ts : List Trn} (h : Srt ts) {i y : Int} (i0 : 0 ≤ i) : At ts i = some y ↔ NB ts y = i ∧ NB ts (y + 1) = i + 1 := by
  have one : ∀ {z}, At ts i = some z → NB ts z = i ∧ NB ts (z + 1) = i + 1 := fun {z} e => by
    have h1 := At_lt h i0 e z
    have h2 := At_lt h i0 e (z + 1)
    have h3 := NB_step h z
    omega
  refine ⟨one, fun ⟨e1, e2⟩ => ?_⟩
  cases q : At ts i with
  | none =>
    obtain ⟨n, e3, e4⟩ := (At_none h.1 i0).mp q
    have := NB_tot h.1 e3 (y + 1)
    omega
  | some w =>
    have h3 := At_lt h i0 q y
    have h4 := At_lt h i0 q (y + 1)
    congr 1
    omega
/-- trains with the same counts have the same times -/
theorem At_same {ts us : List Trn} (h : Srt ts) (h' : Srt us) (e : ∀ x, NB ts x = NB us x) {i : Int} (i0 : 0 ≤ i) : At ts i = At us i := by
  cases q : At ts i with
  | some y =>
    obtain ⟨e1, e2⟩ := (At_iff h i0).mp q
    exact ((At_iff h' i0).mpr ⟨by rw [← e]; exact e1, by rw [← e]; exact e2⟩).symm
  | none =>
    cases q2 : At us i with
    | none => rfl
    | some y =>
      obtain ⟨e1, e2⟩ := (At_iff h' i0).mp q2
      rw [(At_iff h i0).mpr ⟨by rw [e]; exact e1, by rw [e]; exact e2⟩] at q
      cases q
/-! ### the normal form as data -/
def partL (t : Trn) (low : Int) (high : Option Int) : List Trn := match high with
  | none => [(t.1 + low * t.2.1, t.2.1, none)]
  | some h => if low = h then [] else [(t.1 + low * t.2.1, t.2.1, some (h - low))]
def joinS (t f : Trn) (c : Int) : Int := if c = 1 then f.1 - t.1 else t.2.1
def joinC (t f : Trn) (c : Int) : List Trn :=
  if t.1 + c * joinS t f c = f.1 then
    if f.2.1 = joinS t f c then [(t.1, joinS t f c, addO c f.2.2)]
    else (t.1, joinS t f c, some (c + 1)) :: partL f 1 f.2.2
  else [t, f]
def joinL (t f : Trn) : List Trn := match t.2.2 with
  | none => [f]
  | some c => joinC t f c
def plainT (t : Trn) : Trn := if t.2.2 = some 1 then (t.1, 1, some 1) else t
def nfG (cl : List Trn) : Option Trn → List Trn → List Trn
  | h, [] => cl ++ (h.map plainT).toList
  | none, f :: r => nfG cl (some f) r
  | some t, f :: r => nfG (cl ++ (joinL t f).dropLast) (joinL t f).getLast? r
def nfs (ts : List Trn) : List Trn := nfG [] none ts
theorem nbT_none_zero {s p : Int} (hp : 0 < p) (x : Int) : nbT (s, p, some 0) x = 0 := by
  show (if (0 : Int) < stepsUp (x - s) p then 0 else stepsUp (x - s) p) = 0
  rw [stepsUp_cl]
  repeat' split
  all_goals omega
theorem nbT_part {f : Trn} (h : OkTr f) (x : Int) : nbT f x = nbT (f.1, f.2.1, some 1) x + NB (partL f 1 f.2.2) x := by
  obtain ⟨s, p, k⟩ := f
  have hp : 1 ≤ p := h.2.1
  have e := nbT_split (s := s) (p := p) (c := 1) (k := k) (by omega) (by decide) (fun n hn => h.2.2 n hn) x
  rw [e]
  cases k with
  | none => show _ = _ + (nbT (s + 1 * p, p, none) x + 0); rw [Int.add_zero]; rfl
  | some d =>
    show _ = _ + NB (if 1 = d then [] else [(s + 1 * p, p, some (d - 1))]) x
    by_cases c : 1 = d
    · subst c
      rw [if_pos rfl]
      have := nbT_none_zero (s := s + 1 * p) (p := p) (by omega) x
      show _ + nbT (s + 1 * p, p, some (1 - 1)) x = _ + 0
      rw [show (1 : Int) - 1 = 0 by rfl, this]
    · rw [if_neg c]
      show _ = _ + (nbT (s + 1 * p, p, some (d - 1)) x + 0)
      rw [Int.add_zero]
      rfl
structure Joined (t f : Trn) (g : List Trn) : Prop where
  ok : ∀ u ∈ g, OkTr u
  pw : g.Pairwise Lt
  nb : ∀ x, NB g x = nbT t x + nbT f x
  lo : ∀ u ∈ g, t.1 ≤ u.1
  hi : ∀ r, Lt f r → ∀ u ∈ g, Lt u r
  ne : g ≠ []
theorem joinL_ok {t f : Trn} (ht : OkTr t) (hf : OkTr f) (hl : Lt t f) : Joined t f (joinL t f) := by
  obtain ⟨c, hc, hlt⟩ := hl
  have c1 := ht.2.2 c hc
  have p1 := ht.2.1
  have q1 := hf.2.1
  have start : t.1 < f.1 := lt_start ht ⟨c, hc, hlt⟩
  have ej : joinL t f = joinC t f c := by unfold joinL; rw [hc]
  rw [ej]
  have ps : 1 ≤ joinS t f c := by
    unfold joinS
    by_cases e : c = 1
    · rw [if_pos e]; omega
    · rw [if_neg e]; exact p1
  have et : ∀ x, nbT t x = nbT (t.1, joinS t f c, some c) x := fun x => by
    have e0 : t = (t.1, t.2.1, some c) := by rw [← hc]
    unfold joinS
    by_cases e : c = 1
    · subst e
      rw [if_pos rfl]
      have h1 := nbT_one (s := t.1) (p := t.2.1) (q := f.1 - t.1) (by omega) (by omega) x
      rw [← h1, ← e0]
    · rw [if_neg e, ← e0]
  have fl : ∀ {d}, f.2.2 = some d → f.1 ≤ f.1 + (d - 1) * f.2.1 := fun {d} hd => by
    have := hf.2.2 d hd
    have : 0 ≤ (d - 1) * f.2.1 := Int.mul_nonneg (by omega) (by omega)
    omega
  unfold joinC
  by_cases j1 : t.1 + c * joinS t f c = f.1
  · rw [if_pos j1]
    by_cases j2 : f.2.1 = joinS t f c
    · rw [if_pos j2]
      refine ⟨fun u hu => ?_, List.pairwise_singleton _ _, fun x => ?_, fun u hu => ?_, fun r hr u hu => ?_, by simp⟩
      · have e : u = _ := List.mem_singleton.mp hu
        subst e
        refine ⟨ht.1, ps, fun n hn => ?_⟩
        have hn : addO c f.2.2 = some n := hn
        cases hk : f.2.2 with
        | none => rw [hk] at hn; cases hn
        | some d =>
          rw [hk] at hn
          have := hf.2.2 d hk
          have z : c + d = n := Option.some.inj hn
          omega
      · show nbT (t.1, joinS t f c, addO c f.2.2) x + 0 = _
        rw [Int.add_zero, nbT_split (c := c) (by omega) (by omega) (fun n hn => ?_) x, et x, j1]
        · have e3 : subO (addO c f.2.2) c = f.2.2 := by
            cases f.2.2 with
            | none => rfl
            | some d => show some (c + d - c) = some d; congr 1; omega
          rw [e3, ← j2]
        · cases hk : f.2.2 with
          | none => rw [hk] at hn; cases hn
          | some d =>
            rw [hk] at hn
            have := hf.2.2 d hk
            have z : c + d = n := Option.some.inj hn
            omega
      · have e : u = _ := List.mem_singleton.mp hu
        subst e
        exact Int.le_refl _
      · have e : u = _ := List.mem_singleton.mp hu
        subst e
        obtain ⟨d, hd, hr⟩ := hr
        refine ⟨c + d, by show addO c f.2.2 = _; rw [hd]; rfl, ?_⟩
        show t.1 + (c + d - 1) * joinS t f c < r.1
        rw [show c + d - 1 = c + (d - 1) by omega, Int.add_mul, ← j2]
        rw [← j2] at j1
        omega
    · rw [if_neg j2]
      have hp := nbT_part hf
      have hpt : ∀ u ∈ partL f 1 f.2.2, OkTr u ∧ f.1 < u.1 ∧ ∀ r, Lt f r → Lt u r := fun u hu => by
        unfold partL at hu
        have h0 := hf.1
        cases hk : f.2.2 with
        | none =>
          rw [hk] at hu
          have e : u = _ := List.mem_singleton.mp hu
          subst e
          refine ⟨⟨by show 0 ≤ f.1 + 1 * f.2.1; omega, q1, fun n hn => by cases hn⟩, by show f.1 < f.1 + 1 * f.2.1; omega, fun r ⟨d, hd, _⟩ => ?_⟩
          rw [hk] at hd
          cases hd
        | some d =>
          rw [hk] at hu
          have hu : u ∈ (if 1 = d then [] else [(f.1 + 1 * f.2.1, f.2.1, some (d - 1))] : List Trn) := hu
          have d1 := hf.2.2 d hk
          by_cases z : 1 = d
          · rw [if_pos z] at hu; simp at hu
          · rw [if_neg z] at hu
            have e : u = _ := List.mem_singleton.mp hu
            subst e
            refine ⟨⟨by show 0 ≤ f.1 + 1 * f.2.1; omega, q1, fun n hn => by have z : d - 1 = n := Option.some.inj hn; omega⟩, by show f.1 < f.1 + 1 * f.2.1; omega, fun r ⟨d', hd, hr⟩ => ?_⟩
            rw [hk] at hd
            cases hd
            refine ⟨d - 1, rfl, ?_⟩
            show f.1 + 1 * f.2.1 + (d - 1 - 1) * f.2.1 < r.1
            rw [show d - 1 - 1 = (d - 1) + -1 by omega, Int.add_mul]
            omega
      refine ⟨fun u hu => ?_, List.pairwise_cons.mpr ⟨fun u hu => ?_, ?_⟩, fun x => ?_, fun u hu => ?_, fun r hr u hu => ?_, by simp⟩
      · rcases List.mem_cons.mp hu with rfl | hu
        · exact ⟨ht.1, ps, fun n hn => by have z : c + 1 = n := Option.some.inj hn; omega⟩
        · exact (hpt u hu).1
      · refine ⟨c + 1, rfl, ?_⟩
        show t.1 + (c + 1 - 1) * joinS t f c < u.1
        rw [Int.add_sub_cancel]
        have := (hpt u hu).2.1
        omega
      · unfold partL
        cases f.2.2 with
        | none => exact List.pairwise_singleton _ _
        | some d =>
          show ((if 1 = d then [] else [(f.1 + 1 * f.2.1, f.2.1, some (d - 1))] : List Trn)).Pairwise Lt
          by_cases z : 1 = d
          · rw [if_pos z]; exact List.Pairwise.nil
          · rw [if_neg z]; exact List.pairwise_singleton _ _
      · show nbT (t.1, joinS t f c, some (c + 1)) x + NB (partL f 1 f.2.2) x = _
        rw [hp x, et x, nbT_split (c := c) (k := some (c + 1)) (by omega) (by omega) (fun n hn => by have z : c + 1 = n := Option.some.inj hn; omega) x, j1]
        have e3 : subO (some (c + 1)) c = some 1 := by show some (c + 1 - c) = some 1; congr 1; omega
        rw [e3, nbT_one (s := f.1) (p := joinS t f c) (q := f.2.1) (by omega) (by omega) x]
        omega
      · rcases List.mem_cons.mp hu with rfl | hu
        · exact Int.le_refl _
        · have := (hpt u hu).2.1
          omega
      · rcases List.mem_cons.mp hu with rfl | hu
        · obtain ⟨d, hd, hr⟩ := hr
          refine ⟨c + 1, rfl, ?_⟩
          show t.1 + (c + 1 - 1) * joinS t f c < r.1
          rw [Int.add_sub_cancel]
          have := fl hd
          omega
        · exact (hpt u hu).2.2 r hr
  · rw [if_neg j1]
    refine ⟨fun u hu => ?_, ?_, fun x => ?_, fun u hu => ?_, fun r hr u hu => ?_, by simp⟩
    · simp only [List.mem_cons, List.mem_nil_iff, or_false] at hu
      rcases hu with rfl | rfl
      · exact ht
      · exact hf
    · exact List.pairwise_cons.mpr ⟨fun u hu => by rw [List.mem_singleton.mp hu]; exact ⟨c, hc, hlt⟩, List.pairwise_singleton _ _⟩
    · show nbT t x + (nbT f x + 0) = _
      omega
    · simp only [List.mem_cons, List.mem_nil_iff, or_false] at hu
      rcases hu with rfl | rfl <;> omega
    · simp only [List.mem_cons, List.mem_nil_iff, or_false] at hu
      rcases hu with rfl | rfl
      · obtain ⟨d, hd, hr⟩ := hr
        have := fl hd
        exact ⟨c, hc, by omega⟩
      · exact hr
theorem plainT_ok {t : Trn} (h : OkTr t) : OkTr (plainT t) ∧ (plainT t).1 = t.1 ∧ (∀ x, nbT (plainT t) x = nbT t x) ∧ (∀ r, Lt t r → Lt (plainT t) r) := by
  unfold plainT
  by_cases c : t.2.2 = some 1
  · rw [if_pos c]
    obtain ⟨s, p, k⟩ := t
    have hp : 1 ≤ p := h.2.1
    have e : k = some 1 := c
    subst e
    refine ⟨⟨h.1, Int.le_refl _, fun n hn => by cases hn; exact Int.le_refl _⟩, rfl, fun x => nbT_one (by decide) (by omega) x, fun r ⟨d, hd, hr⟩ => ?_⟩
    cases hd
    refine ⟨1, rfl, ?_⟩
    show s + (1 - 1) * 1 < r.1
    have hr : s + (1 - 1) * p < r.1 := hr
    simp at hr ⊢
    exact hr
  · rw [if_neg c]
    exact ⟨h, rfl, fun _ => rfl, fun _ z => z⟩
theorem lt_of_start {a t b : Trn} (h : Lt a t) (l : t.1 ≤ b.1) : Lt a b := by
  obtain ⟨c, e, q⟩ := h
  exact ⟨c, e, by omega⟩
theorem nfG_ok : ∀ (r cl : List Trn) (h : Option Trn), Srt (cl ++ h.toList ++ r) → Srt (nfG cl h r) ∧ ∀ x, NB (nfG cl h r) x = NB (cl ++ h.toList ++ r) x
  | [], cl, none, hs => by
    rw [List.append_nil] at hs ⊢
    exact ⟨hs, fun _ => rfl⟩
  | [], cl, some t, hs => by
    rw [List.append_nil] at hs ⊢
    show Srt (cl ++ [plainT t]) ∧ ∀ x, NB (cl ++ [plainT t]) x = NB (cl ++ [t]) x
    have hs : Srt (cl ++ [t]) := hs
    obtain ⟨a1, a2, a3⟩ := List.pairwise_append.mp hs.2
    obtain ⟨q1, q2, q3, q4⟩ := plainT_ok (hs.1 t (List.mem_append_right _ (List.mem_singleton.mpr rfl)))
    refine ⟨⟨fun u hu => ?_, List.pairwise_append.mpr ⟨a1, List.pairwise_singleton _ _, fun u hu v hv => ?_⟩⟩, fun x => ?_⟩
    · rcases List.mem_append.mp hu with hu | hu
      · exact hs.1 u (List.mem_append_left _ hu)
      · rw [List.mem_singleton.mp hu]; exact q1
    · rw [List.mem_singleton.mp hv]
      exact lt_of_start (a3 u hu t (List.mem_singleton.mpr rfl)) (by rw [q2]; exact Int.le_refl _)
    · rw [NB_app, NB_app]
      show _ + (nbT (plainT t) x + 0) = _ + (nbT t x + 0)
      rw [q3]
  | f :: r, cl, none, hs => by
    have e : cl ++ (none : Option Trn).toList ++ f :: r = cl ++ (some f).toList ++ r := by simp
    rw [e] at hs ⊢
    exact nfG_ok r cl (some f) hs
  | f :: r, cl, some t, hs => by
    have e0 : cl ++ (some t).toList ++ f :: r = cl ++ (t :: f :: r) := by simp
    rw [e0] at hs ⊢
    obtain ⟨a1, a2, a3⟩ := List.pairwise_append.mp hs.2
    obtain ⟨b1, b2⟩ := List.pairwise_cons.mp a2
    obtain ⟨c1, c2⟩ := List.pairwise_cons.mp b2
    have ht : OkTr t := hs.1 t (by simp)
    have hf : OkTr f := hs.1 f (by simp)
    have J := joinL_ok ht hf (b1 f (List.mem_cons_self ..))
    have eg : (joinL t f).dropLast ++ ((joinL t f).getLast?).toList = joinL t f := by
      rw [List.getLast?_eq_some_getLast J.ne]
      exact List.dropLast_concat_getLast J.ne
    have e1 : cl ++ (joinL t f).dropLast ++ ((joinL t f).getLast?).toList ++ r = cl ++ (joinL t f ++ r) := by
      rw [List.append_assoc cl, eg, List.append_assoc]
    have hs' : Srt (cl ++ (joinL t f ++ r)) := by
      refine ⟨fun u hu => ?_, List.pairwise_append.mpr ⟨a1, List.pairwise_append.mpr ⟨J.pw, c2, fun u hu v hv => J.hi v (c1 v hv) u hu⟩, fun u hu v hv => ?_⟩⟩
      · rcases List.mem_append.mp hu with hu | hu
        · exact hs.1 u (List.mem_append_left _ hu)
        · rcases List.mem_append.mp hu with hu | hu
          · exact J.ok u hu
          · exact hs.1 u (List.mem_append_right _ (List.mem_cons_of_mem _ (List.mem_cons_of_mem _ hu)))
      · have l := a3 u hu t (List.mem_cons_self ..)
        rcases List.mem_append.mp hv with hv | hv
        · exact lt_of_start l (J.lo v hv)
        · exact a3 u hu v (List.mem_cons_of_mem _ (List.mem_cons_of_mem _ hv))
    rw [← e1] at hs'
    obtain ⟨k1, k2⟩ := nfG_ok r _ _ hs'
    refine ⟨k1, fun x => ?_⟩
    show NB (nfG (cl ++ (joinL t f).dropLast) (joinL t f).getLast? r) x = _
    rw [k2 x, e1, NB_app, NB_app, NB_app, J.nb]
    show _ = NB cl x + (nbT t x + (nbT f x + NB r x))
    omega
theorem nfs_srt {ts : List Trn} (h : Srt ts) : Srt (nfs ts) := (nfG_ok ts [] none (by simpa using h)).1
theorem nfs_nb {ts : List Trn} (h : Srt ts) (x : Int) : NB (nfs ts) x = NB ts x :=
  (nfG_ok ts [] none (by simpa using h)).2 x
theorem nfs_at {ts : List Trn} (h : Srt ts) {i : Int} (i0 : 0 ≤ i) : At (nfs ts) i = At ts i := At_same (nfs_srt h) h (nfs_nb h) i0
theorem tot_of_at {ts us : List Trn} (h : ∀ t ∈ ts, OkTr t) (h' : ∀ t ∈ us, OkTr t) (e : ∀ i, 0 ≤ i → At ts i = At us i) : Tot ts = Tot us := by
  cases q : Tot ts with
  | some n =>
    have n0 := tot_nn h n q
    have := (At_none h n0).mpr ⟨n, q, Int.le_refl _⟩
    rw [e n n0] at this
    obtain ⟨m, e1, e2⟩ := (At_none h' n0).mp this
    have m0 := tot_nn h' m e1
    have := (At_none h' m0).mpr ⟨m, e1, Int.le_refl _⟩
    rw [← e m m0] at this
    obtain ⟨k, e3, e4⟩ := (At_none h m0).mp this
    rw [q] at e3
    cases e3
    rw [e1]
    congr 1
    omega
  | none =>
    cases q2 : Tot us with
    | none => rfl
    | some m =>
      have m0 := tot_nn h' m q2
      have := (At_none h' m0).mpr ⟨m, q2, Int.le_refl _⟩
      rw [← e m m0] at this
      obtain ⟨k, e3, e4⟩ := (At_none h m0).mp this
      rw [q] at e3
      cases e3
theorem nfs_tot {ts : List Trn} (h : Srt ts) : Tot (nfs ts) = Tot ts := tot_of_at (nfs_srt h).1 h.1 fun i i0 => nfs_at h i0
/-! ### trains of the program, with the text as a whole -/
/-! ### trains in the heap -/
def cV : Option Int → V
  | none => .non
  | some c => .int c
def TrV (t : Trn) : List V := [.int t.1, .int t.2.1, cV t.2.2]
def TrAt (H : Hp) (x : V) (t : Trn) : Prop := ∃ a, x = .ref a ∧ H a = some (.tup (TrV t))
abbrev Trs (H : Hp) (xs : List V) (ts : List Trn) : Prop := Paired (TrAt H) xs ts
theorem TrAt.nl {H H' : Hp} (k : NL H H') {x : V} {t : Trn} (h : TrAt H x t) : TrAt H' x t := by
  obtain ⟨a, e, h⟩ := h
  exact ⟨a, e, k _ _ h fun _ z => nomatch z⟩
theorem TrAt.same {H H' : Hp} (k : Same H H') {x : V} {t : Trn} (h : TrAt H x t) : TrAt H' x t := h.nl (NL.of k)
theorem Trs.nl {H H' : Hp} (k : NL H H') {xs : List V} {ts : List Trn} (h : Trs H xs ts) : Trs H' xs ts := L2.Paired.mapP h fun _ _ z => z.nl k
theorem Trs.same {H H' : Hp} (k : Same H H') {xs : List V} {ts : List Trn} (h : Trs H xs ts) : Trs H' xs ts := Trs.nl (NL.of k) h
theorem Trs.len {H : Hp} : ∀ {xs : List V} {ts : List Trn}, Trs H xs ts → xs.length = ts.length
  | _, _, .nil => rfl
  | _, _, .cons _ t => congrArg Nat.succ (Trs.len t)
theorem Trs.get {H : Hp} : ∀ {xs : List V} {ts : List Trn} {i : Nat} {x : V}, Trs H xs ts → xs[i]? = some x → ∃ t, ts[i]? = some t ∧ TrAt H x t
  | _, _, _, _, .nil, e => by simp at e
  | _, _, 0, _, .cons r _, e => by simp at e; subst e; exact ⟨_, rfl, r⟩
  | _, _, i + 1, x, .cons _ t, e => by
    obtain ⟨u, h1, h2⟩ := Trs.get (i := i) (x := x) t (by simpa using e)
    exact ⟨u, by simpa using h1, h2⟩
theorem Trs.app {H : Hp} : ∀ {xs ys : List V} {ts us : List Trn}, Trs H xs ts → Trs H ys us → Trs H (xs ++ ys) (ts ++ us)
  | _, _, _, _, .nil, s => s
  | _, _, _, _, .cons r t, s => .cons r (Trs.app t s)
theorem Trs.take {H : Hp} : ∀ {xs : List V} {ts : List Trn} (n : Nat), Trs H xs ts → Trs H (xs.take n) (ts.take n)
  | _, _, 0, _ => .nil
  | _, _, _ + 1, .nil => .nil
  | _, _, n + 1, .cons r t => .cons r (Trs.take n t)
theorem Trs.drop {H : Hp} : ∀ {xs : List V} {ts : List Trn} (n : Nat), Trs H xs ts → Trs H (xs.drop n) (ts.drop n)
  | _, _, 0, r => r
  | _, _, _ + 1, .nil => .nil
  | _, _, n + 1, .cons _ t => Trs.drop n t
theorem Trs.one {H : Hp} {x : V} {t : Trn} (h : TrAt H x t) : Trs H [x] [t] := .cons h .nil
/-! bounds -/
structure BT (n : Nat) (t : Trn) : Prop where
  s : t.1 ≤ PB n
  p : t.2.1 ≤ PB n
  c : ∀ c, t.2.2 = some c → t.1 + (c - 1) * t.2.1 ≤ PB n
theorem BT.le {n m : Nat} {t : Trn} (b : BT n t) (h : n ≤ m) : BT m t := by
  have := PB_le h
  exact ⟨by have := b.s; omega, by have := b.p; omega, fun c e => by have := b.c c e; omega⟩
theorem BT.cnt {n : Nat} {t : Trn} (b : BT n t) (h : OkTr t) {c : Int} (e : t.2.2 = some c) : c ≤ PB n + 1 := by
  have h1 := b.c c e
  have c1 := h.2.2 c e
  have p1 := h.2.1
  have s0 := h.1
  have : (c - 1) * 1 ≤ (c - 1) * t.2.1 := Int.mul_le_mul_of_nonneg_left p1 (by omega)
  omega
theorem Kd.cV (H : Hp) (k : Option Int) : ∃ n, Kd H (cV k) n := by
  cases k with
  | none => exact ⟨_, .non⟩
  | some c => exact ⟨_, .int c⟩
/-- the built-ins -/
structure Bi (mg : Str → Option Value) : Prop where
  isinstance : mg "isinstance" = none
  int : mg "int" = none
  bool : mg "bool" = none
  max : mg "max" = none
  min : mg "min" = none
  len : mg "len" = none
  list : mg "list" = none
  tuple : mg "tuple" = none
  enumerate : mg "enumerate" = none
  sum : mg "sum" = none
  range : mg "range" = none
/-! promises -/
def lastV (t : Trn) : V := match t.2.2 with
  | none => .non
  | some c => .int (t.1 + (c - 1) * t.2.1)
def spIsTr : Sp := fun vs H Q _ => ∃ x t, vs = [x] ∧ TrAt H x t ∧ OkTr t ∧ Q (.bl true) H
def spLast : Sp := fun vs H Q _ => ∃ x t, vs = [x] ∧ TrAt H x t ∧ OkTr t ∧ BT 5000 t ∧ Q (lastV t) H
def spTb : Sp := fun vs H Q _ => ∃ x t z, vs = [x, .int z] ∧ TrAt H x t ∧ OkTr t ∧ BT 5000 t ∧ Q (.int (nbT t z)) H
def spPart : Sp := fun vs H Q _ => ∃ x t low high, vs = [x, .int low, cV high] ∧ TrAt H x t ∧ CMulW low t.2.1 ∧ ∀ l zs H', H' l = some (.lst zs) → Trs H' zs (partL t low high) → Same H H' → H l = none → Q (.ref l) H'
def spJoin : Sp := fun vs H Q _ => ∃ x t y f c, vs = [x, y] ∧ TrAt H x t ∧ TrAt H y f ∧ OkTr t ∧ OkTr f ∧ BT 5000 t ∧ BT 5000 f ∧ t.2.2 = some c ∧ Lt t f ∧ ∀ l zs H', H' l = some (.lst zs) → Trs H' zs (joinL t f) → Same H H' → H l = none → Q (.ref l) H'
def spPlain : Sp := fun vs H Q _ => ∃ x t, vs = [x] ∧ TrAt H x t ∧ ∀ p, H p = none → Q (.ref p) (upd H p (.tup (TrV (plainT t))))
theorem cV_non {k : Option Int} : (cV k = .non) = (k = none) := by cases k <;> simp [cV]
section
variable {P : Program} {w : World} {K : PySem.W.Frag} {mg : Str → Option Value} {base : Heap} {L : LA}
abbrev N_lasttime : List Str := ["train", "start", "step", "count"]
theorem sc_lasttime : FnScope N_lasttime ["train"] (defScope st_last_time) := ⟨rfl, rfl, rfl, by decide +kernel, rfl, by decide +kernel, by decide +kernel⟩
theorem fn_lasttime (T : LX K mg L) {fd : FuncData} (F : Fun K "last_time" "last_time" st_last_time L.f_last_time fd) : FnOk P w K mg base CX0 1 L.f_last_time fd ["train"] (spLast) := by
  have nd := sc_lasttime.nd
  refine F.ok sc_lasttime (fun vs H Q E h => ?_) (fun cdv A outer S H vs Q E hr h => ?_)
  · obtain ⟨x, t, rfl, _⟩ := h
    rfl
  · obtain ⟨x, t, rfl, ⟨a, rfl, ha⟩, hok, hb, k⟩ := h
    refine ⟨_, (pss_cons (ps_asg (pv 0) (pg_tup rfl (pgs_cons (pg_name (i := 1) nd rfl (Or.inl rfl)) (pgs_cons (pg_name (i := 2) nd rfl (Or.inl rfl)) (pgs_cons (pg_name (i := 3) nd rfl (Or.inl rfl)) pgs_nil)))))
       (pss_cons (ps_if (pt_cmp (pc_isN (pv 3))) (pss_one (ps_ret pe_non)) pss_nil)
       (pss_one (ps_ret (pe_op op_add (pv 1) (pe_op op_mulW (pe_op op_sub (pv 3) pe_int) (pv 2))))))), ?_⟩
    refine ⟨_, rfl, a, _, rfl, SqT.of ha, rfl, _, _, rfl, _, _, rfl, _, _, rfl, rfl, ?_⟩
    cases hk : t.2.2 with
    | none =>
      have e : lastV t = .non := by unfold lastV; rw [hk]
      rw [e] at k
      exact ⟨_, rfl, _, rfl, iteT k⟩
    | some c =>
      have e : lastV t = .int (t.1 + (c - 1) * t.2.1) := by unfold lastV; rw [hk]
      rw [e] at k
      have c1 := hok.2.2 c hk
      have c2 : c ≤ BB + 1 := hb.cnt hok hk
      have b1 := BB1
      have p1 := hok.2.1
      have p2 : t.2.1 ≤ BB := hb.p
      exact ⟨_, rfl, _, rfl, iteF ⟨_, rfl, _, rfl, _, _, rfl, rfl, _, rfl, _, _, rfl, rfl, mulBB (by omega) (by omega) (by omega) (by omega), _, _, rfl, rfl, k⟩⟩
theorem ok_lasttime (T : LX K mg L) : Cal P w K mg base "last_time" 1 L.f_last_time ["train"] (spLast) := T.d_last_time.cal fun fd F => fn_lasttime T F
abbrev N_timesbefore : List Str := ["train", "time", "start", "step", "count", "reached"]
theorem sc_timesbefore : FnScope N_timesbefore ["train", "time"] (defScope st_times_before) := ⟨rfl, rfl, rfl, by decide +kernel, rfl, by decide +kernel, by decide +kernel⟩
theorem fn_timesbefore (T : LX K mg L) {fd : FuncData} (F : Fun K "times_before" "times_before" st_times_before L.f_times_before fd) : FnOk P w K mg base CX0 2 L.f_times_before fd ["train", "time"] (spTb) := by
  have G_stepsto := ok_stepsto (P := P) (w := w) (base := base) T
  have nd := sc_timesbefore.nd
  refine F.ok sc_timesbefore (fun vs H Q E h => ?_) (fun cdv A outer S H vs Q E hr h => ?_)
  · obtain ⟨x, t, z, rfl, _⟩ := h
    rfl
  · obtain ⟨x, t, z, rfl, ⟨a, rfl, ha⟩, hok, hb, k⟩ := h
    refine ⟨_, (pss_cons (ps_asg (pv 0) (pg_tup rfl (pgs_cons (pg_name (i := 2) nd rfl (Or.inl rfl)) (pgs_cons (pg_name (i := 3) nd rfl (Or.inl rfl)) (pgs_cons (pg_name (i := 4) nd rfl (Or.inl rfl)) pgs_nil)))))
       (pss_cons (ps_set (i := 5) nd rfl (Or.inl rfl) (pe_c G_stepsto (hr.mono (by decide)) rfl (pa_cons (pe_op op_sub (pv 1) (pv 2)) (pa_cons (pv 3) pa_nil))))
       (pss_cons (ps_if (pt_cmp (pc_isN (pv 4))) (pss_one (ps_ret (pv 5))) pss_nil)
       (pss_one (ps_ret (pe_callB (call_min2 rfl) (by rfl) T.b_min (by decide +kernel) (pa_cons (pv 5) (pa_cons (pv 4) pa_nil)))))))), ?_⟩
    have p1 := hok.2.1
    refine ⟨_, rfl, a, _, rfl, SqT.of ha, rfl, _, _, rfl, _, _, rfl, _, _, rfl, rfl, ?_⟩
    refine ⟨_, rfl, _, rfl, _, _, rfl, rfl, _, rfl, _, _, rfl, by omega, divBB p1 hb.p, ?_⟩
    cases hk : t.2.2 with
    | none =>
      have e : nbT t z = stepsUp (z - t.1) t.2.1 := by unfold nbT; rw [hk]; rfl
      rw [e] at k
      exact ⟨_, rfl, _, rfl, iteT ⟨_, rfl, k⟩⟩
    | some c =>
      have e : nbT t z = if c < stepsUp (z - t.1) t.2.1 then c else stepsUp (z - t.1) t.2.1 := by unfold nbT; rw [hk]; rfl
      rw [e] at k
      exact ⟨_, rfl, _, rfl, iteF ⟨_, rfl, _, rfl, _, _, rfl, k⟩⟩
theorem ok_timesbefore (T : LX K mg L) : Cal P w K mg base "times_before" 2 L.f_times_before ["train", "time"] (spTb) := T.d_times_before.cal fun fd F => fn_timesbefore T F
abbrev N_partof : List Str := ["train", "low", "high", "start"]
theorem sc_partof : FnScope N_partof ["train", "low", "high"] (defScope st_part_of) := ⟨rfl, rfl, rfl, by decide +kernel, rfl, by decide +kernel, by decide +kernel⟩
theorem fn_partof (T : LX K mg L) {fd : FuncData} (F : Fun K "part_of" "part_of" st_part_of L.f_part_of fd) : FnOk P w K mg base CX0 1 L.f_part_of fd ["train", "low", "high"] (spPart) := by
  have nd := sc_partof.nd
  refine F.ok sc_partof (fun vs H Q E h => ?_) (fun cdv A outer S H vs Q E hr h => ?_)
  · obtain ⟨x, t, low, high, rfl, _⟩ := h
    rfl
  · obtain ⟨x, t, low, high, rfl, ⟨a, rfl, ha⟩, hm, k⟩ := h
    refine ⟨_, (pss_cons (ps_set (i := 3) nd rfl (Or.inl rfl) (pe_op op_add (pe_ix (r := rIxT K) ix_tup (pv 0) pe_int (fun _ _ => rfl)) (pe_op op_mulW (pv 1) (pe_ix (r := rIxT K) ix_tup (pv 0) pe_int (fun _ _ => rfl)))))
       (pss_cons (ps_if (pt_cmp (pc_isN (pv 2))) (pss_one (ps_ret (pe_lst (pa_cons (pe_tup (pa_cons (pv 3) (pa_cons (pe_ix (r := rIxT K) ix_tup (pv 0) pe_int (fun _ _ => rfl)) (pa_cons pe_non pa_nil)))) pa_nil)))) pss_nil)
       (pss_cons (ps_if (pt_cmpR op_eq (pv 1) (pv 2) (nomark _)) (pss_one (ps_ret (pe_lst pa_nil))) pss_nil)
       (pss_one (ps_ret (pe_lst (pa_cons (pe_tup (pa_cons (pv 3) (pa_cons (pe_ix (r := rIxT K) ix_tup (pv 0) pe_int (fun _ _ => rfl)) (pa_cons (pe_op op_sub (pv 2) (pv 1)) pa_nil)))) pa_nil))))))), ?_⟩
    refine ⟨_, rfl, a, _, 0, .int t.1, rfl, rfl, SqT.of ha, rfl, _, rfl, _, rfl, a, _, 1, .int t.2.1, rfl, rfl, SqT.of ha, rfl, _, _, rfl, rfl, hm, _, _, rfl, rfl, ?_⟩
    cases high with
    | none =>
      refine ⟨_, rfl, _, rfl, iteT ⟨_, rfl, _, rfl, a, _, 1, .int t.2.1, rfl, rfl, SqT.of ha, rfl, (by show 3 ≤ sizeLine; decide), fun e he => ⟨(by show 1 ≤ sizeLine; decide), fun l hl => ?_⟩⟩⟩
      exact k l [.ref e] _ upd_same (Trs.one ⟨e, rfl, (Same.upd hl) _ _ upd_same⟩) ((Same.upd he).trans (Same.upd hl)) (by
        cases q : H l with
        | none => rfl
        | some o => rw [(Same.upd he) _ _ q] at hl; cases hl)
    | some h =>
      refine ⟨_, rfl, _, rfl, iteF ⟨_, rfl, _, rfl, rfl, _, rfl, ?_⟩⟩
      refine ite2 (fun c => ?_) (fun c => ?_)
      · have c' : low = h := V.int.inj (of_decide_eq_true c)
        refine ⟨(by show 0 ≤ sizeLine; decide), fun l hl => k l [] _ upd_same ?_ (Same.upd hl) hl⟩
        show Trs _ [] (if low = h then [] else _)
        rw [if_pos c']
        exact .nil
      · have c' : ¬ low = h := fun e => c (decide_eq_true (congrArg V.int e))
        refine ⟨_, rfl, _, rfl, a, _, 1, .int t.2.1, rfl, rfl, SqT.of ha, rfl, _, rfl, _, rfl, _, _, rfl, rfl, (by show 3 ≤ sizeLine; decide), fun e he => ⟨(by show 1 ≤ sizeLine; decide), fun l hl => ?_⟩⟩
        refine k l [.ref e] _ upd_same ?_ ((Same.upd he).trans (Same.upd hl)) (by
          cases q : H l with
          | none => rfl
          | some o => rw [(Same.upd he) _ _ q] at hl; cases hl)
        show Trs _ [.ref e] (if low = h then [] else _)
        rw [if_neg c']
        exact Trs.one ⟨e, rfl, (Same.upd hl) _ _ upd_same⟩
theorem ok_partof (T : LX K mg L) : Cal P w K mg base "part_of" 1 L.f_part_of ["train", "low", "high"] (spPart) := T.d_part_of.cal fun fd F => fn_partof T F
end
/-! ### the normal form is one -/
def NF0 : List Trn → Prop
  | [] => True
  | [_] => True
  | t :: u :: r => (∃ c, t.2.2 = some c ∧ 2 ≤ c ∧ u.1 ≠ t.1 + c * t.2.1) ∧ NF0 (u :: r)
structure NF (ts : List Trn) : Prop where
  go : NF0 ts
  last : ∀ t, ts.getLast? = some t → t.2.2 = some 1 → t.2.1 = 1
theorem NF0.tail {t : Trn} {r : List Trn} (h : NF0 (t :: r)) : NF0 r := by
  cases r with
  | nil => exact True.intro
  | cons u r => exact h.2
theorem nf0_app : ∀ (xs ys zs : List Trn) (u v : Trn), v.1 = u.1 → NF0 (xs ++ u :: ys) → NF0 (v :: zs) → NF0 (xs ++ v :: zs)
  | [], _, _, _, _, _, _, h => h
  | [t], ys, zs, u, v, e, h1, h2 => by
    have h1 : NF0 (t :: u :: ys) := h1
    show NF0 (t :: v :: zs)
    obtain ⟨⟨c, e1, e2, e3⟩, _⟩ := h1
    exact ⟨⟨c, e1, e2, by rw [e]; exact e3⟩, h2⟩
  | t :: t' :: xs, ys, zs, u, v, e, h1, h2 => by
    have h1 : NF0 (t :: t' :: (xs ++ u :: ys)) := h1
    show NF0 (t :: t' :: (xs ++ v :: zs))
    exact ⟨h1.1, nf0_app (t' :: xs) ys zs u v e h1.2 h2⟩
theorem joinL_head {t f : Trn} {c : Int} (hc : t.2.2 = some c) (c1 : 1 ≤ c) : ∃ v zs, joinL t f = v :: zs ∧ v.1 = t.1 ∧ NF0 (v :: zs) ∧ (zs = [] ∨ ∃ u, zs = [u]) := by
  have ej : joinL t f = joinC t f c := by unfold joinL; rw [hc]
  rw [ej]
  unfold joinC
  by_cases j1 : t.1 + c * joinS t f c = f.1
  · rw [if_pos j1]
    by_cases j2 : f.2.1 = joinS t f c
    · rw [if_pos j2]
      exact ⟨_, [], rfl, rfl, True.intro, .inl rfl⟩
    · rw [if_neg j2]
      refine ⟨_, _, rfl, rfl, ?_, ?_⟩
      · unfold partL
        have key : ∀ k : Option Int, NF0 [(t.1, joinS t f c, some (c + 1)), (f.1 + 1 * f.2.1, f.2.1, k)] := fun k => by
          refine ⟨⟨c + 1, rfl, by omega, ?_⟩, True.intro⟩
          show f.1 + 1 * f.2.1 ≠ t.1 + (c + 1) * joinS t f c
          rw [Int.add_mul, Int.one_mul]
          omega
        cases f.2.2 with
        | none => exact key _
        | some d =>
          show NF0 (_ :: (if 1 = d then [] else [(f.1 + 1 * f.2.1, f.2.1, some (d - 1))] : List Trn))
          by_cases z : 1 = d
          · rw [if_pos z]; exact True.intro
          · rw [if_neg z]; exact key _
      · unfold partL
        cases f.2.2 with
        | none => exact .inr ⟨_, rfl⟩
        | some d =>
          by_cases z : 1 = d
          · exact .inl (if_pos z)
          · exact .inr ⟨_, if_neg z⟩
  · rw [if_neg j1]
    refine ⟨t, [f], rfl, rfl, ⟨⟨c, hc, ?_, ?_⟩, True.intro⟩, .inr ⟨_, rfl⟩⟩
    · by_cases e : c = 1
      · subst e
        refine absurd ?_ j1
        unfold joinS
        rw [if_pos rfl, Int.one_mul]
        omega
      · omega
    · by_cases e : c = 1
      · subst e
        refine absurd ?_ j1
        unfold joinS
        rw [if_pos rfl, Int.one_mul]
        omega
      · unfold joinS at j1
        rw [if_neg e] at j1
        exact fun z => j1 z.symm
theorem joinL_split {t f : Trn} {c : Int} (hc : t.2.2 = some c) (c1 : 1 ≤ c) : (joinL t f).dropLast ++ ((joinL t f).getLast?).toList = joinL t f ∧ ((joinL t f).getLast?).isSome = true := by
  obtain ⟨v, zs, e, _⟩ := joinL_head (f := f) hc c1
  have ne : joinL t f ≠ [] := by rw [e]; simp
  rw [List.getLast?_eq_some_getLast ne]
  exact ⟨List.dropLast_concat_getLast ne, rfl⟩
theorem plainT_start (t : Trn) : (plainT t).1 = t.1 := by unfold plainT; split <;> rfl
theorem plainT_one (t : Trn) (h : (plainT t).2.2 = some 1) : (plainT t).2.1 = 1 := by
  unfold plainT at *
  split at h
  · rw [if_pos (by assumption)]
  · rename_i q
    exact absurd h q
/-- the walk keeps the form -/
theorem nfG_nf : ∀ (r cl : List Trn) (h : Option Trn), Srt (cl ++ h.toList ++ r) → NF0 (cl ++ h.toList) → (h = none → cl = []) → NF (nfG cl h r)
  | [], cl, none, _, _, hn => by
    rw [hn rfl]
    exact ⟨True.intro, fun t e => by cases e⟩
  | [], cl, some t, _, hf, _ => by
    refine ⟨?_, fun u e o => ?_⟩
    · show NF0 (cl ++ [plainT t])
      exact nf0_app cl [] [] t (plainT t) (plainT_start t) hf True.intro
    · have e : (cl ++ [plainT t]).getLast? = some u := e
      rw [List.getLast?_append] at e
      have e : plainT t = u := by simpa using e
      subst e
      exact plainT_one t o
  | f :: r, cl, none, hs, hf, hn => by
    have e : cl ++ (none : Option Trn).toList ++ f :: r = cl ++ (some f).toList ++ r := by simp
    rw [e] at hs
    refine nfG_nf r cl (some f) hs ?_ (fun z => by cases z)
    rw [hn rfl]
    exact True.intro
  | f :: r, cl, some t, hs, hf, _ => by
    have e0 : cl ++ (some t).toList ++ f :: r = cl ++ (t :: f :: r) := by simp
    rw [e0] at hs
    obtain ⟨a1, a2, a3⟩ := List.pairwise_append.mp hs.2
    obtain ⟨b1, b2⟩ := List.pairwise_cons.mp a2
    obtain ⟨c1, c2⟩ := List.pairwise_cons.mp b2
    have ht : OkTr t := hs.1 t (by simp)
    have hfo : OkTr f := hs.1 f (by simp)
    have hl := b1 f (List.mem_cons_self ..)
    have J := joinL_ok ht hfo hl
    obtain ⟨c, hc, _⟩ := hl
    have k1 := ht.2.2 c hc
    obtain ⟨eg, es⟩ := joinL_split (f := f) hc k1
    have e1 : cl ++ (joinL t f).dropLast ++ ((joinL t f).getLast?).toList ++ r = cl ++ (joinL t f ++ r) := by
      rw [List.append_assoc cl, eg, List.append_assoc]
    have e2 : cl ++ (joinL t f).dropLast ++ ((joinL t f).getLast?).toList = cl ++ joinL t f := by
      rw [List.append_assoc cl, eg]
    show NF (nfG (cl ++ (joinL t f).dropLast) (joinL t f).getLast? r)
    refine nfG_nf r _ _ ?_ ?_ (fun z => by rw [z] at es; cases es)
    · rw [e1]
      refine ⟨fun u hu => ?_, List.pairwise_append.mpr ⟨a1, List.pairwise_append.mpr ⟨J.pw, c2, fun u hu v hv => J.hi v (c1 v hv) u hu⟩, fun u hu v hv => ?_⟩⟩
      · rcases List.mem_append.mp hu with hu | hu
        · exact hs.1 u (List.mem_append_left _ hu)
        · rcases List.mem_append.mp hu with hu | hu
          · exact J.ok u hu
          · exact hs.1 u (List.mem_append_right _ (List.mem_cons_of_mem _ (List.mem_cons_of_mem _ hu)))
      · have l := a3 u hu t (List.mem_cons_self ..)
        rcases List.mem_append.mp hv with hv | hv
        · exact lt_of_start l (J.lo v hv)
        · exact a3 u hu v (List.mem_cons_of_mem _ (List.mem_cons_of_mem _ hv))
    · rw [e2]
      obtain ⟨v, zs, ev, es', ez, _⟩ := joinL_head (f := f) hc k1
      rw [ev]
      exact nf0_app cl [] zs t v es' hf ez
theorem nfs_nf {ts : List Trn} (h : Srt ts) : NF (nfs ts) := nfG_nf ts [] none (by simpa using h) True.intro fun _ => rfl
theorem At_none_t {t : Trn} {r : List Trn} (e : t.2.2 = none) (i : Int) : At (t :: r) i = some (t.1 + i * t.2.1) := by
  show (match t.2.2 with | none => some (t.1 + i * t.2.1) | some c => if i < c then some (t.1 + i * t.2.1) else At r (i - c)) = _
  rw [e]
theorem At_some_t {t : Trn} {r : List Trn} {c : Int} (e : t.2.2 = some c) (i : Int) : At (t :: r) i = if i < c then some (t.1 + i * t.2.1) else At r (i - c) := by
  show (match t.2.2 with | none => some (t.1 + i * t.2.1) | some c => if i < c then some (t.1 + i * t.2.1) else At r (i - c)) = _
  rw [e]
theorem At_lo {t : Trn} {r : List Trn} {i : Int} (h : ∀ c, t.2.2 = some c → i < c) : At (t :: r) i = some (t.1 + i * t.2.1) := by
  cases e : t.2.2 with
  | none => exact At_none_t e i
  | some c => rw [At_some_t e, if_pos (h c e)]
theorem At_head {t : Trn} {r : List Trn} (h : OkTr t) : At (t :: r) 0 = some t.1 := by
  rw [At_lo fun c e => by have := h.2.2 c e; omega, Int.zero_mul, Int.add_zero]
theorem nf_cut {t : Trn} {r : List Trn} (h : Srt (t :: r)) (n : NF0 (t :: r)) {c : Int} (e : t.2.2 = some c) (y : Int) (ha : At (t :: r) c = some y) : y ≠ t.1 + c * t.2.1 := by
  rw [At_some_t e, if_neg (Int.lt_irrefl c), Int.sub_self] at ha
  cases r with
  | nil => cases ha
  | cons u r =>
    rw [At_head h.tail.head] at ha
    cases ha
    obtain ⟨⟨c', e1, _, e3⟩, _⟩ := n
    rw [e] at e1
    cases e1
    exact e3
theorem nf_two {t u : Trn} {r : List Trn} (n : NF0 (t :: u :: r)) (e : t.2.2 = some 1) : False := by
  obtain ⟨⟨c, e1, e2, _⟩, _⟩ := n
  rw [e] at e1
  cases e1
  exact absurd e2 (by decide)
theorem nf_lone {t u : Trn} {r s : List Trn} (h : Srt (t :: r)) (h' : Srt (u :: s)) (n : NF (t :: r)) (n' : NF (u :: s)) (e : ∀ i, 0 ≤ i → At (t :: r) i = At (u :: s) i) (o : t.2.2 = some 1) : t :: r = u :: s := by
  have h0 : some t.1 = some u.1 := by rw [← At_head (r := r) h.head, ← At_head (r := s) h'.head]; exact e 0 (Int.le_refl _)
  have r0 : r = [] := by
    cases r with
    | nil => rfl
    | cons v r => exact (nf_two n.go o).elim
  subst r0
  have h1 : At (u :: s) 1 = none := by
    rw [← e 1 (by decide), At_some_t o]
    rfl
  cases ek : u.2.2 with
  | none => rw [At_none_t ek] at h1; cases h1
  | some c =>
    rw [At_some_t ek] at h1
    have c1 := h'.head.2.2 c ek
    by_cases q : 1 < c
    · rw [if_pos q] at h1; cases h1
    · have c2 : c = 1 := by omega
      subst c2
      have s0 : s = [] := by
        cases s with
        | nil => rfl
        | cons v s => exact (nf_two n'.go ek).elim
      subst s0
      have p1 := n.last t rfl o
      have p2 := n'.last u rfl ek
      have : t = u := by
        obtain ⟨a, b, k⟩ := t
        obtain ⟨a', b', k'⟩ := u
        have e1 : a = a' := Option.some.inj h0
        have e2 : b = 1 := p1
        have e3 : b' = 1 := p2
        have e4 : k = some 1 := o
        have e5 : k' = some 1 := ek
        rw [e1, e2, e3, e4, e5]
      rw [this]
theorem nf_unique : ∀ {ts us : List Trn}, Srt ts → Srt us → NF ts → NF us → (∀ i, 0 ≤ i → At ts i = At us i) → ts = us
  | [], [], _, _, _, _, _ => rfl
  | [], u :: s, _, h', _, _, e => by
    have := e 0 (Int.le_refl _)
    rw [At_head h'.head] at this
    cases this
  | t :: r, [], h, _, _, _, e => by
    have := e 0 (Int.le_refl _)
    rw [At_head h.head] at this
    cases this
  | t :: r, u :: s, h, h', n, n', e => by
    by_cases o : t.2.2 = some 1
    · exact nf_lone h h' n n' e o
    by_cases o' : u.2.2 = some 1
    · exact (nf_lone h' h n' n (fun i i0 => (e i i0).symm) o').symm
    have h0 : some t.1 = some u.1 := by rw [← At_head (r := r) h.head, ← At_head (r := s) h'.head]; exact e 0 (Int.le_refl _)
    have h0 := Option.some.inj h0
    have g1 : ∀ {t : Trn}, OkTr t → t.2.2 ≠ some 1 → ∀ c, t.2.2 = some c → 1 < c := fun {t} q w c z => by
      have := q.2.2 c z
      by_cases z2 : c = 1
      · subst z2; exact absurd z w
      · omega
    have h1 := e 1 (by decide)
    rw [At_lo (g1 h.head o), At_lo (g1 h'.head o')] at h1
    have hp : t.2.1 = u.2.1 := by have := Option.some.inj h1; omega
    cases ek : t.2.2 with
    | none =>
      cases ek' : u.2.2 with
      | none =>
        have r0 : r = [] := by
          cases r with
          | nil => rfl
          | cons v r =>
            obtain ⟨c, z, _⟩ := h.lt v (List.mem_cons_self ..)
            rw [ek] at z; cases z
        have s0 : s = [] := by
          cases s with
          | nil => rfl
          | cons v s =>
            obtain ⟨c, z, _⟩ := h'.lt v (List.mem_cons_self ..)
            rw [ek'] at z; cases z
        subst r0 s0
        have : t = u := by
          obtain ⟨a, b, k⟩ := t
          obtain ⟨a', b', k'⟩ := u
          have e1 : a = a' := h0
          have e2 : b = b' := hp
          have e4 : k = none := ek
          have e5 : k' = none := ek'
          rw [e1, e2, e4, e5]
        rw [this]
      | some c' =>
        have c1 := h'.head.2.2 c' ek'
        have q := e c' (by omega)
        rw [At_none_t ek] at q
        have := nf_cut h' n'.go ek' _ q.symm
        rw [h0, hp] at this
        exact absurd rfl this
    | some c =>
      have c1 := h.head.2.2 c ek
      have big : ∀ d, u.2.2 = some d → d ≤ c := fun d z => by
        by_cases w : d ≤ c
        · exact w
        · have q := e c (by omega)
          rw [At_lo (t := u) (fun k zk => by rw [z] at zk; cases zk; omega)] at q
          have := nf_cut h n.go ek _ q
          rw [h0, hp] at this
          exact absurd rfl this
      cases ek' : u.2.2 with
      | none =>
        have q := e c (by omega)
        rw [At_none_t ek'] at q
        have := nf_cut h n.go ek _ q
        rw [h0, hp] at this
        exact absurd rfl this
      | some c' =>
        have d1 := big c' ek'
        have c1' := h'.head.2.2 c' ek'
        have d2 : c' = c := by
          by_cases w : c ≤ c'
          · omega
          · have q := e c' (by omega)
            rw [At_lo (t := t) (fun k zk => by rw [ek] at zk; cases zk; omega)] at q
            have := nf_cut h' n'.go ek' _ q.symm
            rw [h0, hp] at this
            exact absurd rfl this
        subst d2
        have tail : ∀ {t : Trn} {r : List Trn}, NF (t :: r) → NF r := fun {t r} q => ⟨q.go.tail, fun v z => q.last v (by
          cases r with
          | nil => cases z
          | cons w r => rw [List.getLast?_cons_cons]; exact z)⟩
        have rs := nf_unique h.tail h'.tail (tail n) (tail n') (fun i i0 => by
          have q := e (c' + i) (by omega)
          rw [At_some_t ek, At_some_t ek', if_neg (by omega), if_neg (by omega), show c' + i - c' = i by omega] at q
          exact q)
        subst rs
        have : t = u := by
          obtain ⟨a, b, k⟩ := t
          obtain ⟨a', b', k'⟩ := u
          have e1 : a = a' := h0
          have e2 : b = b' := hp
          have e4 : k = some c' := ek
          have e5 : k' = some c' := ek'
          rw [e1, e2, e4, e5]
        rw [this]
theorem nfs_iff {ts us : List Trn} (h : Srt ts) (h' : Srt us) : nfs ts = nfs us ↔ ∀ x, NB ts x = NB us x := by
  refine ⟨fun e x => by rw [← nfs_nb h, ← nfs_nb h', e], fun e => ?_⟩
  refine nf_unique (nfs_srt h) (nfs_srt h') (nfs_nf h) (nfs_nf h') fun i i0 => ?_
  rw [nfs_at h i0, nfs_at h' i0]
  exact At_same h h' e i0
theorem nfs_of_nf {ts : List Trn} (h : Srt ts) (n : NF ts) : nfs ts = ts := nf_unique (nfs_srt h) h (nfs_nf h) n fun _ i0 => nfs_at h i0
theorem nfs_idem {ts : List Trn} (h : Srt ts) : nfs (nfs ts) = nfs ts := nfs_of_nf (nfs_srt h) (nfs_nf h)
/-! sizes -/
/-- what the walk holds stays small -/
def BG (n : Nat) (u : Trn) : Prop := (u.2.2 ≠ none → BT n u) ∧ BT (n + 1) u
theorem BG.of {n : Nat} {u : Trn} (h : BT n u) : BG n u := ⟨fun _ => h, h.le (Nat.le_succ n)⟩
theorem joinL_bg {n : Nat} {t f : Trn} (ht : OkTr t) (hf : OkTr f) (hl : Lt t f) (bt : BG n t) (bf : BT n f) : ∀ u ∈ joinL t f, BG n u := by
  obtain ⟨c, hc, hlt⟩ := hl
  have c1 := ht.2.2 c hc
  have p1 := ht.2.1
  have q1 := hf.2.1
  have s0 := ht.1
  have start : t.1 < f.1 := lt_start ht ⟨c, hc, hlt⟩
  have bt' := bt.1 (by rw [hc]; intro z; cases z)
  have b1 := bt'.s
  have b2 := bt'.p
  have f1 := bf.s
  have f2 := bf.p
  have ps : joinS t f c ≤ PB n := by
    unfold joinS
    split <;> omega
  have ej : joinL t f = joinC t f c := by unfold joinL; rw [hc]
  intro u hu
  rw [ej] at hu
  unfold joinC at hu
  by_cases j1 : t.1 + c * joinS t f c = f.1
  · rw [if_pos j1] at hu
    by_cases j2 : f.2.1 = joinS t f c
    · rw [if_pos j2] at hu
      rw [List.mem_singleton.mp hu]
      refine BG.of ⟨b1, ps, fun d hd => ?_⟩
      cases hk : f.2.2 with
      | none =>
        rw [hk] at hd
        cases hd
      | some e =>
        rw [hk] at hd
        have z : c + e = d := Option.some.inj hd
        subst z
        have := bf.c e hk
        show t.1 + (c + e - 1) * joinS t f c ≤ PB n
        rw [show c + e - 1 = c + (e - 1) by omega, Int.add_mul, ← j2]
        rw [← j2] at j1
        omega
    · rw [if_neg j2] at hu
      rcases List.mem_cons.mp hu with rfl | hu
      · refine BG.of ⟨b1, ps, fun d hd => ?_⟩
        have z : c + 1 = d := Option.some.inj hd
        subst z
        show t.1 + (c + 1 - 1) * joinS t f c ≤ PB n
        rw [Int.add_sub_cancel]
        omega
      · unfold partL at hu
        have sc := PB_succ n
        cases hk : f.2.2 with
        | none =>
          rw [hk] at hu
          rw [List.mem_singleton.mp hu]
          exact ⟨fun z => absurd rfl z, ⟨by show f.1 + 1 * f.2.1 ≤ _; omega, by show f.2.1 ≤ _; omega, fun d hd => by cases hd⟩⟩
        | some d =>
          rw [hk] at hu
          have hu : u ∈ (if 1 = d then [] else [(f.1 + 1 * f.2.1, f.2.1, some (d - 1))] : List Trn) := hu
          have d1 := hf.2.2 d hk
          by_cases z : 1 = d
          · rw [if_pos z] at hu; simp at hu
          · rw [if_neg z] at hu
            rw [List.mem_singleton.mp hu]
            have e1 := bf.c d hk
            have e2 : 1 * f.2.1 ≤ (d - 1) * f.2.1 := Int.mul_le_mul_of_nonneg_right (by omega) (by omega)
            refine BG.of ⟨by show f.1 + 1 * f.2.1 ≤ _; omega, f2, fun k hk' => ?_⟩
            have z : d - 1 = k := Option.some.inj hk'
            subst z
            show f.1 + 1 * f.2.1 + (d - 1 - 1) * f.2.1 ≤ PB n
            rw [show d - 1 - 1 = (d - 1) + -1 by omega, Int.add_mul]
            omega
  · rw [if_neg j1] at hu
    simp only [List.mem_cons, List.mem_nil_iff, or_false] at hu
    rcases hu with rfl | rfl
    · exact bt
    · exact BG.of bf
theorem plainT_bg {n : Nat} {t : Trn} (h : BG n t) : BT (n + 1) (plainT t) := by
  unfold plainT
  split
  · rename_i q
    have b := h.2
    refine ⟨b.s, PB_pos _, fun c e => ?_⟩
    cases e
    have := b.c 1 q
    have := b.s
    show t.1 + (1 - 1) * 1 ≤ _
    omega
  · exact h.2
theorem nfs_len_aux : ∀ (r cl : List Trn) (h : Option Trn), Srt (cl ++ h.toList ++ r) → (nfG cl h r).length ≤ cl.length + h.toList.length + r.length
  | [], cl, none, _ => by
    show (cl ++ []).length ≤ _
    simp
  | [], cl, some t, _ => by
    show (cl ++ [plainT t]).length ≤ _
    simp
  | f :: r, cl, none, hs => by
    have e : cl ++ (none : Option Trn).toList ++ f :: r = cl ++ (some f).toList ++ r := by simp
    rw [e] at hs
    have := nfs_len_aux r cl (some f) hs
    show (nfG cl (some f) r).length ≤ _
    simp at this ⊢
    omega
  | f :: r, cl, some t, hs => by
    have e0 : cl ++ (some t).toList ++ f :: r = cl ++ (t :: f :: r) := by simp
    have hs0 := hs
    rw [e0] at hs
    obtain ⟨a1, a2, a3⟩ := List.pairwise_append.mp hs.2
    obtain ⟨b1, b2⟩ := List.pairwise_cons.mp a2
    obtain ⟨c1, c2⟩ := List.pairwise_cons.mp b2
    have ht : OkTr t := hs.1 t (by simp)
    have hfo : OkTr f := hs.1 f (by simp)
    have hl := b1 f (List.mem_cons_self ..)
    have J := joinL_ok ht hfo hl
    obtain ⟨c, hc, _⟩ := hl
    have k1 := ht.2.2 c hc
    obtain ⟨eg, es⟩ := joinL_split (f := f) hc k1
    have e1 : cl ++ (joinL t f).dropLast ++ ((joinL t f).getLast?).toList ++ r = cl ++ (joinL t f ++ r) := by
      rw [List.append_assoc cl, eg, List.append_assoc]
    obtain ⟨v, zs, ev, _, _, ez⟩ := joinL_head (f := f) hc k1
    have hlen : (joinL t f).length ≤ 2 := by
      rw [ev]
      rcases ez with rfl | ⟨u, rfl⟩ <;> simp
    have hl2 : (joinL t f).dropLast.length + ((joinL t f).getLast?).toList.length ≤ 2 := by
      have := congrArg List.length eg
      rw [List.length_append] at this
      omega
    have := nfs_len_aux r (cl ++ (joinL t f).dropLast) (joinL t f).getLast? (by
      rw [e1]
      refine ⟨fun u hu => ?_, List.pairwise_append.mpr ⟨a1, List.pairwise_append.mpr ⟨J.pw, c2, fun u hu v hv => J.hi v (c1 v hv) u hu⟩, fun u hu v hv => ?_⟩⟩
      · rcases List.mem_append.mp hu with hu | hu
        · exact hs.1 u (List.mem_append_left _ hu)
        · rcases List.mem_append.mp hu with hu | hu
          · exact J.ok u hu
          · exact hs.1 u (List.mem_append_right _ (List.mem_cons_of_mem _ (List.mem_cons_of_mem _ hu)))
      · have l := a3 u hu t (List.mem_cons_self ..)
        rcases List.mem_append.mp hv with hv | hv
        · exact lt_of_start l (J.lo v hv)
        · exact a3 u hu v (List.mem_cons_of_mem _ (List.mem_cons_of_mem _ hv)))
    show (nfG (cl ++ (joinL t f).dropLast) (joinL t f).getLast? r).length ≤ _
    rw [List.length_append] at this
    simp only [List.length_cons, Option.toList_some, List.length_nil] at this ⊢
    omega
theorem nfs_len {ts : List Trn} (h : Srt ts) : (nfs ts).length ≤ ts.length := by
  have := nfs_len_aux ts [] none (by simpa using h)
  show (nfG [] none ts).length ≤ _
  simpa using this
/-! ### lists of trains in the heap -/
theorem last_drop (ts : List Trn) : ts.drop (ts.length - 1) = ts.getLast?.toList := by
  induction ts with
  | nil => rfl
  | cons t ts ih =>
    cases ts with
    | nil => rfl
    | cons u ts =>
      rw [List.getLast?_cons_cons, ← ih]
      rfl
theorem Trs.init {H : Hp} {xs : List V} {ts : List Trn} (h : Trs H xs ts) : Trs H (cutV xs none (some (-1))) ts.dropLast := by
  rw [cut_init, List.dropLast_eq_take, h.len]
  exact h.take _
theorem Trs.lastL {H : Hp} {xs : List V} {ts : List Trn} (h : Trs H xs ts) : Trs H (cutV xs (some (-1)) none) ts.getLast?.toList := by
  rw [cut_last, ← last_drop, h.len]
  exact h.drop _
theorem Trs.get2 {H : Hp} {xs : List V} {ts : List Trn} {i : Nat} {t : Trn} (h : Trs H xs ts) (e : ts[i]? = some t) : ∃ x, xs[i]? = some x ∧ TrAt H x t := by
  have hi : i < ts.length := (List.getElem?_eq_some_iff.mp e).1
  have hx : i < xs.length := by rw [h.len]; exact hi
  obtain ⟨u, e1, e2⟩ := h.get (List.getElem?_eq_getElem hx)
  rw [e] at e1
  cases e1
  exact ⟨_, List.getElem?_eq_getElem hx, e2⟩
/-! ### joined and normal_form -/
def ahd : Int → List Trn → List Int
  | _, [] => []
  | n, t :: ts => n :: ahd (n + t.2.2.getD 0) ts
theorem ahd_len : ∀ (ts : List Trn) (n : Int), (ahd n ts).length = ts.length
  | [], _ => rfl
  | t :: ts, n => congrArg Nat.succ (ahd_len ts _)
/-- what is no part of H0, and what is no list, is kept -/
def KO (H0 H H' : Hp) : Prop := ∀ b o, H b = some o → (H0 b = none ∨ ∀ xs, o ≠ .lst xs) → H' b = some o
theorem KO.same {H0 H H' : Hp} (s : Same H H') : KO H0 H H' := fun b o e _ => s b o e
theorem KO.kp {H0 H H' : Hp} {a : Addr} {xs : List V} (k : Kp a H H') (h0 : H0 a ≠ none) (h : H a = some (.lst xs)) : KO H0 H H' := fun b o e q => k b o (fun z => by
  subst z
  rcases q with q | q
  · exact h0 q
  · rw [h] at e
    exact q xs (Option.some.inj e).symm) e
theorem KO.nl {H0 H H' : Hp} (k : KO H0 H H') : NL H H' := fun b o e q => k b o e (.inr q)
theorem KO.trans {H0 H H1 H2 : Hp} (a : KO H0 H H1) (b : KO H0 H1 H2) : KO H0 H H2 := fun c o e q => b c o (a c o e q) q
theorem KO.base {H0 H1 H H' : Hp} (k : KO H0 H H') (s : Same H0 H1) : KO H1 H H' := fun b o e q => k b o e (by
  rcases q with q | q
  · exact .inl (none_of s q)
  · exact .inr q)
theorem firsts_lt {ts : List Trn} (h : Srt ts) : (ts.map fun t => t.1).Pairwise (· < ·) := by
  rw [List.pairwise_map]
  exact h.2.imp_of_mem fun {a b} ha _ l => lt_start (h.1 a ha) l
theorem ahd_ge : ∀ {ts : List Trn}, (∀ t ∈ ts, OkTr t) → ∀ {n : Int} {j : Nat} {v : Int}, (ahd n ts)[j]? = some v → n ≤ v
  | [], _, n, j, v, e => by simp [ahd] at e
  | t :: ts, h, n, 0, v, e => by
    have e : some n = some v := e
    cases e
    exact Int.le_refl _
  | t :: ts, h, n, j + 1, v, e => by
    have e : (ahd (n + t.2.2.getD 0) ts)[j]? = some v := e
    have ih := ahd_ge (fun u hu => h u (List.mem_cons_of_mem _ hu)) e
    have := (h t (List.mem_cons_self ..)).2.2
    cases hk : t.2.2 with
    | none => rw [hk] at ih; have : n + 0 ≤ v := ih; omega
    | some c => rw [hk] at ih; have : n + c ≤ v := ih; have := (h t (List.mem_cons_self ..)).2.2 c hk; omega
theorem ahd_lt : ∀ {ts : List Trn}, Srt ts → ∀ n : Int, (ahd n ts).Pairwise (· < ·)
  | [], _, n => List.Pairwise.nil
  | t :: ts, h, n => by
    refine List.pairwise_cons.mpr ⟨fun v hv => ?_, ahd_lt h.tail _⟩
    obtain ⟨j, hj⟩ := List.getElem?_of_mem hv
    have ge := ahd_ge h.tail.1 hj
    cases ts with
    | nil => simp [ahd] at hv
    | cons u ts =>
      obtain ⟨c, hc, _⟩ := h.lt u (List.mem_cons_self ..)
      have c1 := h.head.2.2 c hc
      have g0 : t.2.2.getD 0 = c := by rw [hc]; rfl
      rw [g0] at ge
      omega
/-- NB by the place -/
theorem nb_at : ∀ {ts : List Trn}, Srt ts → ∀ {n : Int} {k : Nat} {t : Trn} {a x : Int}, ts[k]? = some t → (ahd n ts)[k]? = some a → t.1 < x → (∀ j u, k < j → ts[j]? = some u → x ≤ u.1) → n + NB ts x = a + nbT t x
  | [], _, n, k, t, a, x, e, _, _, _ => by simp at e
  | h :: ts, hs, n, 0, t, a, x, e, ea, l, g => by
    have e : some h = some t := e
    have ea : some n = some a := ea
    cases e
    cases ea
    have z : NB ts x = 0 := NB_zero hs.tail.1 fun u hu => by
      obtain ⟨j, hj⟩ := List.getElem?_of_mem hu
      exact g (j + 1) u (Nat.succ_pos j) hj
    show n + (nbT h x + NB ts x) = _
    omega
  | h :: ts, hs, n, k + 1, t, a, x, e, ea, l, g => by
    have e : ts[k]? = some t := e
    have ea : (ahd (n + h.2.2.getD 0) ts)[k]? = some a := ea
    have ih := nb_at hs.tail e ea l (fun j u hj hu => g (j + 1) u (Nat.succ_lt_succ hj) hu)
    obtain ⟨c, hc, hl⟩ := hs.lt t (List.mem_of_getElem? e)
    have := nbT_all hs.head hc (x := x) (by omega)
    rw [hc] at ih
    have ih : n + c + NB ts x = a + nbT t x := ih
    show n + (nbT h x + NB ts x) = _
    omega
theorem at_at : ∀ {ts : List Trn}, Srt ts → ∀ {n : Int} {k : Nat} {t : Trn} {a i y : Int}, ts[k]? = some t → (ahd n ts)[k]? = some a → a ≤ n + i → (∀ j b, k < j → (ahd n ts)[j]? = some b → n + i < b) → At ts i = some y → y = t.1 + (n + i - a) * t.2.1
  | [], _, n, k, t, a, i, y, e, _, _, _, _ => by simp at e
  | h :: ts, hs, n, 0, t, a, i, y, e, ea, l, g, hy => by
    have e : some h = some t := e
    have ea : some n = some a := ea
    cases e
    cases ea
    have lo : ∀ c, h.2.2 = some c → i < c := fun c hc => by
      by_cases q : i < c
      · exact q
      · rw [At_some_t hc, if_neg q] at hy
        cases ts with
        | nil => cases hy
        | cons u ts =>
          have := g 1 (n + h.2.2.getD 0) (by decide) rfl
          rw [hc] at this
          have : n + i < n + c := this
          omega
    rw [At_lo lo] at hy
    have := Option.some.inj hy
    rw [show n + i - n = i by omega]
    exact this.symm
  | h :: ts, hs, n, k + 1, t, a, i, y, e, ea, l, g, hy => by
    have e : ts[k]? = some t := e
    have ea : (ahd (n + h.2.2.getD 0) ts)[k]? = some a := ea
    obtain ⟨c, hc, hl⟩ := hs.lt t (List.mem_of_getElem? e)
    have ge := ahd_ge hs.tail.1 ea
    have g0 : h.2.2.getD 0 = c := by rw [hc]; rfl
    rw [g0] at ea ge
    rw [At_some_t hc, if_neg (by omega)] at hy
    have ih := at_at hs.tail e ea (i := i - c) (y := y) (by omega) (fun j b hj hb => by
      have := g (j + 1) b (Nat.succ_lt_succ hj) (by show (ahd (n + h.2.2.getD 0) ts)[j]? = some b; rw [g0]; exact hb)
      omega) hy
    rw [show n + i - a = n + c + (i - c) - a by omega]
    exact ih
def memT (ts : List Trn) (x : Int) : Bool := decide (NB ts x < NB ts (x + 1))

/-- the counts of the first i -/
def sumC : List Trn → Int
  | [] => 0
  | t :: ts => t.2.2.getD 0 + sumC ts
theorem sumC_app : ∀ (ts us : List Trn), sumC (ts ++ us) = sumC ts + sumC us
  | [], us => by show sumC us = 0 + sumC us; omega
  | t :: ts, us => by
    show t.2.2.getD 0 + sumC (ts ++ us) = t.2.2.getD 0 + sumC ts + sumC us
    rw [sumC_app ts us]
    omega
theorem ahd_app : ∀ (ts us : List Trn) (n : Int), ahd n (ts ++ us) = ahd n ts ++ ahd (n + sumC ts) us
  | [], us, n => by show ahd n us = [] ++ ahd (n + 0) us; simp
  | t :: ts, us, n => by
    show n :: ahd (n + t.2.2.getD 0) (ts ++ us) = n :: (ahd (n + t.2.2.getD 0) ts ++ ahd (n + (t.2.2.getD 0 + sumC ts)) us)
    rw [ahd_app ts us, Int.add_assoc]
theorem ahd_take {ts : List Trn} {i : Nat} {t : Trn} (h : ts[i]? = some t) : ahd 0 (ts.take (i + 1)) = ahd 0 (ts.take i) ++ [sumC (ts.take i)] := by
  rw [List.take_add_one, h, ahd_app]
  show _ ++ [0 + sumC (ts.take i)] = _
  rw [Int.zero_add]
  all_goals rfl
theorem sumC_take {ts : List Trn} {i : Nat} {t : Trn} (h : ts[i]? = some t) : sumC (ts.take (i + 1)) = sumC (ts.take i) + t.2.2.getD 0 := by
  rw [List.take_add_one, h, sumC_app]
  show _ + (t.2.2.getD 0 + 0) = _
  rw [Int.add_zero]
theorem tot_sum : ∀ {ts : List Trn}, (∀ t ∈ ts, t.2.2 ≠ none) → Tot ts = some (sumC ts)
  | [], _ => rfl
  | t :: ts, h => by
    have h1 := h t (List.mem_cons_self ..)
    have ih := tot_sum (ts := ts) fun u hu => h u (List.mem_cons_of_mem _ hu)
    cases hk : t.2.2 with
    | none => exact absurd hk h1
    | some c =>
      show (match t.2.2 with | none => none | some c => addO c (Tot ts)) = some (t.2.2.getD 0 + sumC ts)
      rw [hk, ih]
      rfl
theorem tot_none : ∀ {ts : List Trn} {t : Trn}, t ∈ ts → t.2.2 = none → Tot ts = none
  | u :: ts, t, hm, e => by
    show (match u.2.2 with | none => none | some c => addO c (Tot ts)) = none
    cases hk : u.2.2 with
    | none => rfl
    | some c =>
      rcases List.mem_cons.mp hm with rfl | hm
      · rw [e] at hk; cases hk
      · show addO c (Tot ts) = none
        rw [tot_none hm e]
        rfl
/-- of sorted trains only the last may go on for ever -/
theorem srt_last {ts : List Trn} (h : Srt ts) {t : Trn} (ht : t ∈ ts) (e : t.2.2 = none) : ts.getLast? = some t := by
  induction ts with
  | nil => simp at ht
  | cons u ts ih =>
    cases ts with
    | nil =>
      have : t = u := by simpa using ht
      rw [this]
      rfl
    | cons v ts =>
      rw [List.getLast?_cons_cons]
      rcases List.mem_cons.mp ht with rfl | ht
      · obtain ⟨c, hc, _⟩ := h.lt v (List.mem_cons_self ..)
        rw [e] at hc
        cases hc
      · exact ih h.tail ht
/-- the first time from x on -/
def nxT (ts : List Trn) (x : Int) : Option Int := At ts (NB ts x)
/-! ### times listed -/
def tmT (t : Trn) (B : Int) : List Int := (List.range (nbT t B).toNat).map fun j => t.1 + t.2.1 * (j : Nat)
def tms (ts : List Trn) (B : Int) : List Int := ts.flatMap fun t => tmT t B
def sgl (xs : List Int) : List Trn := xs.map fun x => (x, 1, some 1)
theorem NB_le_of_at {ts us : List Trn} (h : Srt ts) (h' : Srt us) (e : ∀ i, 0 ≤ i → At ts i = At us i) (x : Int) : NB ts x ≤ NB us x := by
  by_cases q : NB ts x ≤ NB us x
  · exact q
  · have i0 := NB_nn h'.1 x
    have hi : NB us x < NB ts x := by omega
    cases ea : At ts (NB us x) with
    | none =>
      obtain ⟨n, e1, e2⟩ := (At_none h.1 i0).mp ea
      have := NB_tot h.1 e1 x
      omega
    | some y =>
      have l1 := (At_lt h i0 ea x).mp hi
      rw [e _ i0] at ea
      have := (At_lt h' i0 ea x).mpr l1
      omega
theorem NB_same {ts us : List Trn} (h : Srt ts) (h' : Srt us) (e : ∀ i, 0 ≤ i → At ts i = At us i) (x : Int) : NB ts x = NB us x :=
  Int.le_antisymm (NB_le_of_at h h' e x) (NB_le_of_at h' h (fun i i0 => (e i i0).symm) x)
theorem nfs_at_iff {ts us : List Trn} (h : Srt ts) (h' : Srt us) : nfs ts = nfs us ↔ ∀ i, 0 ≤ i → At ts i = At us i :=
  ⟨fun e i i0 => At_same h h' ((nfs_iff h h').mp e) i0, fun e => (nfs_iff h h').mpr (NB_same h h' e)⟩
theorem nbT_nn' (t : Trn) (h : OkTr t) (B : Int) : ((nbT t B).toNat : Int) = nbT t B := by
  have := nbT_nn h B
  omega
theorem tmT_len {t : Trn} (h : OkTr t) (B : Int) : ((tmT t B).length : Int) = nbT t B := by
  unfold tmT
  rw [List.length_map, List.length_range]
  exact nbT_nn' t h B
theorem tms_len {ts : List Trn} (h : ∀ t ∈ ts, OkTr t) (B : Int) : ((tms ts B).length : Int) = NB ts B := by
  induction ts with
  | nil => rfl
  | cons t ts ih =>
    have := tmT_len (h t (List.mem_cons_self ..)) B
    have := ih fun u hu => h u (List.mem_cons_of_mem _ hu)
    show ((tmT t B ++ tms ts B).length : Int) = nbT t B + NB ts B
    rw [List.length_append]
    omega
theorem tmT_get {t : Trn} {B : Int} {j : Nat} (h : (j : Int) < nbT t B) : (tmT t B)[j]? = some (t.1 + j * t.2.1) := by
  unfold tmT
  rw [List.getElem?_map, List.getElem?_range (by omega)]
  show some _ = some _
  rw [Int.mul_comm]
theorem tms_get : ∀ {ts : List Trn}, Srt ts → ∀ {B : Int} {j : Nat}, (j : Int) < NB ts B → (tms ts B)[j]? = At ts j
  | [], _, B, j, hj => by
    have hj : (j : Int) < 0 := hj
    omega
  | t :: ts, h, B, j, hj => by
    have ht := h.head
    have hlen := tmT_len ht B
    have hj : (j : Int) < nbT t B + NB ts B := hj
    show (tmT t B ++ tms ts B)[j]? = _
    by_cases q : (j : Int) < nbT t B
    · rw [List.getElem?_append_left (by omega), tmT_get q, At_lo]
      intro c hc
      have := nbT_le (x := B) hc
      omega
    · have hN : 0 < NB ts B := by omega
      have : ∃ u ∈ ts, u.1 < B := by
        by_cases z : ∃ u ∈ ts, u.1 < B
        · exact z
        · have := NB_zero h.tail.1 (x := B) fun u hu => by
            by_cases w : B ≤ u.1
            · exact w
            · exact absurd ⟨u, hu, by omega⟩ z
          omega
      obtain ⟨u, hu, hB⟩ := this
      obtain ⟨c, hc, hl⟩ := h.lt u hu
      have e := nbT_all ht hc (x := B) (by omega)
      rw [List.getElem?_append_right (by omega), At_some_t hc, if_neg (by omega)]
      have e2 : ((j - (tmT t B).length : Nat) : Int) = j - c := by omega
      rw [tms_get h.tail (by omega), e2]
theorem At_asc {ts : List Trn} (h : Srt ts) {i j y z : Int} (i0 : 0 ≤ i) (hij : i < j) (hy : At ts i = some y) (hz : At ts j = some z) : y < z := by
  have h1 := At_lt h i0 hy (z + 1)
  have h2 := At_lt h (i := j) (by omega) hz (z + 1)
  have h3 := At_lt h i0 hy z
  have h4 := At_lt h (i := j) (by omega) hz z
  have h5 := NB_step h z
  omega
theorem tms_asc {ts : List Trn} (h : Srt ts) (B : Int) : (tms ts B).Pairwise (· < ·) := by
  refine List.pairwise_iff_getElem.mpr fun i j hi hj hij => ?_
  have hl := tms_len h.1 B
  have e1 := tms_get h (B := B) (j := i) (by omega)
  have e2 := tms_get h (B := B) (j := j) (by omega)
  rw [List.getElem?_eq_getElem hi] at e1
  rw [List.getElem?_eq_getElem hj] at e2
  exact At_asc h (by omega) (by omega) e1.symm e2.symm
theorem At_nn {ts : List Trn} (h : Srt ts) {i y : Int} (i0 : 0 ≤ i) (hy : At ts i = some y) : 0 ≤ y := by
  have h1 := At_lt h i0 hy 0
  have h2 : NB ts 0 = 0 := NB_zero h.1 fun t ht => (h.1 t ht).1
  omega
theorem tms_nn {ts : List Trn} (h : Srt ts) (B : Int) : ∀ x ∈ tms ts B, 0 ≤ x := by
  intro x hx
  obtain ⟨j, hj⟩ := List.getElem?_of_mem hx
  have hl := tms_len h.1 B
  have hlt := (List.getElem?_eq_some_iff.mp hj).1
  rw [tms_get h (by omega)] at hj
  exact At_nn h (by omega) hj
theorem tms_lt {ts : List Trn} (h : Srt ts) (B : Int) : ∀ x ∈ tms ts B, x < B := by
  intro x hx
  obtain ⟨j, hj⟩ := List.getElem?_of_mem hx
  have hl := tms_len h.1 B
  have hlt := (List.getElem?_eq_some_iff.mp hj).1
  rw [tms_get h (by omega)] at hj
  exact (At_lt h (by omega) hj B).mp (by omega)
theorem sgl_srt {xs : List Int} (h : xs.Pairwise (· < ·)) (h0 : ∀ x ∈ xs, 0 ≤ x) : Srt (sgl xs) := by
  refine ⟨fun t ht => ?_, ?_⟩
  · obtain ⟨x, hx, rfl⟩ := List.mem_map.mp ht
    exact ⟨h0 x hx, Int.le_refl _, fun c hc => by cases hc; exact Int.le_refl _⟩
  · unfold sgl
    rw [List.pairwise_map]
    exact h.imp fun {a b} l => ⟨1, rfl, by show a + (1 - 1) * 1 < b; omega⟩
theorem sgl_at : ∀ (xs : List Int) (j : Nat), At (sgl xs) j = xs[j]?
  | [], j => rfl
  | x :: xs, 0 => by
    show At ((x, 1, some 1) :: sgl xs) 0 = some x
    rw [At_some_t rfl, if_pos (by decide)]
    show some (x + 0 * 1) = _
    rw [Int.zero_mul, Int.add_zero]
  | x :: xs, j + 1 => by
    show At ((x, 1, some 1) :: sgl xs) ((j + 1 : Nat) : Int) = xs[j]?
    rw [At_some_t rfl, if_neg (by omega), ← sgl_at xs j]
    congr 1
    omega
/-- the times of trains with another step, one time each -/
theorem at_ones {us : List Trn} {xs : List Int} (h : us.map (fun t => (t.1, t.2.2)) = xs.map fun x => (x, some 1)) : ∀ j : Int, 0 ≤ j → At us j = At (sgl xs) j := by
  induction us generalizing xs with
  | nil =>
    cases xs with
    | nil => intro j _; rfl
    | cons x xs => simp at h
  | cons u us ih =>
    cases xs with
    | nil => simp at h
    | cons x xs =>
      intro j j0
      rw [List.map_cons, List.map_cons] at h
      obtain ⟨h1, h2⟩ := List.cons.inj h
      have hk : u.2.2 = some 1 := congrArg Prod.snd h1
      have hx : u.1 = x := congrArg Prod.fst h1
      rw [At_some_t hk]
      show _ = At ((x, 1, some 1) :: sgl xs) j
      rw [At_some_t rfl]
      by_cases q : j < 1
      · have j00 : j = 0 := by omega
        subst j00
        rw [if_pos q, if_pos q]
        show some (u.1 + 0 * u.2.1) = some (x + 0 * 1)
        rw [Int.zero_mul, Int.zero_mul, hx]
      · rw [if_neg q, if_neg q]
        exact ih h2 (j - 1) (by omega)
/-- all times of finite trains, listed -/
theorem nfs_tms {ts : List Trn} (h : Srt ts) {B n : Int} (ht : Tot ts = some n) (hB : NB ts B = n) : nfs (sgl (tms ts B)) = nfs ts := by
  refine (nfs_at_iff (sgl_srt (tms_asc h B) (tms_nn h B)) h).mpr fun i i0 => ?_
  have e : i = ((i.toNat : Nat) : Int) := by omega
  rw [e, sgl_at]
  have hl := tms_len h.1 B
  by_cases q : (i.toNat : Int) < NB ts B
  · exact tms_get h q
  · rw [(At_none h.1 (by omega)).mpr ⟨n, ht, by omega⟩]
    rw [List.getElem?_eq_none_iff]
    omega
theorem NB_full {ts : List Trn} (h : ∀ t ∈ ts, OkTr t) {n B : Int} (ht : Tot ts = some n) (hB : ∀ t ∈ ts, ∀ c, t.2.2 = some c → t.1 + (c - 1) * t.2.1 < B) : NB ts B = n := by
  induction ts generalizing n with
  | nil => cases ht; rfl
  | cons t ts ih =>
    cases hk : t.2.2 with
    | none =>
      have e2 : Tot (t :: ts) = none := by
        show (match t.2.2 with | none => none | some c => addO c (Tot ts)) = _
        rw [hk]
      rw [e2] at ht
      cases ht
    | some c =>
      have e2 : Tot (t :: ts) = addO c (Tot ts) := by
        show (match t.2.2 with | none => none | some c => addO c (Tot ts)) = _
        rw [hk]
      rw [e2] at ht
      cases hT : Tot ts with
      | none => rw [hT] at ht; cases ht
      | some m =>
        rw [hT] at ht
        have z : c + m = n := Option.some.inj ht
        have h1 := nbT_all (h t (List.mem_cons_self ..)) hk (hB t (List.mem_cons_self ..) c hk)
        have h2 := ih (fun u hu => h u (List.mem_cons_of_mem _ hu)) hT fun u hu => hB u (List.mem_cons_of_mem _ hu)
        show nbT t B + NB ts B = n
        omega
/-! one time behind the other -/
def nmS (f : List Trn) (x : Int) : List Trn := match f.getLast? with
  | none => [(x, 1, some 1)]
  | some t => if t.2.2.getD 0 = 1 ∨ x - t.1 - t.2.1 * (t.2.2.getD 0 - 1) = t.2.1 then f.dropLast ++ [(t.1, x - t.1 - t.2.1 * (t.2.2.getD 0 - 1), some (t.2.2.getD 0 + 1))] else f ++ [(x, 1, some 1)]
def nmL (xs : List Int) : List Trn := xs.foldl nmS []
theorem nmS_join {g : List Trn} {t : Trn} {x c : Int} (hc : t.2.2 = some c) : nmS (g ++ [t]) x = g ++ joinL t (x, 1, some 1) := by
  have e1 : (g ++ [t]).getLast? = some t := by simp
  have e2 : (g ++ [t]).dropLast = g := by simp
  have ec : t.2.2.getD 0 = c := by rw [hc]; rfl
  unfold nmS
  rw [e1]
  show (if t.2.2.getD 0 = 1 ∨ x - t.1 - t.2.1 * (t.2.2.getD 0 - 1) = t.2.1 then (g ++ [t]).dropLast ++ [(t.1, x - t.1 - t.2.1 * (t.2.2.getD 0 - 1), some (t.2.2.getD 0 + 1))] else g ++ [t] ++ [(x, 1, some 1)]) = _
  rw [ec, e2]
  have ej : joinL t (x, 1, some 1) = joinC t (x, 1, some 1) c := by unfold joinL; rw [hc]
  rw [ej]
  unfold joinC
  have pc : t.2.1 * (c - 1) = c * t.2.1 - t.2.1 := by rw [Int.mul_sub, Int.mul_one, Int.mul_comm]
  have e0 : (x, 1, some 1).1 = x := rfl
  by_cases c1 : c = 1
  · subst c1
    rw [if_pos (.inl rfl)]
    have es : joinS t (x, 1, some 1) 1 = x - t.1 := by unfold joinS; rw [if_pos rfl]
    rw [es, if_pos (by show t.1 + 1 * (x - t.1) = x; omega)]
    have eg : x - t.1 - t.2.1 * (1 - 1) = x - t.1 := by rw [show (1 : Int) - 1 = 0 by rfl, Int.mul_zero, Int.sub_zero]
    rw [eg]
    by_cases w : (1 : Int) = x - t.1
    · rw [if_pos (show ((x, 1, some 1) : Trn).2.1 = x - t.1 from w)]
      rfl
    · rw [if_neg (show ¬ ((x, 1, some 1) : Trn).2.1 = x - t.1 from w)]
      rfl
  · have es : joinS t (x, 1, some 1) c = t.2.1 := by unfold joinS; rw [if_neg c1]
    rw [es]
    by_cases w : x - t.1 - t.2.1 * (c - 1) = t.2.1
    · rw [if_pos (.inr w), if_pos (show t.1 + c * t.2.1 = x by omega), w]
      by_cases v : (1 : Int) = t.2.1
      · rw [if_pos (show ((x, 1, some 1) : Trn).2.1 = t.2.1 from v)]
        rfl
      · rw [if_neg (show ¬ ((x, 1, some 1) : Trn).2.1 = t.2.1 from v)]
        rfl
    · rw [if_neg (by rintro (q | q); exact c1 q; exact w q), if_neg (show ¬ t.1 + c * t.2.1 = x by omega), List.append_assoc]
      rfl
theorem nmS_nil (x : Int) : nmS [] x = [(x, 1, some 1)] := rfl
theorem joinL_fin {t : Trn} {x c : Int} (hc : t.2.2 = some c) (c1 : 1 ≤ c) (h1 : t.2.2 = some 1 → t.2.1 = 1) : ∀ g la, joinL t (x, 1, some 1) = g ++ [la] → (∃ d, la.2.2 = some d ∧ 1 ≤ d) ∧ (la.2.2 = some 1 → la.2.1 = 1) := by
  intro g la e
  have hm := nmS_join (g := []) (x := x) hc
  rw [List.nil_append, List.nil_append] at hm
  rw [← hm] at e
  unfold nmS at e
  have e1 : ([t] : List Trn).getLast? = some t := rfl
  rw [e1] at e
  have e : (if t.2.2.getD 0 = 1 ∨ x - t.1 - t.2.1 * (t.2.2.getD 0 - 1) = t.2.1 then ([] : List Trn) ++ [(t.1, x - t.1 - t.2.1 * (t.2.2.getD 0 - 1), some (t.2.2.getD 0 + 1))] else [t] ++ [(x, 1, some 1)]) = g ++ [la] := e
  have ec : t.2.2.getD 0 = c := by rw [hc]; rfl
  split at e
  · have := (List.append_inj' e rfl).2
    have z := (List.cons.inj this).1
    rw [← z, ec]
    exact ⟨⟨c + 1, rfl, by omega⟩, fun q => by have z2 : c + 1 = 1 := Option.some.inj q; omega⟩
  · have := (List.append_inj' e rfl).2
    have z := (List.cons.inj this).1
    rw [← z]
    exact ⟨⟨1, rfl, by decide⟩, fun _ => rfl⟩
theorem nfG_sgl : ∀ (xs : List Int) (cl : List Trn) (t : Trn) (c : Int), t.2.2 = some c → 1 ≤ c → (t.2.2 = some 1 → t.2.1 = 1) → nfG cl (some t) (sgl xs) = xs.foldl nmS (cl ++ [t])
  | [], cl, t, c, _, _, h1 => by
    show cl ++ [plainT t] = cl ++ [t]
    unfold plainT
    by_cases q : t.2.2 = some 1
    · rw [if_pos q]
      have e1 := h1 q
      obtain ⟨a, b, k⟩ := t
      have e2 : k = some 1 := q
      have e3 : b = 1 := e1
      rw [e2, e3]
    · rw [if_neg q]
  | x :: xs, cl, t, c, hc, c1, h1 => by
    show nfG (cl ++ (joinL t (x, 1, some 1)).dropLast) (joinL t (x, 1, some 1)).getLast? (sgl xs) = xs.foldl nmS (nmS (cl ++ [t]) x)
    rw [nmS_join hc]
    obtain ⟨v, zs, ev, _⟩ := joinL_head (f := (x, 1, some 1)) hc c1
    have ne : joinL t (x, 1, some 1) ≠ [] := by rw [ev]; simp
    have eg := List.dropLast_concat_getLast ne
    obtain ⟨⟨d, hd, d1⟩, hl⟩ := joinL_fin (x := x) hc c1 h1 _ _ eg.symm
    rw [List.getLast?_eq_some_getLast ne, nfG_sgl xs _ _ d hd d1 hl, List.append_assoc, eg]
theorem nmL_nfs (xs : List Int) : nmL xs = nfs (sgl xs) := by
  cases xs with
  | nil => rfl
  | cons x xs =>
    show xs.foldl nmS [(x, 1, some 1)] = nfG [] (some (x, 1, some 1)) (sgl xs)
    rw [nfG_sgl xs [] (x, 1, some 1) 1 rfl (by decide) fun _ => rfl]
    rfl

/-! ### rules inside comprehensions -/
theorem call_lenK {X : Cx} {K : PySem.W.Frag} (h : X.K = K) : CallR X (.builtin "len") (fun xs H Q => ∃ p ys, xs = [.ref p] ∧ (SqL K H p ys ∨ SqT K H p ys) ∧ Q (.int ys.length) H) := h ▸ call_len_seq
theorem call_listK {X : Cx} {K : PySem.W.Frag} (h : X.K = K) : CallR X (.type "list") (fun xs H Q => ∃ p ys, xs = [.ref p] ∧ (SqL K H p ys ∨ SqT K H p ys) ∧ ∀ l, H l = none → Q (.ref l) (upd H l (.lst ys))) := h ▸ call_list_of
theorem op_neDK {X : Cx} {K : PySem.W.Frag} (h : X.K = K) (hu : X.A.units + 64 < cLine) : OpR X (compareOp .NotEq) (rNeD K) := h ▸ op_neD hu
theorem op_eqDK {X : Cx} {K : PySem.W.Frag} (h : X.K = K) (hu : X.A.units + 64 < cLine) : OpR X (compareOp .Eq) (rEqD K) := h ▸ op_eqD hu
theorem op_inK {X : Cx} {K : PySem.W.Frag} (h : X.K = K) : OpR X (compareOp CmpOp.In) (rIn K false) := h ▸ op_in_seq
theorem op_notInK {X : Cx} {K : PySem.W.Frag} (h : X.K = K) : OpR X (compareOp CmpOp.NotIn) (rIn K true) := h ▸ op_notIn_seq
/-! ### list.count of strings -/
def eqs (k : Str) (v : Value) : Bool := match v with
  | .str n _ => n == k
  | _ => false
def rCntS (K : PySem.W.Frag) : V → List V → Hp → VK → Prop := fun x xs H Q => ∃ (p : Addr) (ss : List Str) (k : Str), x = .ref p ∧ xs = [.str k] ∧ SqL K H p (ss.map V.str) ∧ Q (.int (ss.countP (fun y => decide (y = k)) : Nat)) H
theorem eqs_at {k : Str} {t : Tok} {A : Around} {s : Shared} : ∀ {ss : List Str} {us : List Value}, Vals (ss.map V.str) us → ∀ y ∈ us, SeqAt.EqAt A s y (.str k t) (eqs k y)
  | [], us, r => by
    rw [List.map_nil] at r
    cases r
    exact fun y hy => nomatch hy
  | n :: ss, us, r => by
    rw [List.map_cons] at r
    cases r with
    | cons r1 r2 =>
      obtain ⟨t', rfl⟩ := r1
      intro y hy
      rcases List.mem_cons.mp hy with q | q
      · rw [q]
        exact SeqAt.EqAt.str_str n t' k t
      · exact eqs_at r2 y q
theorem eqs_count {k : Str} : ∀ {ss : List Str} {us : List Value}, Vals (ss.map V.str) us → us.countP (eqs k) = ss.countP fun y => decide (y = k)
  | [], us, r => by
    rw [List.map_nil] at r
    cases r
    rfl
  | n :: ss, us, r => by
    rw [List.map_cons] at r
    cases r with
    | cons r1 r2 =>
      obtain ⟨t', rfl⟩ := r1
      have ih := eqs_count (k := k) r2
      rw [List.countP_cons, List.countP_cons, ih]
      rfl
theorem mt_scount {X : Cx} : MtR X "list.count" (rCntS X.K) := by
  intro pins s σ H x xs v us Q I rx rxs h
  obtain ⟨p, ns, k, rfl, rfl, hs, q⟩ := h
  cases rx
  obtain ⟨u, rfl, ru⟩ := rxs.one
  obtain ⟨t, rfl⟩ := ru
  obtain ⟨its, rv, ⟨⟨cls, dd, data, sl⟩, n, ho, hc, hdn, hd⟩, hlen⟩ := I.list hs
  simp only at hc hd
  subst hc hd
  refine call_meets PySem.F.slot_list_count ⟨_, ho, rfl⟩ PySem.F.entry_list_count (PySem.F.args_list_count_2 _ _)
    (SeqAt.list_countAt p its.toArray n dd sl (.str k t) (eqs k)) ⟨ho, fun y hy => eqs_at rv y (by simpa using hy), ?_⟩
  have ec : its.toArray.toList.countP (eqs k) = ns.countP fun y => decide (y = k) := eqs_count rv
  refine ⟨.int (ns.countP (fun y => decide (y = k)) : Nat), H, I.tok _, ⟨s.toks, ?_⟩, q⟩
  show Value.int ((its.toArray.toList.countP (eqs k) : Nat) : Int) s.toks = Value.int ((ns.countP (fun y => decide (y = k)) : Nat) : Int) s.toks
  rw [ec]
/-- a comprehension over enumerate -/
theorem lc_enum {K : PySem.W.Frag} {a : Addr} {xs : List V} {g : TG} {tt : TT} {te : TE} {vs : List Nat} {σ : L2.St} {H1 : Hp} {D : Addr} {Qd : Hp → Prop} (Pv : Nat → Hp → Prop) (h0 : Pv 0 (upd H1 D (.lst []))) (hl : ∀ i H, Pv i H → SqL K H a xs)
    (hs : ∀ (i : Nat) (x : V) (T : Addr) (H : Hp), xs[i]? = some x → Pv i H → H T = none → g (.ref T) (wipe σ vs) (upd H T (.tup [.int (i : Nat), x])) fun σ2 H2 => wipe σ2 vs = wipe σ vs ∧ tt σ2 H2 fun b H3 =>
      if b = true then te σ2 H3 fun y H4 => ∃ acc, H4 D = some (.lst acc) ∧ acc.length < sizeLine ∧ Pv (i + 1) (upd H4 D (.lst (acc ++ [y]))) else Pv (i + 1) H3) (hd : ∀ H, Pv xs.length H → Qd H) :
    ∃ W : Nat → Nat → Hp → Prop, (∃ m, W 0 m (upd H1 D (.lst []))) ∧ ∀ i m H, W i m H → ((Ite K a).stop i H ∧ Qd H) ∨ ((Ite K a).go i H ∧ ∃ Nx : Hp → Prop, (∀ H', Nx H' → ∃ m', m' < m ∧ W (i + 1) m' H') ∧ ∀ x H', (Ite K a).yld i H x H' → g x (wipe σ vs) H' fun σ2 H2 => wipe σ2 vs = wipe σ vs ∧ tt σ2 H2 fun b H3 =>
        if b = true then te σ2 H3 fun y H4 => ∃ acc, H4 D = some (.lst acc) ∧ acc.length < sizeLine ∧ Nx (upd H4 D (.lst (acc ++ [y]))) else Nx H3) := by
  refine ⟨fun i m H => m = xs.length - i ∧ i ≤ xs.length ∧ Pv i H, ⟨xs.length, by omega, Nat.zero_le _, h0⟩, ?_⟩
  rintro i m H ⟨rfl, hi, p⟩
  have q := hl i H p
  by_cases hlt : i < xs.length
  · refine .inr ⟨⟨xs, xs[i], q, List.getElem?_eq_getElem hlt⟩, Pv (i + 1), fun H' p' => ⟨xs.length - (i + 1), by omega, rfl, hlt, p'⟩, fun v H' y => ?_⟩
    obtain ⟨T, x', rfl, hT, rfl, f⟩ := y
    exact hs i x' T H (f xs q) p hT
  · have e : i = xs.length := by omega
    subst e
    exact .inl ⟨⟨xs, q, Nat.le_refl _⟩, hd H p⟩
theorem op_powW {X : Cx} : OpR X (binaryOp .Pow) (rI (fun i j => 0 ≤ j ∧ (Builtin.Int.intBits i : Int) * j ≤ 2 ^ 27) fun i j => .int (i ^ j.toNat)) := opI fun _ _ _ _ _ _ _ hc q => PyProof.Rows.pow_int hc.1 hc.2 q
/-! ### list.count over data -/
def rCntD (K : PySem.W.Frag) : V → List V → Hp → VK → Prop := fun x xs H Q => ∃ (p : Addr) (ys : List V) (ds : List PyData) (y : V) (d : PyData), x = .ref p ∧ xs = [y] ∧ SqL K H p ys ∧ DpAll K H ys ds ∧ Dp K H y d ∧ PyData.plainAll ds = true ∧ d.plain = true ∧ d.depth ≤ 10 ∧ Q (.int (ds.countP (fun e => PyData.eqv e d) : Nat)) H
theorem mt_dcount {X : Cx} (hu : X.A.units + 64 < cLine) : MtR X "list.count" (rCntD X.K) := by
  intro pins s σ H x xs v us Q I rx rxs h
  obtain ⟨p, ys, ds, y, d, rfl, rfl, hs, hd, hy, p1, p2, dl, q⟩ := h
  cases rx
  obtain ⟨u, rfl, ru⟩ := rxs.one
  obtain ⟨its, rv, hl, hlen⟩ := I.list hs
  obtain ⟨as, r1⟩ := Dp.readsAll I ds _ its hd rv
  obtain ⟨bs, r2⟩ := Dp.reads I d y u hy ru
  refine SeqAt.count_list_data hl.isList r1 r2 p1 p2 (by omega) ?_
  exact ⟨.int _, H, I.tok _, ⟨s.toks, rfl⟩, q⟩
theorem call_tupK {X : Cx} {K : PySem.W.Frag} (h : X.K = K) : CallR X (.type "tuple") (fun xs H Q => ∃ p ys, xs = [V.ref p] ∧ ((SqL K H p ys ∧ ∀ l : Addr, H l = none → Q (.ref l) (upd H l (.tup ys))) ∨ SqT K H p ys ∧ Q (.ref p) H)) := h ▸ call_tuple_of
/-! ### defs that may raise -/
/-- a def that may raise, called by its name -/
structure CalX (P : Program) (w : World) (K : PySem.W.Frag) (mg : Str → Option Value) (base : Heap) (x : Str) (k : Nat) (f : Addr) (ps : List Str) (sp : Sp) : Prop where
  ex : ∃ fd, FnOk P w K mg base (L2.CX P w) k f fd ps sp ∧ Binds K fd ps []
  g : mg x = some (.ref f)
  kp : PySem.W.keepIn K (.ref f) = true
theorem Dfn.calX {P : Program} {w : World} {K : PySem.W.Frag} {mg : Str → Option Value} {base : Heap} {x : Str} {st : Stmt} {f : Addr} {ps : List Str} {k : Nat} {sp : Sp} (D : Dfn K mg x st f ps) (h : ∀ fd, Fun K x x st f fd → FnOk P w K mg base (L2.CX P w) k f fd ps sp) : CalX P w K mg base x k f ps sp := by
  obtain ⟨fd, F, b⟩ := D.ex
  exact ⟨⟨fd, h fd F, b⟩, D.g, F.kp⟩
theorem pe_cX {X : Cx} {x : Str} {k : Nat} {f : Addr} {ps : List Str} {sp : Sp} {t : TA} {e : Expr} {es : List Expr} {p pos : Pos} {E : L2.St → XK} (c : CalX X.prog X.w X.K X.mg X.base x k f ps sp) (hr : Room k X.A) (hg : Gl X x) (hx : ∀ σ, L2.PassesAt (L2.CX X.prog X.w) X σ (E σ))
    (ha : PA X (e :: es) t) (hdb : (x == ("__debug__" : Str)) = false := by decide) (he : starEach (e :: es) X.env = (false, eval e X.env) :: starEach es X.env := by rfl) (hpl : (backTo pos (starEach es X.env)).any (·.1) = false := by rfl) :
    PE X (.Call (.Name x p) (e :: es) [] pos) (L2.tCallS sp E t) := by
  obtain ⟨fd, F, b⟩ := c.ex
  exact L2.pe_callS F hr hg c.g c.kp b hx ha hdb he hpl
/-- the making of an error with one field -/
def spEI1 (C : Addr) (f : Str) : Sp := fun vs H Q _ => ∃ a v, vs = [.ref a, v] ∧ H a = some (L2.exo a C none) ∧ ∀ dx, H dx = none → dx ≠ a → Q .non (upd (upd H dx (L2.exd dx [(f, v)])) a (L2.exo a C (some dx)))
theorem raise1 {C : Addr} {f : Str} {v : V} {H : Hp} {Q E : XK} (k : ∀ d H', H' d = some (.xd [(f, v)]) → Same H H' → Q (.ref C) (some d) H') : ∀ a, H a = none → spEI1 C f [.ref a, v] (upd H a (L2.exo a C none))
    (fun u H2 => u = .non ∧ ∃ (d : Addr) (fs : List (Str × V)), H2 a = some (L2.exo a C (some d)) ∧ H2 d = some (L2.exd d fs) ∧ H d = none ∧ Q (.ref C) (some d) (upd (L2.del H2 a) d (.xd fs))) E := fun a na => by
  refine ⟨a, v, rfl, upd_same, fun dx nx ne => ⟨rfl, dx, [(f, v)], upd_same, by rw [upd_ne ne, upd_same], by rwa [upd_ne ne] at nx, k dx _ upd_same fun b o e => ?_⟩⟩
  rw [upd_ne ne] at nx
  have ba : b ≠ a := ne_of_none e na
  have bd : b ≠ dx := ne_of_none e nx
  rw [upd_ne bd, L2.del_ne ba, upd_ne ba, upd_ne bd, upd_ne ba]
  exact e
/-- in a suite the term may not speak of the suite's own context -/
theorem ix_listK {X : Cx} {K : PySem.W.Frag} (hK : X.K = K) : IxR X (rIxL K) := by
  subst hK
  exact ix_list
theorem mt_dcountK {X : Cx} {K : PySem.W.Frag} (hK : X.K = K) (hu : X.A.units + 64 < cLine) : MtR X "list.count" (rCntD K) := by
  subst hK
  exact mt_dcount hu
/-! ### a suite that is told of any error of the text -/
def rIsZ (K : PySem.W.Frag) (a : Addr) (cls : Value) (d : Option Addr) : List V → Hp → VK → Prop := fun xs H Q => ∃ D dd : Addr, cls = .ref D ∧ d = some dd ∧ IsC K D ∧ rIsX K D a dd xs H Q
theorem call_isZ {X : Cx} {K : PySem.W.Frag} {a : Addr} {cls : Value} {d : Option Addr} {oe : Obj} {pn : List (Addr × Obj)} (hK : X.K = K) (hz : L2.Zc cls d oe) (hf : ∃ vs, oe.data = .fields vs) : CallR (X.suite a ((a, oe) :: pn)) (.builtin "isinstance") (rIsZ K a cls d) := by
  subst hK
  rintro pins s σ H xs us Q I r ⟨D, dd, rfl, rfl, T, h⟩
  exact call_isX T hz hf pins s σ H xs us Q I r h
def rIsTZ (K : PySem.W.Frag) (a : Addr) (cls : Value) (d : Option Addr) : List V → Hp → VK → Prop := fun xs H Q => ∃ D : Addr, IsC K D ∧ rIsT K D a cls d xs H Q
theorem call_isTZ {X : Cx} {K : PySem.W.Frag} {a : Addr} {cls : Value} {d : Option Addr} {oe : Obj} {pn : List (Addr × Obj)} (hK : X.K = K) (hz : L2.Zc cls d oe) (hf : ∃ vs, oe.data = .fields vs) : CallR (X.suite a ((a, oe) :: pn)) (.builtin "isinstance") (rIsTZ K a cls d) := by
  subst hK
  rintro pins s σ H xs us Q I r ⟨D, T, h⟩
  exact call_isT T hz hf pins s σ H xs us Q I r h
def tXfZ (K : PySem.W.Frag) (a : Addr) (cls : Value) (d : Option Addr) (f : Str) (te : TE) : TE := fun σ H Q => ∃ C : Addr, L2.XfC K C ∧ PySem.W.findIn K (.ref C) f = some none ∧ L2.tXf a cls d C f te σ H Q
theorem pe_xfZ {X : Cx} {K : PySem.W.Frag} {a : Addr} {oe : Obj} {cls : Value} {d : Option Addr} {pn : List (Addr × Obj)} {e : Expr} {te : TE} {pos : Pos} {n : Str} (hK : X.K = K) (hz : L2.Zc cls d oe) (hf : ∃ vs, oe.data = .fields vs) (he : PE (X.suite a ((a, oe) :: pn)) e te) (hb : attributeBase e n X.env (eval e X.env) = eval e X.env := by rfl) :
    PE (X.suite a ((a, oe) :: pn)) (.Attribute e n pos) (tXfZ K a cls d n te) := by
  subst hK
  refine ⟨fun pins s σ H Q I ⟨C, T, no, h⟩ => ?_⟩
  exact (L2.pe_xf T no hz hf he hb).run pins s σ H Q I h
/-- a method of a builtin, the term over a K of its own -/
theorem pe_bmK {X : Cx} {K : PySem.W.Frag} {o e : Expr} {es : List Expr} {to : TE} {t : TA} {name : Str} {apos cpos : Pos} {T id : String} {r : V → List V → Hp → VK → Prop} (hK : X.K = K) (pa : PlainAttrs T) (slot : Slot T name id) (hty : typeOf (.builtin id) = pure (.type "method_descriptor")) (hm : L2.MtR X id r) (ho : PE X o to) (ha : PA X (e :: es) t)
    (hbase : attributeBase o name X.env (eval o X.env) = eval o X.env := by rfl)
    (hfew : ((backTo cpos (starEach (e :: es) X.env)).all (fun x => !x.1) && (backToKw cpos (keywordEach [] X.env)).all (fun x => x.1.isSome) && decide ((e :: es).length + ([] : List Keyword).length + (if ([] : List Keyword).isEmpty then 0 else 1) < 30)) = true := by rfl)
    (hline : (apos.endLine == cpos.line) = true := by rfl) (hs : starEach (e :: es) X.env = (false, eval e X.env) :: starEach es X.env := by rfl) (hplain : (backTo cpos (starEach es X.env)).any (·.1) = false := by rfl) :
    PE X (.Call (.Attribute o name apos) (e :: es) [] cpos) (L2.tBM K T r to t) := by
  subst hK
  exact pe_bm pa slot hty hm ho ha hbase hfew hline hs hplain
theorem clsIn_of {K : PySem.W.Frag} {B : Addr} (h : PySem.W.hasDictIn K B = true) : (PySem.W.clsIn K B).isSome = true := by
  obtain ⟨cd, hc, _⟩ := PySem.W.any_some h
  rw [hc] <;> rfl
/-- whether the error D is a B -/
theorem kit_of {K : PySem.W.Frag} {D B : Addr} {b : Bool} (xB : L2.XfC K B) (tB : PySem.W.typeIn K (.ref B) = some (.type "type")) (sd : PySem.W.subIn K (.ref D) (.ref D) = some true) (s : PySem.W.subIn K (.ref D) (.ref B) = some b) : PySem.W.kitOne K (.ref D) (.ref B) = some b := by
  unfold PySem.W.kitOne
  by_cases e : D = B
  · subst e
    rw [sd] at s
    rw [if_pos (beq_self_eq_true _)]
    exact s
  · rw [if_neg (by simpa using e)]
    have e2 : ((PySem.W.clsIn K B).isSome && PySem.W.typeIn K (.ref B) == some (.type "type")) = true := by rw [clsIn_of xB.hdC, tB] <;> rfl
    show (if ((PySem.W.clsIn K B).isSome && PySem.W.typeIn K (.ref B) == some (.type "type")) = true then PySem.W.subIn K (.ref D) (.ref B) else none) = some b
    rw [if_pos e2]
    exact s
theorem kit_ar {K : PySem.W.Frag} {D : Addr} {b : Bool} {x : String} (hm : PySem.W.kitMeta x = true) (s : PySem.W.subIn K (.ref D) (.type x) = some b) : PySem.W.kitOne K (.ref D) (.type x) = some b := by
  unfold PySem.W.kitOne
  rw [if_neg (by intro z; exact absurd (beq_iff_eq.mp z) (by intro q; cases q))]
  show (if PySem.W.kitMeta x = true then PySem.W.subIn K (.ref D) (.type x) else none) = some b
  rw [if_pos hm]
  exact s
/-- the text of repr, of what has a plain one -/
inductive ReprV : V → Str → Prop
  | int (i : Int) (h : i.natAbs.log2 < 1920) : ReprV (.int i) (toString i : String)
  | non : ReprV .non "None"
  | bl (b : Bool) : ReprV (.bl b) (if b then "True" else "False")
  | str (x : Str) (h : (reprText x).length ≤ sizeLine) : ReprV (.str x) (reprText x)
theorem call_reprP {X : Cx} : CallR X (.builtin "repr") (fun xs H Q => ∃ v s, xs = [v] ∧ ReprV v s ∧ Q (.str s) H) := by
  rintro pins s σ H xs us Q I r ⟨v, x, rfl, h, q⟩
  match us, r with
  | [_], .cons rx .nil =>
    cases h with
    | int i h =>
      obtain ⟨t, rfl⟩ := rx
      exact PySem.P.repr_of_int h ⟨.str _, H, I.tok _, ⟨_, rfl⟩, q⟩
    | non =>
      cases rx
      exact PySem.P.repr_of_none ⟨.str _, H, I.tok _, ⟨_, rfl⟩, q⟩
    | bl b =>
      cases rx
      cases b <;> exact PySem.P.repr_of_bool ⟨.str _, H, I.tok _, ⟨_, rfl⟩, q⟩
    | str x h =>
      obtain ⟨t, rfl⟩ := rx
      exact PySem.P.repr_of_str ⟨.str _, H, I.tok _, ⟨_, rfl⟩, q⟩ h
theorem exm_of {K : PySem.W.Frag} {D B : Addr} {b : Bool} (xB : L2.XfC K B) (tB : PySem.W.typeIn K (.ref B) = some (.type "type")) (s : PySem.W.subIn K (.ref D) (.ref B) = some b) : PySem.W.exmOne K (.ref D) (.ref B) = some b := by
  unfold PySem.W.exmOne
  rw [if_pos (by rw [xB.exC] <;> rfl)]
  have e2 : ((PySem.W.clsIn K B).isSome && PySem.W.typeIn K (.ref B) == some (.type "type")) = true := by rw [clsIn_of xB.hdC, tB] <;> rfl
  show (if ((PySem.W.clsIn K B).isSome && PySem.W.typeIn K (.ref B) == some (.type "type")) = true then PySem.W.subIn K (.ref D) (.ref B) else none) = some b
  rw [if_pos e2]
  exact s
/-! ### the making of errors -/
def spEI2 (C : Addr) (f g : Str) : Sp := fun vs H Q _ => ∃ a v u, vs = [.ref a, v, u] ∧ H a = some (L2.exo a C none) ∧ ∀ dx, H dx = none → dx ≠ a → Q .non (upd (upd (upd H dx (L2.exd dx [(f, v)])) a (L2.exo a C (some dx))) dx (L2.exd dx [(g, u), (f, v)]))
section
variable {P : Program} {w : World} {K : PySem.W.Frag} {mg : Str → Option Value} {base : Heap} {L : LA}
abbrev N_InvalidTrainsinit : List Str := ["self", "at"]
theorem sc_InvalidTrainsinit : FnScope N_InvalidTrainsinit ["self", "at"] (defScope st_InvalidTrains_init) := ⟨rfl, rfl, rfl, by decide +kernel, rfl, by decide +kernel, by decide +kernel⟩
theorem fn_InvalidTrainsinit (T : LX K mg L) {fd : FuncData} (F : Fun K "__init__" "InvalidTrains.__init__" st_InvalidTrains_init L.i_InvalidTrains fd) : FnOk P w K mg base CX0 1 L.i_InvalidTrains fd ["self", "at"] (spEI1 L.e_InvalidTrains "at") := by
  have nd := sc_InvalidTrainsinit.nd
  refine F.ok sc_InvalidTrainsinit (fun vs H Q E h => ?_) (fun cdv A outer S H vs Q E hr h => ?_)
  · obtain ⟨a, v, rfl, _⟩ := h
    rfl
  · obtain ⟨a, v, rfl, ha, k⟩ := h
    refine ⟨_, (pss_one (ps_ae (pv 0) (pv 1))), ?_⟩
    exact ⟨_, rfl, _, rfl, a, L.e_InvalidTrains, rfl, T.ae_InvalidTrains, T.ne_InvalidTrains_at, .inl ⟨ha, fun dx nx ne => k dx nx ne⟩⟩
end
theorem mk_InvalidTrains {X : Cx} {L : LA} (T : LX X.K X.mg L) (hr : Room 2 X.A) {e : Expr} {ta : TA} {p pos : Pos} (hg : Gl X "InvalidTrains") (ha : PA X [e] ta)
    (he : starEach (e :: []) X.env = (false, eval e X.env) :: starEach [] X.env := by rfl) (hpl : (backTo pos (starEach [] X.env)).any (·.1) = false := by rfl) :
    L2.PMk X (.Call (.Name "InvalidTrains" p) [e] [] pos) (L2.tMkO L.e_InvalidTrains (spEI1 L.e_InvalidTrains "at") [] ta) := by
  obtain ⟨fd, F, b⟩ := T.in_InvalidTrains
  exact pmk_ae T.ae_InvalidTrains T.hi_InvalidTrains T.ti_InvalidTrains (fn_InvalidTrainsinit T F) hr b .nil pass0 hg T.ge_InvalidTrains ha (by decide) he hpl

/-! ### repr of plain lists, tuples and of the empty dict, whatever the guards are -/
theorem codeAny_guards {M : Model} {A : Around} {c : Code} {R : Result → Shared → Prop} {s : Shared} (h : ∀ g, codeAny M { A with guards := some g } c R s) : codeAny M A c R s := fun Γ p hc hb =>
  h (guardsOf Γ.below) Γ p hc ⟨hb.1, hb.2.1, hb.2.2.1, fun g' e => by cases e; rfl, hb.2.2.2.2⟩
def listGF (self : Value) : Code × Pos → Bool := fun
  | (.builtin "list.__repr__.loop" ⟨v :: _, _⟩, _) => Builtin.List.listSameRef v self
  | _ => false
theorem listGF_cons (self : Value) (id : String) (v : Value) (rest : List Value) (kw : List (Str × Value)) (p : Pos) : listGF self (.builtin id ⟨v :: rest, kw⟩, p) = (decide (id = "list.__repr__.loop") && Builtin.List.listSameRef v self) := by
  by_cases h : id = "list.__repr__.loop"
  · subst h
    simp [listGF]
  · unfold listGF
    split
    · simp_all
    · simp [h]
theorem listGF_nil (self : Value) (id : String) (kw : List (Str × Value)) (p : Pos) : listGF self (.builtin id ⟨[], kw⟩, p) = false := by
  unfold listGF
  split <;> simp_all
theorem listGF_pos (self : Value) (c : Code) (p : Pos) : listGF self (c, p) = listGF self (c, default) := by
  cases c with
  | builtin id args =>
    obtain ⟨pos, kw⟩ := args
    cases pos with
    | nil => rw [listGF_nil, listGF_nil]
    | cons v rest => rw [listGF_cons, listGF_cons]
  | _ => rfl
theorem listGF_off (self : Value) (c : Code) (p : Pos) (hc : c.isGuard = false) : listGF self (c, p) = false := by
  cases c with
  | builtin id args =>
    obtain ⟨pos, kw⟩ := args
    cases pos with
    | nil => exact listGF_nil _ _ _ _
    | cons v rest =>
      simp [Code.isGuard, guardIds] at hc
      rw [listGF_cons]
      simp [hc]
  | _ => rfl
def listHit (g : List Code) (a : Addr) : Bool := g.any fun c => listGF (.ref a) (c, default)
def tupHit (g : List Code) (a : Addr) : Bool := g.any fun c => tupGuardF (.ref a) (c, default)
def dictHit (g : List Code) (a : Addr) : Bool := g.any fun c => dictGuardF (.ref a) (c, default)
section
variable {prog : Program} {w : World} {A : Around} {E : Value → Shared → Prop} {s : Shared} {a : Addr} {g : List Code}
theorem own_list_repr {Q : Fin → Shared → Prop} {o : Obj} {x : Value} {l : List Value} {n : Nat} {c : Code} {b : Nat} (hg : A.guards = some g) (hget : s.heap.get? a = some o) (hd : o.data = .seq (x :: l).toArray n)
    (h1 : listHit g a = true → Q (.done (.ret (.str "[...]" s.toks))) { s with toks := s.toks + 1 })
    (h2 : listHit g a = false → wpAny (model prog w) (A.under c) (do again (.builtin "list.__repr__.loop" ⟨[.ref a, rawInt 0, ← newList [], rawInt b], []⟩)) Q E s) :
    wpOwn (model prog w) A c (Builtin.listReprAt b ⟨[.ref a], []⟩) Q E s := by
  intro Γ p hc hb
  have e : Γ.below.any (listGF (.ref a)) = listHit g a := by
    rw [any_eq_guards (listGF_off _) (listGF_pos _), hb.2.2.2.1 g hg]
    rfl
  unfold Builtin.listReprAt
  simp [slotArgs, Builtin.List.listItems, seqItems?, Sem.wp_load_of (h := hget), hd, stack]
  show Sem.wp (model prog w) Γ (if (Γ.below.any (listGF (.ref a))) = true then _ else _) _ _ p s
  rw [e]
  cases q : listHit g a with
  | true =>
    rw [if_pos rfl]
    simp [rule, retStr, ret]
    exact h1 q
  | false =>
    rw [if_neg Bool.false_ne_true]
    exact h2 q Γ p (hc ▸ hb.in)
theorem call_list_flat {Q : Value → Shared → Prop} {oa : Obj} {x : Value} {l : List Value} {na : Nat} {ts : List Str} (hTy : s.TypeIs (.ref a) "list") (hg : A.guards = some g)
    (ha : s.heap.get? a = some oa) (hda : oa.data = .seq (x :: l).toArray na) (hlen : ts.length = (x :: l).toArray.size)
    (hT : ∀ (i : Nat) (y : Value), (x :: l).toArray[i]? = some y → ∃ t, ts[i]? = some t ∧ ReprIs prog w y t)
    (hQ : ∀ h' u tk, (∀ b o, s.heap.get? b = some o → h'.get? b = some o) → Q (.str (if listHit g a then "[...]" else listText ts) u) { s with heap := h', toks := tk })
    (hsz : (listText ts).length ≤ sizeLine) : wpAny (model prog w) A (call (.builtin "list.__repr__") [.ref a]) Q E s := by
  refine wpAny_call (codeAny_call_builtin_own (Code.quiet_builtin _ (by decide +kernel)) F.entry_list_repr (F.slot_list_repr.check _ _ _ _ _ _ _ _ hTy (F.args_list_repr_1 _) (own_list_repr (b := 0) hg ha hda (fun q => ?_) fun q => ?_)))
  · have := hQ s.heap s.toks (s.toks + 1) fun _ _ z => z
    rw [q, if_pos rfl] at this
    exact this
  · have hQ : ∀ h' u tk, (∀ b o, s.heap.get? b = some o → h'.get? b = some o) → Q (.str (listText ts) u) { s with heap := h', toks := tk } := fun h' u tk k => by
      have := hQ h' u tk k
      rw [q, if_neg Bool.false_ne_true] at this
      exact this
    refine wpAny_bind (m := newList []) (wpAny_newObj_type ?_)
    refine wpAny_pure ⟨F.quiet_list_repr_loop _, ?_⟩
    exact codeAny_list_repr_start (P := s.heap.objs.size) (Nat.ne_of_lt (Heap.lt_size ha)) hlen hT (Heap.get?_push_of_some _ ha) hda (Heap.get?_push_size _ rfl) (fun h' u tk k => hQ h' u tk fun b o z => k b o (Nat.ne_of_lt (Heap.lt_size z)) (Heap.get?_push_of_some _ z)) (by omega)
theorem call_tup_flat {Q : Value → Shared → Prop} {o : Obj} {items : Array Value} {n : Nat} {ts : List Str} (hTy : s.TypeIs (.ref a) "tuple") (hg : A.guards = some g) (ha : s.heap.get? a = some o) (hd : o.data = .seq items n) (hT : ReprAll prog w items.toList ts)
    (hQ : ∀ u tk, Q (.str (if tupHit g a then "(...)" else tupleText ts) u) { s with toks := tk }) (hsz : (tupleText ts).length ≤ sizeLine) : wpAny (model prog w) A (call (.builtin "tuple.__repr__") [.ref a]) Q E s := by
  refine wpAny_call (codeAny_call_builtin_own (Code.quiet_builtin _ (by decide +kernel)) F.entry_tuple_repr (F.slot_tuple_repr.check _ _ _ _ _ _ _ _ hTy (F.args_tuple_repr_1 _) ?_))
  show wpOwn _ _ _ (Builtin.tupleReprAt 0 ⟨[.ref a], []⟩) _ _ _
  rw [tuple_repr_tree, tupleReprUnderWay_eq]
  refine wpOwn_bind (wpOwn_stackTailAny hg (tupGuardF_off _) (tupGuardF_pos _) ?_)
  cases q : (g.any fun c => tupGuardF (.ref a) (c, default)) with
  | true =>
    have q : tupHit g a = true := q
    rw [if_pos rfl]
    refine wpOwn_of_wpAny ?_
    have := hQ s.toks (s.toks + 1)
    rw [q, if_pos rfl] at this
    intro Γ p hΓ
    simp [rule, retStr, ret]
    exact this
  | false =>
    have q : tupHit g a = false := q
    rw [if_neg Bool.false_ne_true]
    refine wpOwn_of_wpAny (wpAny_tupleReprRest ha hd hT (fun u tk => ?_) (by omega))
    have := hQ u tk
    rw [q, if_neg Bool.false_ne_true] at this
    exact this
end
theorem call_dict_flat {prog : Program} {w : World} {A : Around} {E : Value → Shared → Prop} {s : Shared} {a : Addr} {g : List Code} {Q : Value → Shared → Prop} {o : Obj} {n : Nat} (hTy : s.TypeIs (.ref a) "dict") (hg : A.guards = some g) (ha : s.heap.get? a = some o) (hd : o.data = .dict #[] n) (hsys : (a == sysModules) = false)
    (hQ : ∀ u tk, Q (.str (if dictHit g a then "{...}" else "{}") u) { s with toks := tk }) : wpAny (model prog w) A (call (.builtin "dict.__repr__") [.ref a]) Q E s := by
  refine wpAny_call (codeAny_call_builtin_own (Code.quiet_builtin _ (by decide +kernel)) F.entry_dict_repr (F.slot_dict_repr.check _ _ _ _ _ _ _ _ hTy (F.args_dict_repr_1 _) ?_))
  show wpOwn _ _ _ (Builtin.dictReprAt 0 ⟨[.ref a], []⟩) _ _ _
  unfold Builtin.dictReprAt
  refine wpOwn_bind (wpOwn_of_wpAny ?_)
  unfold Builtin.Dict.dictSlotNone
  refine wpAny_bind (wpAny_notOrdered_dict hTy ?_)
  show wpAny _ _ (pure (Value.ref a)) _ _ s
  refine wpAny_pure ?_
  rw [dictReprRunning_eq]
  refine wpOwn_bind (wpOwn_stackTailAny hg (dictGuardF_off _) (dictGuardF_pos _) ?_)
  cases q : (g.any fun c => dictGuardF (.ref a) (c, default)) with
  | true =>
    have q : dictHit g a = true := q
    rw [if_pos rfl]
    refine wpOwn_of_wpAny ?_
    have := hQ s.toks (s.toks + 1)
    rw [q, if_pos rfl] at this
    intro Γ p hΓ
    simp [rule, retStr, ret]
    exact this
  | false =>
    have q : dictHit g a = false := q
    rw [if_neg Bool.false_ne_true]
    refine wpOwn_of_wpAny ?_
    show wpAny _ _ (Builtin.Dict.addrOf (.ref a) >>= _) _ _ s
    refine wpAny_bind (wpAny_pure ?_)
    show wpAny _ _ (Builtin.Dict.showsAll a >>= _) _ _ s
    unfold Builtin.Dict.showsAll
    rw [if_neg (by rw [hsys]; exact Bool.false_ne_true)]
    refine wpAny_bind (wpAny_pure ?_)
    refine wpAny_bind (wpAny_dictEpoch ha hd ?_)
    refine wpAny_bind (wpAny_dictEntries ha hd ?_)
    have := hQ s.toks (s.toks + 1)
    rw [q, if_neg Bool.false_ne_true] at this
    intro Γ p hΓ
    simp [rule, retStr, ret]
    exact this
/-! ### repr as a rule of the hand layer -/
inductive ReprG (g : List Code) (H : Hp) : V → Str → Prop
  | plain {v : V} {s : Str} (h : ReprV v s) : ReprG g H v s
  | lst {a : Addr} {x : V} {xs : List V} {ts : List Str} (e : H a = some (.lst (x :: xs))) (h : Paired ReprV (x :: xs) ts) (z : (listText ts).length ≤ sizeLine) : ReprG g H (.ref a) (if listHit g a then "[...]" else listText ts)
  | tup {a : Addr} {xs : List V} {ts : List Str} (e : H a = some (.tup xs)) (h : Paired ReprV xs ts) (z : (tupleText ts).length ≤ sizeLine) : ReprG g H (.ref a) (if tupHit g a then "(...)" else tupleText ts)
  | dic {a : Addr} (e : H a = some (.dK [])) : ReprG g H (.ref a) (if dictHit g a then "{...}" else "{}")
theorem ReprV.one {v : V} {s s' : Str} (h : ReprV v s) (h' : ReprV v s') : s = s' := by
  cases h <;> cases h' <;> rfl
theorem reprs_one {xs : List V} {ts us : List Str} (h : Paired ReprV xs ts) : Paired ReprV xs us → ts = us := by
  induction h generalizing us with
  | nil => intro h'; cases h'; rfl
  | cons a _ ih => intro h'; cases h' with | cons b t => rw [a.one b, ih t]
theorem ReprG.one {g : List Code} {H : Hp} {v : V} {s s' : Str} (h : ReprG g H v s) (h' : ReprG g H v s') : s = s' := by
  cases h with
  | plain h =>
    cases h' with
    | plain h' => exact h.one h'
    | _ => cases h
  | lst e h z =>
    cases h' with
    | plain h' => cases h'
    | lst e' h' z' =>
      rw [e] at e'
      cases e'
      rw [reprs_one h h']
    | tup e' => rw [e] at e'; cases e'
    | dic e' => rw [e] at e'; cases e'
  | tup e h z =>
    cases h' with
    | plain h' => cases h'
    | lst e' => rw [e] at e'; cases e'
    | tup e' h' z' =>
      rw [e] at e'
      cases e'
      rw [reprs_one h h']
    | dic e' => rw [e] at e'; cases e'
  | dic e =>
    cases h' with
    | plain h' => cases h'
    | lst e' => rw [e] at e'; cases e'
    | tup e' => rw [e] at e'; cases e'
    | dic e' => rfl
theorem ReprG.mv {g : List Code} {H H' : Hp} {v : V} {s : Str} (h : ReprG g H v s) (k : ∀ a o, v = .ref a → H a = some o → (∀ ps, o ≠ .tbl ps) → H' a = some o) : ReprG g H' v s := by
  cases h with
  | plain h => exact .plain h
  | lst e h z => exact .lst (k _ _ rfl e fun _ q => nomatch q) h z
  | tup e h z => exact .tup (k _ _ rfl e fun _ q => nomatch q) h z
  | dic e => exact .dic (k _ _ rfl e fun _ q => nomatch q)
theorem ReprV.is {prog : Program} {w : World} {v : V} {s : Str} {u : Value} (h : ReprV v s) (r : RelV v u) : ReprIs prog w u s := by
  cases h with
  | int i h =>
    obtain ⟨t, rfl⟩ := r
    exact ReprIs.int t h
  | non =>
    cases r
    exact ReprIs.none
  | bl b =>
    cases r
    cases b
    · exact ReprIs.bool false
    · exact ReprIs.bool true
  | str x h =>
    obtain ⟨t, rfl⟩ := r
    exact ReprIs.str x t h
theorem reprs_is {prog : Program} {w : World} : ∀ {xs : List V} {ts : List Str} {us : List Value}, Paired ReprV xs ts → Vals xs us → ReprAll prog w us ts
  | _, _, _, .nil, .nil => .nil
  | _, _, _, .cons h t, .cons r rs => .cons (h.is r) (reprs_is t rs)
theorem reprs_len {xs : List V} {ts : List Str} (h : Paired ReprV xs ts) : xs.length = ts.length := by
  induction h with
  | nil => rfl
  | cons _ _ ih => rw [List.length_cons, List.length_cons, ih]
theorem reprs_at {prog : Program} {w : World} : ∀ {us : List Value} {ts : List Str}, ReprAll prog w us ts → ∀ (i : Nat) (y : Value), us[i]? = some y → ∃ t, ts[i]? = some t ∧ ReprIs prog w y t
  | _, _, .nil, i, y, h => by simp at h
  | _, _, .cons h _, 0, y, e => by
    cases e
    exact ⟨_, rfl, h⟩
  | _, _, .cons _ t, i + 1, y, e => reprs_at t i y e
theorem call_reprG {X : Cx} {g : List Code} (hg : X.A.guards = some g) (hu : X.A.units + 64 < cLine) : CallR X (.builtin "repr") (fun xs H Q => ∃ v s, xs = [v] ∧ ReprG g H v s ∧ Q (.str s) H) := by
  rintro pins s σ H xs us Q I r ⟨v, x, rfl, h, q⟩
  cases h with
  | plain h => exact call_reprP pins s σ H [v] us Q I r ⟨v, x, rfl, h, q⟩
  | @lst a y ys ts e h z =>
    match us, r with
    | [_], .cons rx .nil =>
      cases rx
      obtain ⟨_, its, n, rv, ho⟩ := I.hok a _ e
      have hTy : s.TypeIs (.ref a) "list" := ⟨_, ho, rfl⟩
      cases rv with
      | cons r1 rs =>
        have ra := reprs_is (prog := X.prog) (w := X.w) h (.cons r1 rs)
        refine PySem.call_repr_slot (by omega) hTy F.slot_list_repr.toG (call_list_flat hTy hg ho rfl (by rw [← reprs_len h]; simp [rs.length]) (fun i y' hy => reprs_at ra i y' (by simpa using hy)) (fun h' u tk k => ⟨_, _, rfl, ⟨.str _, H, I.kept k, ⟨_, rfl⟩, q⟩⟩) z)
  | @tup a ys ts e h z =>
    match us, r with
    | [_], .cons rx .nil =>
      cases rx
      obtain ⟨_, its, rv, p⟩ := I.hok a _ e
      obtain ⟨⟨tc, tdd, tda, tsl⟩, hto, htc, n, htd⟩ := p
      dsimp only at htc htd
      subst htc htd
      have hTy : s.TypeIs (.ref a) "tuple" := ⟨_, hto, rfl⟩
      exact PySem.call_repr_slot (by omega) hTy F.slot_tuple_repr (call_tup_flat hTy hg hto rfl (by simpa using reprs_is h rv) (fun u tk => ⟨_, _, rfl, ⟨.str _, H, I.kept (t' := tk) fun _ _ z => z, ⟨_, rfl⟩, q⟩⟩) z)
  | @dic a e =>
    match us, r with
    | [_], .cons rx .nil =>
      cases rx
      obtain ⟨_, hsys, kvs, kv, o, es, ep, ho, ex, hd, kk, pr, _⟩ := I.hok a _ e
      cases kv
      have e0 : es = #[] := by
        have : es.toList = [] := by cases hh : es.toList with
          | nil => rfl
          | cons _ _ => rw [hh] at pr; cases pr
        exact Array.toList_eq_nil_iff.mp this
      subst e0
      have hTy : s.TypeIs (.ref a) "dict" := ⟨o, ho, ex.1⟩
      exact PySem.call_repr_slot (by omega) hTy F.slot_dict_repr (call_dict_flat hTy hg ho hd hsys fun u tk => ⟨_, _, rfl, ⟨.str _, H, I.kept (t' := tk) fun _ _ z => z, ⟨_, rfl⟩, q⟩⟩)
/-! ### try with several clauses, some of them naming their error -/
/-- a clause: what it names (a class), the slot of its name if it has one, its suite's reading -/
abbrev ClauseT := Value × Option Nat × (Addr → Value → Option Addr → TS)
def endsX (i : Nat) (D : Ends) : Ends := { nx := fun σ H => D.nx (σ.set i none) H, rt := D.rt, bk := fun σ H => D.bk (σ.set i none) H, ct := fun σ H => D.ct (σ.set i none) H }
/-- what the clauses, one behind another, ask of an error of the body -/
def wMix (K : PySem.W.Frag) (Wout : L2.WX) (D : Ends) : List ClauseT → L2.WX
  | [] => Wout
  | (c, none, ts) :: r => fun cls d σ H => ∃ b, PySem.W.exmOne K cls c = some b ∧ (b = true → ∀ a, H a = none → ts a cls d D σ H) ∧ (b = false → wMix K Wout D r cls d σ H)
  | (c, some i, ts) :: r => fun cls d σ H => ∃ b, PySem.W.exmOne K cls c = some b ∧ (b = true → ∀ a, H a = none → ts a cls d (endsX i D) (σ.set i (some (.ref a))) H) ∧ (b = false → wMix K Wout D r cls d σ H)
inductive ClsOk (X : Cx) : List ExceptHandler → List ClauseT → Prop
  | nil : ClsOk X [] []
  | plain {x : Str} {c : Value} {ts : Addr → Value → Option Addr → TS} {b₀ : Stmt} {suite : List Stmt} {np p2 : Pos} {hds : List ExceptHandler} {l : List ClauseT} (hc : L2.Names X x c)
      (hsu : ∀ (a : Addr) (oe : Obj) (cls : Value) (d : Option Addr) (pn : List (Addr × Obj)), L2.Zc cls d oe → (∃ vs, oe.data = .fields vs) → PSs (X.suite a ((a, oe) :: pn)) (b₀ :: suite) (ts a cls d)) (r : ClsOk X hds l) : ClsOk X (.ExceptHandler (some (.Name x np)) none (b₀ :: suite) p2 :: hds) ((c, none, ts) :: l)
  | named {x n : Str} {c : Value} {i : Nat} {ts : Addr → Value → Option Addr → TS} {b₀ : Stmt} {suite : List Stmt} {np p2 : Pos} {hds : List ExceptHandler} {l : List ClauseT} (hc : L2.Names X x c) (hi : X.N[i]? = some n) (hln : X.env.kindOf n = some .local)
      (hsu : ∀ (a : Addr) (oe : Obj) (cls : Value) (d : Option Addr) (pn : List (Addr × Obj)), L2.Zc cls d oe → (∃ vs, oe.data = .fields vs) → PSs (X.suite a ((a, oe) :: pn)) (b₀ :: suite) (ts a cls d)) (r : ClsOk X hds l) : ClsOk X (.ExceptHandler (some (.Name x np)) (some n) (b₀ :: suite) p2 :: hds) ((c, some i, ts) :: l)
section
variable {X : Cx} {body : List Stmt} {h₀ : ExceptHandler} {hds : List ExceptHandler} {l : List ClauseT} {pos : Pos} {tb : L2.WX → TS} {Wout : L2.WX}
theorem ps_try_mix (stk : X.stack = X.env :: X.outer) (frm : X.env.frame = some X.env.locals) (nd : X.N.Nodup) (tk : L2.Takes X Wout)
    (hbody : ∀ (W : L2.WX) (pn : List (Addr × Obj)) (xe : Value → Shared → Prop), L2.Takes (X.tr pn xe) W → PassesOwn (model X.prog X.w) X.A X.env xe → PSs (X.tr pn xe) body (tb W)) (hcl : ClsOk X (h₀ :: hds) l) :
    PS X (.Try body (h₀ :: hds) [] [] pos) (fun D σ H => tb (wMix X.K Wout D l) D σ H) := by
  refine ⟨fun pins s σ H D I start => ?_⟩
  have good := I.ok
  have frames : X.A.frames = some (X.env :: X.outer) := by rw [good.frames, stk]
  refine wpAny_Try_except ?_
  refine wpAny_mono ((hbody (wMix X.K Wout D l) (X.pn ++ pins) (fun er sA => wpAny (model X.prog X.w) X.A (noteFrame er X.env) (fun _ sB => wpAny (model X.prog X.w) X.A (setFlight er none) (fun _ sC => wpAny (model X.prog X.w) X.A (handleBy er X.env (h₀ :: hds)) (SP X pins D) X.xe sC) X.xe sB) X.xe sA) (fun u sX flying => ?_) PassesOwn.looking).run [] s σ H D (I.toTry _) start) (fun fl sN ended => ?_) (fun er sE out => out)
  rotate_left
  · match fl, ended with
    | .next, ⟨_, _, JN, q⟩ => exact wpAny_execs_nil ⟨_, _, JN.ofTry good, q⟩
    | .brk, ⟨_, _, JN, q⟩ => exact ⟨_, _, JN.ofTry good, q⟩
    | .cont, ⟨_, _, JN, q⟩ => exact ⟨_, _, JN.ofTry good, q⟩
    | .ret _, ⟨_, _, _, JN, r, q⟩ => exact ⟨_, _, _, JN.ofTry good, r, q⟩
  obtain ⟨ea, Bs, sI, pinsI, σI, HI, cls, d, rfl, JI, nbase, upS, skyS, fresh, osE, bareE, wished⟩ := flying
  have J := JI.ofTry good
  have skyX : L2.Sky Bs (X.env :: X.outer) ea (L2.Zc cls d) X.env.locals sX.heap := stk ▸ skyS
  show wpAny (model X.prog X.w) X.A (noteFrame (.ref ea) X.env) _ _ _
  refine L2.Sky.land L2.Zc.steady frames frm skyX fun hL flL upL => ?_
  have JL : Inv X pins σI HI { sX with heap := hL } := J.landed nbase flL.1 (upS.trans upL) osE bareE
  obtain ⟨oL, vL, getL, zL, dataL⟩ := flL.there
  have noFrame : ea ∉ frs (X.env :: X.outer) := fun mem => by
    obtain ⟨_, oM, getM, notFields⟩ := flL.2.2.1.mem mem
    rw [getL] at getM
    exact notFields _ (by cases getM; exact dataL)
  have notLocals : ea ≠ X.env.locals := fun eq => noFrame (List.mem_filterMap.mpr ⟨X.env, List.mem_cons_self, by rw [frm, eq]⟩)
  have notOuter : ea ∉ X.fs := fun mem => let ⟨en, inO, fr⟩ := List.mem_filterMap.mp mem; noFrame (List.mem_filterMap.mpr ⟨en, List.mem_cons_of_mem _ inO, fr⟩)
  have SL := JL.suite getL dataL fresh notLocals notOuter
  have named : ∀ {x : Str} {c : Value} {np : Pos} {Q E : Value → Shared → Prop}, L2.Names X x c → Q c { sX with heap := hL } → wpAny (model X.prog X.w) (X.A.mark (some (.ref ea))) (eval (.Name x np) X.env) Q E { sX with heap := hL } := by
    rintro x c np Q E ⟨glob, dbg, own | ⟨free, boot, notNone⟩⟩ goal
    · exact L2.ld_glob (X := X.suite ea ((ea, oL) :: (X.pn ++ pins))) SL glob own goal dbg
    · exact L2.ld_blt (X := X.suite ea ((ea, oL) :: (X.pn ++ pins))) SL glob free boot goal notNone dbg
  have typed : PySem.W.Looks (model X.prog X.w) hL (typeOf (.ref ea)) cls := fun _ _ _ _ more res => wpAny_typeOf_ref (more _ _ getL) (by rw [zL.1]; exact res)
  have walk : ∀ {hs2 : List ExceptHandler} {l2 : List ClauseT}, ClsOk X hs2 l2 → wMix X.K Wout D l2 cls d σI HI → wpAny (model X.prog X.w) X.A (handleBy (.ref ea) X.env hs2) (SP X pins D) X.xe { sX with heap := hL } := by
    intro hs2 l2 ok2
    induction ok2 with
    | nil =>
      intro wish
      refine wpAny_handleBy_nil ?_
      have flown := flL
      obtain ⟨_, _, _, oF, vF, TF, oT, _, getF, zF, dataF, tbF, _⟩ := flown
      unfold PySem.passOn
      refine wpAny_bind (wpAny_field getF dataF tbF ?_)
      rw [if_neg (by simp : ¬ ((Value.ref TF == Value.none) = true))]
      have up : wpAny (model X.prog X.w) X.A (setFlight (.ref ea) X.env.frame) (fun _ sU => wpAny (model X.prog X.w) X.A (throw (.ref ea) : Sem Flow) (SP X pins D) X.xe sU) X.xe { sX with heap := hL } := by
        rw [frm]
        exact HandSPX.setFlight_upZ flL fun hU heldU upU => wpAny_throw (tk _ _ ⟨ea, Bs, sI, pins, σI, HI, cls, d, rfl, J, nbase, (upS.trans upL).trans upU, .inr (.inr (stk ▸ heldU)), fresh, osE, bareE, wish⟩)
      first
        | exact wpAny_bind up
        | exact wpAny_bind (wpAny_pure (wpAny_bind up))
    | @plain x c ts b₀ suite np p2 hds3 l3 hc hsu r ih =>
      rintro ⟨b, look, yes, no⟩
      refine wpAny_handleBy_cons (codeAny_handlers_test ?_) (fun q => nomatch q)
      refine named hc ((PySem.W.exm_one (M := model X.prog X.w) JL.kIn typed look).here ?_)
      cases b with
      | false => exact ih (no rfl)
      | true =>
        refine codeAny_handlers_suite (HandSPX.lands_againZ flL fun hM flM upM => ?_)
        obtain ⟨oM, vM, getM, zM, dataM⟩ := flM.there
        have JM : Inv X pins σI HI { sX with heap := hM } := J.landed nbase flM.1 ((upS.trans upL).trans upM) osE bareE
        have SM := JM.suite getM dataM fresh notLocals notOuter
        refine wpAny_mono ((hsu ea oM cls d (X.pn ++ pins) zM ⟨_, dataM⟩).run [] _ _ HI _ SM (yes rfl ea fresh)) (fun fl sE done_ => ?_) (fun _ _ z => z.elim)
        match fl, done_ with
        | .next, ⟨_, _, SE, q⟩ => exact ⟨_, _, SE.unsuite good, q⟩
        | .brk, ⟨_, _, SE, q⟩ => exact ⟨_, _, SE.unsuite good, q⟩
        | .cont, ⟨_, _, SE, q⟩ => exact ⟨_, _, SE.unsuite good, q⟩
        | .ret _, ⟨_, _, _, SE, rv, q⟩ => exact ⟨_, _, _, SE.unsuite good, rv, q⟩
    | @named x n c i ts b₀ suite np p2 hds3 l3 hc hi hln hsu r ih =>
      rintro ⟨b, look, yes, no⟩
      refine wpAny_handleBy_cons (codeAny_handlers_test ?_) (fun q => nomatch q)
      refine named hc ((PySem.W.exm_one (M := model X.prog X.w) JL.kIn typed look).here ?_)
      cases b with
      | false => exact ih (no rfl)
      | true =>
        refine codeAny_handlers_suite_as (HandSPX.lands_againZ flL fun hM flM upM => ?_)
        obtain ⟨oM, vM, getM, zM, dataM⟩ := flM.there
        have JM : Inv X pins σI HI { sX with heap := hM } := J.landed nbase flM.1 ((upS.trans upL).trans upM) osE bareE
        have SM := JM.suite getM dataM fresh notLocals notOuter
        refine L2.store_ok (X := X.suite ea ((ea, oM) :: (X.pn ++ pins))) (v := .ref ea) SM nd hi (.inl hln) rfl (fun sB SB => ?_) (.inr hln)
        refine wpAny_mono ((hsu ea oM cls d (X.pn ++ pins) zM ⟨_, dataM⟩).run [] sB _ HI _ SB (yes rfl ea fresh)) (fun fl sE done_ => ?_) (fun _ _ z => z.elim)
        have gone : ∀ {σ6 : L2.St} {H6 : Hp} {Q : Shared → Prop}, Inv (X.suite ea ((ea, oM) :: (X.pn ++ pins))) [] σ6 H6 sE → (∀ sG, Inv X pins (σ6.set i none) H6 sG → Q sG) → wpAny (model X.prog X.w) X.A (do bindName X.env n .none; unbindBehindTheSuite X.env n p2) (fun _ sG => Q sG) X.xe sE :=
          fun SE more => L2.gone_ok (SE.unsuite good) nd hi hln more
        match fl, done_ with
        | .next, ⟨_, _, SE, q⟩ => exact gone SE fun _ JG => ⟨_, _, JG, q⟩
        | .brk, ⟨_, _, SE, q⟩ => exact gone SE fun _ JG => ⟨_, _, JG, q⟩
        | .cont, ⟨_, _, SE, q⟩ => exact gone SE fun _ JG => ⟨_, _, JG, q⟩
        | .ret _, ⟨_, _, _, SE, rv, q⟩ => exact gone SE fun _ JG => ⟨_, _, _, JG, rv, q⟩
  exact walk hcl wished
end
/-! ### defs whose bodies know of the guards around them -/
theorem FunT.okG {P : Program} {w : World} {K : PySem.W.Frag} {mg : Str → Option Value} {base : Heap} {x q : Str} {st : Stmt} {f c : Addr} {fd : FuncData} {N ps : List Str} {k : Nat} {sp : Sp} (F : FunT K x q st f c fd) (S : FnScope N ps (defScope st)) (len : ∀ vs H Q E, sp vs H Q E → vs.length = ps.length)
    (hbody : ∀ (g : List Code) (A : Around) (outer : List Env) (s : Shared) (H : Hp) (vs : List V) (Q : VK) (E : XK), A.guards = some g → Room k (A.deeper (PyProof.Rows.envOfC q (defScope st) s.heap.objs.size f (.ref c))) → sp vs H Q E →
      ∃ t, PSs (cxOf CX0 P w K mg base N q (defScope st) f (.ref c) A outer s H E).nox (defBody st) t ∧ t { nx := fun _ H' => Q .non H', rt := Q } (start N vs) H) : FnOk P w K mg base CX0 (k + 1) f fd ps sp := by
  obtain ⟨oc, od, kV, doc, pm, an, ct, osl, rfl, lk, hcd⟩ := F.ex
  refine ⟨len, fun A outer s H args us vs Q E hr e0 hb r hsp => codeAny_guards fun g => ?_⟩
  refine LamX.run_ofS (A := { A with guards := some g }) lk hcd S (N := N) ⟨hr.hd, hr.dp, hr.un⟩ ⟨e0.frames, e0.mod, e0.bs, e0.bsz, e0.funs, e0.frf, e0.hok, e0.bare⟩ hb r (len _ _ _ _ hsp) fun hr2 => ?_
  obtain ⟨t, h, z⟩ := hbody g { A with guards := some g } outer s H vs Q E rfl hr2 hsp
  exact ⟨t, h.nox, z⟩
theorem Fun.okG {P : Program} {w : World} {K : PySem.W.Frag} {mg : Str → Option Value} {base : Heap} {x q : Str} {st : Stmt} {f : Addr} {fd : FuncData} {N ps : List Str} {k : Nat} {sp : Sp} (F : Fun K x q st f fd) (S : FnScope N ps (defScope st)) (len : ∀ vs H Q E, sp vs H Q E → vs.length = ps.length)
    (hbody : ∀ (cdv : Value) (g : List Code) (A : Around) (outer : List Env) (s : Shared) (H : Hp) (vs : List V) (Q : VK) (E : XK), A.guards = some g → Room k (A.deeper (PyProof.Rows.envOfC q (defScope st) s.heap.objs.size f cdv)) → sp vs H Q E →
      ∃ t, PSs (cxOf CX0 P w K mg base N q (defScope st) f cdv A outer s H E).nox (defBody st) t ∧ t { nx := fun _ H' => Q .non H', rt := Q } (start N vs) H) : FnOk P w K mg base CX0 (k + 1) f fd ps sp := by
  obtain ⟨oc, od, kV, doc, pm, an, cdv, ct, osl, rfl, lk, hcd⟩ := F.ex
  refine ⟨len, fun A outer s H args us vs Q E hr e0 hb r hsp => codeAny_guards fun g => ?_⟩
  refine LamX.run_ofS (A := { A with guards := some g }) lk hcd S (N := N) ⟨hr.hd, hr.dp, hr.un⟩ ⟨e0.frames, e0.mod, e0.bs, e0.bsz, e0.funs, e0.frf, e0.hok, e0.bare⟩ hb r (len _ _ _ _ hsp) fun hr2 => ?_
  obtain ⟨t, h, z⟩ := hbody cdv g { A with guards := some g } outer s H vs Q E rfl hr2 hsp
  exact ⟨t, h.nox, z⟩
theorem deeper_guards {A : Around} {env : Env} {g : List Code} (h : A.guards = some g) : (A.deeper env).guards = some g := h
/-! ### methods and makings that may raise -/
structure MetX (P : Program) (w : World) (K : PySem.W.Frag) (mg : Str → Option Value) (base : Heap) (C : Addr) (m : Str) (k : Nat) (f : Addr) (ps : List Str) (sp : Sp) : Prop where
  ex : ∃ fd, FnOk P w K mg base (L2.CX P w) k f fd ps sp ∧ Binds K fd ps []
  me : Meth K C m f
theorem Mth.metX {P : Program} {w : World} {K : PySem.W.Frag} {mg : Str → Option Value} {base : Heap} {C : Addr} {m q : Str} {st : Stmt} {f : Addr} {ps : List Str} {k : Nat} {sp : Sp} (D : Mth K C m q st f ps) (h : ∀ fd, Fun K m q st f fd → FnOk P w K mg base (L2.CX P w) k f fd ps sp) : MetX P w K mg base C m k f ps sp := by
  obtain ⟨fd, F, b⟩ := D.ex
  exact ⟨⟨fd, h fd F, b⟩, ⟨D.at_, D.fn, F.kp⟩⟩
theorem pass1 {X : Cx} {E : XK} (tk : L2.Takes X fun cls d _ H => E cls d H) : Passes (L2.CX X.prog X.w) X E := fun pins σ H s e s' I c => L2.passAt tk σ pins H s e s' I c
theorem MetX.p_m1 {X : Cx} {C : Addr} {k : Nat} {f : Addr} {ps : List Str} {sp : Sp} {E : XK} {m : Str} {o e : Expr} {es : List Expr} {ta : TE} {t : TA} {apos pos : Pos} {pl : Sem Bool} (c : MetX X.prog X.w X.K X.mg X.base C m k f ps sp) (tk : L2.Takes X fun cls d _ H => E cls d H) (cl : Cls X.K C) (hr : Room k X.A) (he : PE X o ta) (ha : PA X (e :: es) t)
    (hst : starEach (e :: es) X.env = (false, eval e X.env) :: starEach es X.env := by rfl) (hpl : (backTo pos (starEach es X.env)).any (·.1) = false := by rfl)
    (ht : eval (.Call (.Attribute o m apos) (e :: es) [] pos) X.env = (do let ov ← eval o X.env; standAt apos.atName; let (f, first) ← holding [ov] (getMethod ov m pl); callWith pos f first (backTo pos (starEach (e :: es) X.env)) (backToKw pos (keywordEach [] X.env))) := by rfl) :
    PE X (.Call (.Attribute o m apos) (e :: es) [] pos) (tMeth C m sp [] E ta t) := by
  obtain ⟨fd, F, b⟩ := c.ex
  exact pe_meth he cl c.me F hr b .nil (pass1 tk) ha hst hpl ht
theorem raise2 {C : Addr} {f g : Str} {v u : V} {H : Hp} {Q E : XK} (k : ∀ d H', H' d = some (.xd [(g, u), (f, v)]) → Same H H' → Q (.ref C) (some d) H') : ∀ a, H a = none → spEI2 C f g [.ref a, v, u] (upd H a (L2.exo a C none))
    (fun x H2 => x = .non ∧ ∃ (d : Addr) (fs : List (Str × V)), H2 a = some (L2.exo a C (some d)) ∧ H2 d = some (L2.exd d fs) ∧ H d = none ∧ Q (.ref C) (some d) (upd (L2.del H2 a) d (.xd fs))) E := fun a na => by
  refine ⟨a, v, u, rfl, upd_same, fun dx nx ne => ⟨rfl, dx, [(g, u), (f, v)], ?_, upd_same, by rwa [upd_ne ne] at nx, k dx _ upd_same fun b o e => ?_⟩⟩
  · rw [upd_ne (Ne.symm ne), upd_same]
  · rw [upd_ne ne] at nx
    have ba : b ≠ a := ne_of_none e na
    have bd : b ≠ dx := ne_of_none e nx
    rw [upd_ne bd, L2.del_ne ba, upd_ne bd, upd_ne ba, upd_ne bd, upd_ne ba]
    exact e
/-! ### repr of lists and tuples with tuples in them, under any guards -/
/-- two stacks of guards say the same of these addresses -/
def Agr (as : List Addr) (g g' : List Code) : Prop := ∀ b ∈ as, listHit g' b = listHit g b ∧ tupHit g' b = tupHit g b ∧ dictHit g' b = dictHit g b
theorem Agr.refl {as : List Addr} {g : List Code} : Agr as g g := fun _ _ => ⟨rfl, rfl, rfl⟩
theorem Agr.less {as bs : List Addr} {g g' : List Code} (h : Agr as g g') (k : ∀ b ∈ bs, b ∈ as) : Agr bs g g' := fun b m => h b (k b m)
theorem hit_push {a b : Addr} (n : a ≠ b) {id : String} {rest : List Value} {kw : List (Str × Value)} {g : List Code} : listHit (.builtin id ⟨.ref a :: rest, kw⟩ :: g) b = listHit g b ∧ tupHit (.builtin id ⟨.ref a :: rest, kw⟩ :: g) b = tupHit g b ∧ dictHit (.builtin id ⟨.ref a :: rest, kw⟩ :: g) b = dictHit g b := by
  have ne : Value.ref a ≠ Value.ref b := fun e => n (Value.ref.inj e)
  have e1 : listGF (.ref b) (.builtin id ⟨.ref a :: rest, kw⟩, default) = false := by
    rw [listGF_cons, listSameRef_of_ne ne, Bool.and_false]
  have cl : Clear [.builtin id ⟨.ref a :: rest, kw⟩] b := Clear.cons (Clear.nil b) n
  have e2 := tupGuardF_of_clear cl _ (List.mem_singleton.mpr rfl)
  have e3 := dictGuardF_of_clear cl _ (List.mem_singleton.mpr rfl)
  refine ⟨?_, ?_, ?_⟩
  · unfold listHit
    rw [List.any_cons, e1, Bool.false_or]
  · unfold tupHit
    rw [List.any_cons, e2, Bool.false_or]
  · unfold dictHit
    rw [List.any_cons, e3, Bool.false_or]
theorem Agr.push {as : List Addr} {g g' : List Code} (h : Agr as g g') {a : Addr} (n : a ∉ as) {id : String} {rest : List Value} {kw : List (Str × Value)} : Agr as g (.builtin id ⟨.ref a :: rest, kw⟩ :: g') := fun b m => by
  obtain ⟨h1, h2, h3⟩ := h b m
  obtain ⟨k1, k2, k3⟩ := hit_push (g := g') (id := id) (rest := rest) (kw := kw) (fun e : a = b => n (e ▸ m))
  exact ⟨k1.trans h1, k2.trans h2, k3.trans h3⟩
/-- what repr of a value says under guards that agree with g -/
def ReprJ (prog : Program) (w : World) (g : List Code) (as : List Addr) (h0 : Heap) (d : Nat) (x : Value) (t : Str) : Prop :=
  ∀ (m : Nat), m + t.length ≤ sizeLine → ∀ (A : Around) (g' : List Code) (E : Value → Shared → Prop) (s : Shared) (Q : Str → Shared → Prop), A.guards = some g' → Agr as g g' → A.units + d < cLine → (∀ b o, h0.get? b = some o → s.heap.get? b = some o) →
    (∀ hp tk, (∀ b o, s.heap.get? b = some o → hp.get? b = some o) → Q t { s with heap := hp, toks := tk }) → wpAny (model prog w) A (pyReprUnder m x) Q E s
theorem ReprJ.is {prog : Program} {w : World} {x : Value} {t : Str} (h : ReprIs prog w x t) {g : List Code} {as : List Addr} {h0 : Heap} {d : Nat} : ReprJ prog w g as h0 d x t :=
  fun m le A _ E s Q _ _ _ _ q => h m le A E s Q fun tk => q s.heap tk fun _ _ e => e
theorem ReprJ.less {prog : Program} {w : World} {x : Value} {t : Str} {g : List Code} {as bs : List Addr} {h0 : Heap} {d : Nat} (h : ReprJ prog w g as h0 d x t) (k : ∀ b ∈ as, b ∈ bs) : ReprJ prog w g bs h0 d x t :=
  fun m le A g' E s Q hg ag => h m le A g' E s Q hg (ag.less k)
section
open Builtin Builtin.List
variable {prog : Program} {w : World}
/-- a tuple of flat items -/
theorem ReprJ.tup {g : List Code} {h0 : Heap} {a : Addr} {o : Obj} {its : Array Value} {n d : Nat} {ts : List Str} (ha : h0.get? a = some o) (hc : o.cls = .type "tuple") (hd : o.data = .seq its n) (hT : ReprAll prog w its.toList ts) (z : (tupleText ts).length ≤ sizeLine) :
    ReprJ prog w g [a] h0 (d + 1) (.ref a) (if tupHit g a then "(...)" else tupleText ts) := by
  intro m le A g' E s Q hg ag hu hk q
  have hgt := hk _ _ ha
  refine wpAny_pyReprUnder_ref (by omega) (wpAny_pyReprObjUnder_twin (twin := "tuple.__repr__.under") ⟨o, hgt, hc⟩ F.slot_tuple_repr rfl (by omega) (call_twin_own (F.quiet_tuple_repr_under _) F.entry_tuple_repr_under F.check_tuple_repr_under ⟨o, hgt, hc⟩ F.slot_tuple_repr (F.args_tuple_repr_1 _) ?_))
  rw [tuple_repr_tree, tupleReprUnderWay_eq]
  refine wpOwn_bind (wpOwn_stackTailAny hg (tupGuardF_off _) (tupGuardF_pos _) ?_)
  have e : (g'.any fun c => tupGuardF (.ref a) (c, default)) = tupHit g a := (ag a (List.mem_singleton.mpr rfl)).2.1
  rw [e]
  refine wpOwn_of_wpAny ?_
  cases r : tupHit g a with
  | true =>
    rw [r] at q
    intro Γ p _
    simp [rule, retStr, ret]
    exact ⟨⟨_, _, rfl⟩, _, ⟨_, rfl⟩, q s.heap _ fun _ _ z => z⟩
  | false =>
    rw [r] at q le
    exact wpAny_tupleReprRest hgt hd hT (fun u tk => ⟨⟨_, _, rfl⟩, _, _, rfl, q s.heap tk fun _ _ z => z⟩) le
/-- the empty dict -/
theorem ReprJ.dic {g : List Code} {h0 : Heap} {a : Addr} {o : Obj} {n d : Nat} (ha : h0.get? a = some o) (hc : o.cls = .type "dict") (hd : o.data = .dict #[] n) (hsys : (a == sysModules) = false) :
    ReprJ prog w g [a] h0 (d + 1) (.ref a) (if dictHit g a then "{...}" else "{}") := by
  intro m le A g' E s Q hg ag hu hk q
  have hgt := hk _ _ ha
  refine wpAny_pyReprUnder_ref (by omega) (wpAny_pyReprObjUnder_twin (twin := "dict.__repr__.under") ⟨o, hgt, hc⟩ F.slot_dict_repr rfl (by omega) (call_twin_own (F.quiet_dict_repr_under _) F.entry_dict_repr_under F.check_dict_repr_under ⟨o, hgt, hc⟩ F.slot_dict_repr (F.args_dict_repr_1 _) ?_))
  show wpOwn _ _ _ (Builtin.dictReprAt m ⟨[.ref a], []⟩) _ _ _
  unfold Builtin.dictReprAt
  refine wpOwn_bind (wpOwn_of_wpAny ?_)
  unfold Builtin.Dict.dictSlotNone
  refine wpAny_bind (wpAny_notOrdered_dict ⟨o, hgt, hc⟩ ?_)
  show wpAny _ _ (pure (Value.ref a)) _ _ s
  refine wpAny_pure ?_
  rw [dictReprRunning_eq]
  refine wpOwn_bind (wpOwn_stackTailAny hg (dictGuardF_off _) (dictGuardF_pos _) ?_)
  have e : (g'.any fun c => dictGuardF (.ref a) (c, default)) = dictHit g a := (ag a (List.mem_singleton.mpr rfl)).2.2
  rw [e]
  cases r : dictHit g a with
  | true =>
    rw [r] at q
    rw [if_pos rfl]
    refine wpOwn_of_wpAny ?_
    intro Γ p _
    simp [rule, retStr, ret]
    exact ⟨⟨_, _, rfl⟩, _, ⟨_, rfl⟩, q s.heap _ fun _ _ z => z⟩
  | false =>
    rw [r] at q
    rw [if_neg Bool.false_ne_true]
    refine wpOwn_of_wpAny ?_
    show wpAny _ _ (Builtin.Dict.addrOf (.ref a) >>= _) _ _ s
    refine wpAny_bind (wpAny_pure ?_)
    show wpAny _ _ (Builtin.Dict.showsAll a >>= _) _ _ s
    unfold Builtin.Dict.showsAll
    rw [if_neg (by rw [hsys]; exact Bool.false_ne_true)]
    refine wpAny_bind (wpAny_pure ?_)
    refine wpAny_bind (wpAny_dictEpoch hgt hd ?_)
    refine wpAny_bind (wpAny_dictEntries hgt hd ?_)
    intro Γ p _
    simp [rule, retStr, ret]
    exact ⟨⟨_, _, rfl⟩, _, ⟨_, rfl⟩, q s.heap _ fun _ _ z => z⟩
/-- a list of flat items -/
theorem ReprJ.lst {g : List Code} {h0 : Heap} {a : Addr} {o : Obj} {x : Value} {l : List Value} {n d : Nat} {ts : List Str} (ha : h0.get? a = some o) (hc : o.cls = .type "list") (hd : o.data = .seq (x :: l).toArray n) (hlen : ts.length = (x :: l).toArray.size)
    (hT : ∀ (i : Nat) (y : Value), (x :: l).toArray[i]? = some y → ∃ t, ts[i]? = some t ∧ ReprIs prog w y t) (z : (listText ts).length ≤ sizeLine) :
    ReprJ prog w g [a] h0 (d + 1) (.ref a) (if listHit g a then "[...]" else listText ts) := by
  intro m le A g' E s Q hg ag hu hk q
  have hgt := hk _ _ ha
  have e : listHit g' a = listHit g a := (ag a (List.mem_singleton.mpr rfl)).1
  refine wpAny_pyReprUnder_ref (by omega) (wpAny_pyReprObjUnder_twin (twin := "list.__repr__.under") ⟨o, hgt, hc⟩ F.slot_list_repr.toG rfl (by omega) (call_twin_own (Code.quiet_builtin _ (by decide +kernel)) F.entry_list_repr_under F.check_list_repr_under ⟨o, hgt, hc⟩ F.slot_list_repr.toG (F.args_list_repr_1 _) (own_list_repr hg hgt hd (fun r => ?_) fun r => ?_)))
  · rw [e] at r
    rw [r] at q
    exact ⟨⟨_, _, rfl⟩, _, _, rfl, q s.heap _ fun _ _ z => z⟩
  · rw [e] at r
    rw [r] at q le
    refine wpAny_bind (m := newList []) (wpAny_newObj_type ?_)
    refine wpAny_pure ⟨F.quiet_list_repr_loop _, ?_⟩
    exact codeAny_list_repr_start (P := s.heap.objs.size) (Nat.ne_of_lt (Heap.lt_size hgt)) hlen hT (Heap.get?_push_of_some _ hgt) hd (Heap.get?_push_size _ rfl) (fun hp u tk k => ⟨⟨_, _, rfl⟩, _, _, rfl, q hp tk fun b ob eb => k b ob (Nat.ne_of_lt (Heap.lt_size eb)) (Heap.get?_push_of_some _ eb)⟩) le
/-- the loop of a list's repr, the items being shown under agreeing guards -/
theorem loopJ {A : Around} {R : Result → Shared → Prop} {a pt : Addr} (ne : a ≠ pt) {ys : Array Value} {zs : List Str} {as : List Addr} {h0 : Heap} {d m : Nat} {g g' : List Code} (hg : A.guards = some g') (ag : Agr as g g') (hu : A.units + (d + 1) < cLine) (out : a ∉ as) (fresh : h0.get? pt = none) (len : zs.length = ys.size)
    (each : ∀ (i : Nat) (x : Value), ys[i]? = some x → ∃ t, zs[i]? = some t ∧ ReprJ prog w g as h0 d x t) (fits : m + (listText zs).length ≤ sizeLine) :
    ∀ (k i : Nat) (s : Shared) (ob : Obj) (nb : Nat) (ac : Array Value) (c : Nat) (dn : List (Str × Tok)), ys.size - i = k → i ≤ ys.size → (∀ b o, h0.get? b = some o → s.heap.get? b = some o) →
    s.heap.get? a = some ob → ob.data = .seq ys nb → s.heap.get? pt = some { cls := .type "list", dict := none, data := .seq ac c, slots := #[] } → ac.toList = strValues dn → dn.map (·.1) = zs.take i →
    (∀ hp u tk, (∀ b o, b ≠ pt → s.heap.get? b = some o → hp.get? b = some o) → R (.ok (.ret (.str (listText zs) u))) { s with heap := hp, toks := tk }) →
    codeAny (model prog w) A (.builtin "list.__repr__.loop" ⟨[.ref a, rawInt i, .ref pt, rawInt ((m + piled (zs.take i) : Nat) : Int)], []⟩) R s := by
  have whole : (listText zs).length = (textFrom 0 "[" zs).length + 1 := (strLen_append (textFrom 0 "[" zs) "]").trans rfl
  have parts := textFrom_len zs 0 "["
  have part : ∀ t ∈ zs, t.length ≤ sizeLine := fun t ht => by
    have := parts.2.1 t ht
    omega
  have small : (listText zs).length ≤ sizeLine := by omega
  have many : ys.size ≤ sizeLine := by
    have := parts.1
    rw [if_neg (Nat.lt_irrefl 0)] at this
    omega
  have pile := piled_le_listText zs
  intro k
  induction k with
  | zero =>
    intro i s ob nb ac c dn ek li keep ga da gp ea ed more
    have ei : i = ys.size := by omega
    refine codeAny_builtin F.entry_list_repr_loop ?_
    show wpAny _ _ (Builtin.«list.__repr__.loop» ⟨[.ref a, .int i 0, .ref pt, .int ((m + piled (zs.take i) : Nat) : Int) 0], []⟩) _ _ s
    rw [repr_loop_tree]
    refine wpAny_bind (wpAny_listItems ga da ?_)
    have no : ys[(i : Int).toNat]? = none := by simp [ei]
    simp only [no]
    unfold reprEnd
    refine wpAny_bind (wpAny_listItems gp rfl ?_)
    rw [ea, repr_fold]
    have all : dn.map (·.1) = zs := by rw [ed, ei, ← len, List.take_length]
    refine wpAny_bind (wpAny_pure ?_)
    rw [all]
    exact wpAny_bind (wpAny_mkStr (wpAny_pure (more s.heap _ _ fun _ _ _ e => e)) small)
  | succ k ih =>
    intro i s ob nb ac c dn ek li keep ga da gp ea ed more
    have il : i < ys.size := by omega
    obtain ⟨t, et, rp⟩ := each i ys[i] (by simp [il])
    have p1 := piled_take_succ et
    have p2 := piled_take_le zs (i + 1)
    refine codeAny_builtin F.entry_list_repr_loop ?_
    show wpAny _ _ (Builtin.«list.__repr__.loop» ⟨[.ref a, .int i 0, .ref pt, .int ((m + piled (zs.take i) : Nat) : Int) 0], []⟩) _ _ s
    rw [repr_loop_tree]
    refine wpAny_bind (wpAny_listItems ga da ?_)
    have yes : ys[(i : Int).toNat]? = some ys[i] := by simp [il]
    simp only [yes]
    rw [Int.toNat_natCast]
    refine wpAny_bind (wpAny_holding (rp (m + piled (zs.take i) + 1) (by omega) _ _ _ _ _ (guards_under_guard (isGuard_list_loop _) hg) (ag.push out) (by rw [units_under_list_loop]; omega) keep fun hp tk kp => ?_))
    refine wpAny_bind (wpAny_mkStr ?_ (part t (List.mem_of_getElem? et)))
    refine wpAny_bind ?_
    show wpAny _ _ (updateSeq pt _) _ _ _
    have zl : ac.size ≤ sizeLine := by
      have q1 : ac.toList.length = ac.size := by simp
      have q2 : (strValues dn).length = dn.length := by simp [strValues]
      have q3 : dn.length = (zs.take i).length := by rw [← ed, List.length_map]
      have q4 : (zs.take i).length ≤ i := by rw [List.length_take]; omega
      rw [ea] at q1
      omega
    refine wpAny_updateSeq (kp _ _ gp) rfl (wpAny_pure ⟨F.quiet_list_repr_loop _, ?_⟩) zl
    have c1 : ((i : Int) + 1) = ((i + 1 : Nat) : Int) := by omega
    have c2 : m + piled (zs.take i) + (t.length + 2) = m + piled (zs.take (i + 1)) := by omega
    rw [c1, c2]
    have np : ∀ {b : Addr} {o : Obj}, h0.get? b = some o → pt ≠ b := fun e z => by
      rw [← z, fresh] at e
      cases e
    refine ih (i + 1) _ ob nb (ac.push (.str t tk)) _ (dn ++ [(t, tk)]) (by omega) il (fun b o e => (Heap.get?_update_other _ _ (np e)).trans (kp _ _ (keep _ _ e))) ((Heap.get?_update_other _ _ (Ne.symm ne)).trans (kp _ _ ga)) da (Heap.get?_update_self _ (kp _ _ gp) rfl) (by simp [ea, strValues]) (by simp [List.take_add_one, et, ed]) fun hp2 u tk2 kp2 => ?_
    exact more hp2 u tk2 fun b o nb e => kp2 b o nb ((Heap.get?_update_other _ _ (Ne.symm nb)).trans (kp _ _ e))
/-- repr of a list whose items are shown under agreeing guards -/
theorem call_list_J {A : Around} {E : Value → Shared → Prop} {s : Shared} {Q : Value → Shared → Prop} {a : Addr} {o : Obj} {x : Value} {l : List Value} {n : Nat} {zs : List Str} {as : List Addr} {d : Nat} {g : List Code} (hTy : s.TypeIs (.ref a) "list") (hg : A.guards = some g) (hu : A.units + (d + 1) < cLine) (out : a ∉ as)
    (ha : s.heap.get? a = some o) (hd : o.data = .seq (x :: l).toArray n) (len : zs.length = (x :: l).toArray.size) (each : ∀ (i : Nat) (y : Value), (x :: l).toArray[i]? = some y → ∃ t, zs[i]? = some t ∧ ReprJ prog w g as s.heap d y t)
    (hQ : ∀ hp u tk, (∀ b o, s.heap.get? b = some o → hp.get? b = some o) → Q (.str (if listHit g a then "[...]" else listText zs) u) { s with heap := hp, toks := tk }) (fits : (listText zs).length ≤ sizeLine) : wpAny (model prog w) A (call (.builtin "list.__repr__") [.ref a]) Q E s := by
  refine wpAny_call (codeAny_call_builtin_own (Code.quiet_builtin _ (by decide +kernel)) F.entry_list_repr (F.slot_list_repr.check _ _ _ _ _ _ _ _ hTy (F.args_list_repr_1 _) (own_list_repr (b := 0) hg ha hd (fun q => ?_) fun q => ?_)))
  · have := hQ s.heap s.toks (s.toks + 1) fun _ _ z => z
    rw [q] at this
    exact this
  · rw [q] at hQ
    refine wpAny_bind (m := newList []) (wpAny_newObj_type ?_)
    refine wpAny_pure ⟨F.quiet_list_repr_loop _, ?_⟩
    have fr : s.heap.get? s.heap.objs.size = none := by
      cases e : s.heap.get? s.heap.objs.size with
      | none => rfl
      | some o => exact absurd (Heap.lt_size e) (Nat.lt_irrefl _)
    exact loopJ (m := 0) (Nat.ne_of_lt (Heap.lt_size ha)) hg Agr.refl hu out fr len each (by omega) _ 0 _ o n #[] _ [] rfl (Nat.zero_le _) (fun b ob e => Heap.get?_push_of_some _ e) (Heap.get?_push_of_some _ ha) hd (Heap.get?_push_size _ rfl) rfl rfl
      fun hp u tk k => hQ hp u tk fun b ob e => k b ob (Nat.ne_of_lt (Heap.lt_size e)) (Heap.get?_push_of_some _ e)
/-- items shown one behind the other -/
inductive AllJ (prog : Program) (w : World) (g : List Code) (as : List Addr) (h0 : Heap) (d : Nat) : List Value → List Str → Prop
  | nil : AllJ prog w g as h0 d [] []
  | cons {x : Value} {t : Str} {l : List Value} {zs : List Str} : ReprJ prog w g as h0 d x t → AllJ prog w g as h0 d l zs → AllJ prog w g as h0 d (x :: l) (t :: zs)
theorem AllJ.len {g : List Code} {as : List Addr} {h0 : Heap} {d : Nat} : ∀ {l : List Value} {zs : List Str}, AllJ prog w g as h0 d l zs → zs.length = l.length
  | _, _, .nil => rfl
  | _, _, .cons _ r => congrArg Nat.succ r.len
theorem AllJ.at {g : List Code} {as : List Addr} {h0 : Heap} {d : Nat} : ∀ {l : List Value} {zs : List Str}, AllJ prog w g as h0 d l zs → ∀ (i : Nat) (y : Value), l[i]? = some y → ∃ t, zs[i]? = some t ∧ ReprJ prog w g as h0 d y t
  | _, _, .nil, i, y, e => by cases e
  | _, _, .cons h _, 0, y, e => by
    cases e
    exact ⟨_, rfl, h⟩
  | _, _, .cons _ r, i + 1, y, e => r.at i y e
theorem foldJ {A : Around} {E : Value → Shared → Prop} {as : List Addr} {h0 : Heap} {d : Nat} {g g' : List Code} (hg : A.guards = some g') (ag : Agr as g g') (hu : A.units + d < cLine) : ∀ (l : List Value) (zs : List Str) (ac : Array Str) (n : Nat) (s : Shared) (Q : (Array Str × Nat) → Shared → Prop), AllJ prog w g as h0 d l zs → n + piled zs ≤ sizeLine →
    (∀ b o, h0.get? b = some o → s.heap.get? b = some o) → (∀ hp tk, (∀ b o, s.heap.get? b = some o → hp.get? b = some o) → Q ⟨ac ++ zs.toArray, n + piled zs⟩ { s with heap := hp, toks := tk }) → wpAny (model prog w) A (forIn l (⟨ac, n⟩ : (Array Str × Nat)) tupBody) Q E s := by
  intro l
  induction l with
  | nil =>
    intro zs ac n s Q al _ _ h
    cases al
    have last := h s.heap s.toks fun _ _ e => e
    rw [List.forIn_nil]
    exact wpAny_pure (by simpa [piled] using last)
  | cons x l ih =>
    intro zs ac n s Q al fits keep h
    cases al with
    | @cons _ t _ zs' hx hl =>
      rw [piled_cons] at fits
      rw [List.forIn_cons]
      refine wpAny_bind (wpAny_bind (hx (n + 1) (by omega) _ _ _ _ _ hg ag hu keep fun hp tk kp => wpAny_pure ?_))
      refine ih zs' (ac.push t) (n + (t.length + 2)) _ Q hl (by omega) (fun b o e => kp _ _ (keep _ _ e)) fun hp2 tk2 kp2 => ?_
      have next := h hp2 tk2 fun b o e => kp2 _ _ (kp _ _ e)
      have e : n + piled (t :: zs') = n + (t.length + 2) + piled zs' := by rw [piled_cons]; omega
      rw [e] at next
      simpa using next
/-- repr of a tuple whose items are shown under agreeing guards -/
theorem call_tup_J {A : Around} {E : Value → Shared → Prop} {s : Shared} {Q : Value → Shared → Prop} {a : Addr} {o : Obj} {ys : Array Value} {n : Nat} {zs : List Str} {as : List Addr} {d : Nat} {g : List Code} (hTy : s.TypeIs (.ref a) "tuple") (hg : A.guards = some g) (hu : A.units + (d + 1) < cLine) (out : a ∉ as)
    (ha : s.heap.get? a = some o) (hd : o.data = .seq ys n) (al : AllJ prog w g as s.heap d ys.toList zs)
    (hQ : ∀ hp u tk, (∀ b o, s.heap.get? b = some o → hp.get? b = some o) → Q (.str (if tupHit g a then "(...)" else tupleText zs) u) { s with heap := hp, toks := tk }) (fits : (tupleText zs).length ≤ sizeLine) : wpAny (model prog w) A (call (.builtin "tuple.__repr__") [.ref a]) Q E s := by
  refine wpAny_call (codeAny_call_builtin_own (Code.quiet_builtin _ (by decide +kernel)) F.entry_tuple_repr (F.slot_tuple_repr.check _ _ _ _ _ _ _ _ hTy (F.args_tuple_repr_1 _) ?_))
  show wpOwn _ _ _ (Builtin.tupleReprAt 0 ⟨[.ref a], []⟩) _ _ _
  rw [tuple_repr_tree, tupleReprUnderWay_eq]
  refine wpOwn_bind (wpOwn_stackTailAny hg (tupGuardF_off _) (tupGuardF_pos _) ?_)
  show wpOwn _ _ _ (if tupHit g a = true then _ else _) _ _ _
  cases q : tupHit g a with
  | true =>
    rw [if_pos rfl]
    refine wpOwn_of_wpAny ?_
    have := hQ s.heap s.toks (s.toks + 1) fun _ _ z => z
    rw [q, if_pos rfl] at this
    intro Γ p _
    simp [rule, retStr, ret]
    exact this
  | false =>
    rw [q] at hQ
    rw [if_neg Bool.false_ne_true]
    refine wpOwn_of_wpAny ?_
    have pl := piled_le_tupleText zs
    have len : zs.length = ys.size := by simpa using al.len
    show wpAny _ _ (tupleReprRest 0 (.ref a)) _ _ s
    unfold tupleReprRest Builtin.Tuple.tupleItemsOf
    refine wpAny_bind (wpAny_bind (wpAny_seqItems ha hd (wpAny_pure ?_)))
    rw [← Array.forIn_toList]
    refine wpAny_bind (foldJ (guards_under_guard (isGuard_tuple_repr _) hg) (Agr.refl.push out) (by rw [units_under_tuple_repr]; omega) _ zs _ _ _ _ al (by omega) (fun _ _ e => e) fun hp tk kp => ?_)
    refine wpAny_bind (wpAny_mkStr (wpAny_pure ?_) (by simpa [tupleText, len] using fits))
    have := hQ hp tk (tk + 1) kp
    simpa [tupleText, len] using this
end
/-! ### nested repr as a rule of the hand layer -/
def refsOf : List V → List Addr
  | [] => []
  | .ref b :: r => b :: refsOf r
  | _ :: r => refsOf r
theorem refs_mem : ∀ {xs : List V} {b : Addr}, V.ref b ∈ xs ↔ b ∈ refsOf xs
  | [], b => by simp [refsOf]
  | x :: r, b => by
    cases x with
    | ref c =>
      rw [refsOf, List.mem_cons, List.mem_cons, refs_mem (xs := r)]
      exact ⟨fun h => h.imp (fun z => V.ref.inj z) _root_.id, fun h => h.imp (fun z => by rw [z]) _root_.id⟩
    | _ =>
      rw [refsOf, ← refs_mem (xs := r), List.mem_cons]
      · exact ⟨fun h => h.resolve_left (fun z => (nomatch z)), Or.inr⟩
      · intro _ z; cases z
theorem ReprG.J {X : Cx} {pins : List (Addr × Obj)} {σ : L2.St} {H : Hp} {s : Shared} (I : Inv X pins σ H s) {g : List Code} {v : V} {t : Str} {u : Value} (h : ReprG g H v t) (r : RelV v u) : ReprJ X.prog X.w g (refsOf [v]) s.heap 1 u t := by
  cases h with
  | plain h => exact ReprJ.is (h.is r)
  | @lst a y ys ts e h z =>
    cases r
    obtain ⟨_, its, n, rv, ho⟩ := I.hok a _ e
    cases rv with
    | cons r1 rs =>
      have ra := reprs_is (prog := X.prog) (w := X.w) h (.cons r1 rs)
      exact ReprJ.lst ho rfl rfl (by rw [← reprs_len h]; simp [rs.length]) (fun i y' hy => reprs_at ra i y' (by simpa using hy)) z
  | @tup a ys ts e h z =>
    cases r
    obtain ⟨_, its, rv, p⟩ := I.hok a _ e
    obtain ⟨⟨tc, tdd, tda, tsl⟩, hto, htc, n, htd⟩ := p
    dsimp only at htc htd
    subst htc htd
    exact ReprJ.tup hto rfl rfl (by simpa using reprs_is h rv) z
  | @dic a e =>
    cases r
    obtain ⟨_, hsys, kvs, kv, o, es, ep, ho, ex, hd, kk, pr, _⟩ := I.hok a _ e
    cases kv
    have e0 : es = #[] := by
      have : es.toList = [] := by
        cases hh : es.toList with
        | nil => rfl
        | cons _ _ => rw [hh] at pr; cases pr
      exact Array.toList_eq_nil_iff.mp this
    subst e0
    exact ReprJ.dic ho ex.1 hd hsys
theorem all_J {X : Cx} {pins : List (Addr × Obj)} {σ : L2.St} {H : Hp} {s : Shared} (I : Inv X pins σ H s) {g : List Code} {as : List Addr} : ∀ {xs : List V} {zs : List Str} {us : List Value}, Paired (ReprG g H) xs zs → Vals xs us → (∀ b, V.ref b ∈ xs → b ∈ as) → AllJ X.prog X.w g as s.heap 1 us zs
  | _, _, _, .nil, .nil, _ => .nil
  | _, _, _, .cons h t, .cons r rs, k => .cons ((h.J I r).less fun b m => k b (by
      have := refs_mem.mpr m
      rw [List.mem_singleton] at this
      rw [this]
      exact List.mem_cons_self ..)) (all_J I t rs fun b m => k b (List.mem_cons_of_mem _ m))
inductive ReprN (g : List Code) (H : Hp) : V → Str → Prop
  | flat {v : V} {s : Str} (h : ReprG g H v s) : ReprN g H v s
  | lst {a : Addr} {x : V} {xs : List V} {zs : List Str} (e : H a = some (.lst (x :: xs))) (h : Paired (ReprG g H) (x :: xs) zs) (out : V.ref a ∉ x :: xs) (z : (listText zs).length ≤ sizeLine) : ReprN g H (.ref a) (if listHit g a then "[...]" else listText zs)
  | tup {a : Addr} {xs : List V} {zs : List Str} (e : H a = some (.tup xs)) (h : Paired (ReprG g H) xs zs) (out : V.ref a ∉ xs) (z : (tupleText zs).length ≤ sizeLine) : ReprN g H (.ref a) (if tupHit g a then "(...)" else tupleText zs)
theorem paired_mv {g : List Code} {H H' : Hp} {xs : List V} {zs : List Str} (h : Paired (ReprG g H) xs zs) (s : Same H H') : Paired (ReprG g H') xs zs := by
  induction h with
  | nil => exact .nil
  | cons h _ ih => exact .cons (h.mv fun a o _ e _ => s _ _ e) ih
theorem ReprN.mv {g : List Code} {H H' : Hp} {v : V} {z : Str} (h : ReprN g H v z) (s : Same H H') : ReprN g H' v z := by
  cases h with
  | flat h => exact .flat (h.mv fun a o _ e _ => s _ _ e)
  | lst e h out z => exact .lst (s _ _ e) (paired_mv h s) out z
  | tup e h out z => exact .tup (s _ _ e) (paired_mv h s) out z
theorem paired_len {α β : Type} {R : α → β → Prop} {xs : List α} {zs : List β} (h : Paired R xs zs) : xs.length = zs.length := by
  induction h with
  | nil => rfl
  | cons _ _ ih => exact congrArg Nat.succ ih
theorem in1_units (A : Around) : A.in1.units = A.units + 1 := by
  first | rfl | simp [Around.in1]
theorem call_reprN {X : Cx} {g : List Code} (hg : X.A.guards = some g) (hu : X.A.units + 64 < cLine) : CallR X (.builtin "repr") (fun xs H Q => ∃ v z, xs = [v] ∧ ReprN g H v z ∧ Q (.str z) H) := by
  rintro pins s σ H xs us Q I r ⟨v, x, rfl, h, q⟩
  cases h with
  | flat h => exact call_reprG hg hu pins s σ H [v] us Q I r ⟨v, x, rfl, h, q⟩
  | @lst a y ys zs e h out z =>
    match us, r with
    | [_], .cons rx .nil =>
      cases rx
      obtain ⟨_, its, n, rv, ho⟩ := I.hok a _ e
      have hTy : s.TypeIs (.ref a) "list" := ⟨_, ho, rfl⟩
      cases rv with
      | cons r1 rs =>
        have al := all_J (as := refsOf (y :: ys)) I h (.cons r1 rs) fun b m => refs_mem.mp m
        refine PySem.call_repr_slot (by omega) hTy F.slot_list_repr.toG (call_list_J hTy hg (d := 1) (by rw [in1_units]; omega) (fun m => out (refs_mem.mpr m)) ho rfl (by rw [← paired_len h]; simp [rs.length]) (fun i y' hy => al.at i y' (by simpa using hy)) (fun h' u tk k => ⟨_, _, rfl, ⟨.str _, H, I.kept k, ⟨_, rfl⟩, q⟩⟩) z)
  | @tup a ys zs e h out z =>
    match us, r with
    | [_], .cons rx .nil =>
      cases rx
      obtain ⟨_, its, rv, p⟩ := I.hok a _ e
      obtain ⟨⟨tc, tdd, tda, tsl⟩, hto, htc, n, htd⟩ := p
      dsimp only at htc htd
      subst htc htd
      have hTy : s.TypeIs (.ref a) "tuple" := ⟨_, hto, rfl⟩
      have al := all_J (as := refsOf ys) I h rv fun b m => refs_mem.mp m
      exact PySem.call_repr_slot (by omega) hTy F.slot_tuple_repr (call_tup_J hTy hg (d := 1) (by rw [in1_units]; omega) (fun m => out (refs_mem.mpr m)) hto rfl (by simpa using al) (fun h' u tk k => ⟨_, _, rfl, ⟨.str _, H, I.kept k, ⟨_, rfl⟩, q⟩⟩) z)
/-! ### how many numbers are below (of V20) -/
def spCb : Sp := fun vs H Q _ => ∃ (a : Addr) (ns : List Int) (b : Int), vs = [.ref a, .int b] ∧ H a = some (.lst (ns.map V.int)) ∧ ns.Pairwise (· < ·) ∧ ns.length ≤ 100000 ∧ ∀ k : Nat, k ≤ ns.length → (∀ j v, ns[j]? = some v → (j < k ↔ v < b)) → Q (.int k) H
section
variable {P : Program} {w : World} {K : PySem.W.Frag} {mg : Str → Option Value} {base : Heap} {L : LA}
abbrev N_countbelow : List Str := ["numbers", "bound", "low", "high", "middle"]
theorem sc_countbelow : FnScope N_countbelow ["numbers", "bound"] (defScope st_count_below) := ⟨rfl, rfl, rfl, by decide +kernel, rfl, by decide +kernel, by decide +kernel⟩
theorem fn_countbelow (T : LX K mg L) {fd : FuncData} (F : Fun K "count_below" "count_below" st_count_below L.f_count_below fd) : FnOk P w K mg base CX0 1 L.f_count_below fd ["numbers", "bound"] (spCb) := by
  have nd := sc_countbelow.nd
  refine F.ok sc_countbelow (fun vs H Q E h => ?_) (fun cdv A outer S H vs Q E hr h => ?_)
  · obtain ⟨a, ns, b, rfl, _⟩ := h
    rfl
  · obtain ⟨a, ns, b, rfl, ha, hp, hl, k⟩ := h
    refine ⟨_, (pss_cons (ps_set (i := 2) nd rfl (Or.inl rfl) pe_int)
       (pss_cons (ps_set (i := 3) nd rfl (Or.inl rfl) (pe_callB call_len_seq (by rfl) T.b_len PySem.boot_len (pa_cons (pv 0) pa_nil)))
       (pss_cons (ps_while PassesOwn.never (pt_cmpR op_lt (pv 2) (pv 3) (nomark _)) (pss_cons (ps_set (i := 4) nd rfl (Or.inl rfl) (pe_op op_fdivW (pe_op op_add (pv 2) (pv 3)) pe_int))
       (pss_one (ps_if (pt_cmpR op_lt (pe_ix (r := rIxL K) ix_list (pv 0) (pv 4) (fun _ _ => rfl)) (pv 1) (nomark _)) (pss_one (ps_set (i := 2) nd rfl (Or.inl rfl) (pe_op op_add (pv 4) pe_int))) (pss_one (ps_set (i := 3) nd rfl (Or.inl rfl) (pv 4)))))))
       (pss_one (ps_ret (pv 2)))))), ?_⟩
    refine ⟨_, rfl, a, _, rfl, .inl (SqL.of ha), ?_⟩
    rw [List.length_map]
    refine ⟨fun d σ H2 => ∃ (lo hi : Nat), ∃ v4 : Option V, d = hi - lo ∧ σ = [some (.ref a), some (.int b), some (.int lo), some (.int hi), v4] ∧ H2 = H ∧ lo ≤ hi ∧ hi ≤ ns.length ∧ (∀ j v, ns[j]? = some v → j < lo → v < b) ∧ (∀ j v, ns[j]? = some v → hi ≤ j → b ≤ v),
      ⟨ns.length, 0, ns.length, none, rfl, rfl, rfl, Nat.zero_le _, Nat.le_refl _, fun j v _ z => absurd z (Nat.not_lt_zero j), fun j v e z => absurd (List.getElem?_eq_some_iff.mp e).1 (Nat.not_lt.mpr z)⟩, ?_⟩
    rintro d σ H2 ⟨lo, hi, v4, rfl, rfl, rfl, hlh, hhn, w1, w2⟩
    refine ⟨_, rfl, _, rfl, _, _, rfl, rfl, _, rfl, ?_⟩
    refine ite2 (fun c => ?_) (fun c => ?_)
    · have c' : (lo : Int) < hi := of_decide_eq_true c
      have c2 : lo < hi := by omega
      obtain ⟨mid, hmid⟩ : ∃ mid : Nat, ((lo : Int) + hi) / 2 = mid := ⟨(lo + hi) / 2, by omega⟩
      have m1 : lo ≤ mid := by omega
      have m2 : mid < hi := by omega
      have hmn : mid < ns.length := by omega
      have hgm : (ns.map V.int)[mid]? = some (.int ns[mid]) := by rw [List.getElem?_map, List.getElem?_eq_getElem hmn]; rfl
      have step : ∀ i j (h1 : i < ns.length) (h2 : j < ns.length), i < j → ns[i] < ns[j] := List.pairwise_iff_getElem.mp hp
      refine ⟨fun σ' H' => ∃ (lo' hi' : Nat), ∃ v4 : Option V, hi' - lo' < hi - lo ∧ σ' = [some (.ref a), some (.int b), some (.int lo'), some (.int hi'), v4] ∧ H' = H2 ∧ lo' ≤ hi' ∧ hi' ≤ ns.length ∧ (∀ j v, ns[j]? = some v → j < lo' → v < b) ∧ (∀ j v, ns[j]? = some v → hi' ≤ j → b ≤ v), ?_, ?_⟩
      · rintro σ' H' ⟨lo', hi', v4, h1, h2, h3, h4⟩
        exact ⟨hi' - lo', h1, lo', hi', v4, rfl, h2, h3, h4⟩
      refine ⟨_, rfl, _, rfl, _, _, rfl, rfl, _, _, rfl, rfl, wide_div (b := 10) (by decide : (0 : Int) < 2) (by decide) (by decide) (by decide), ?_⟩
      refine ⟨_, rfl, _, rfl, a, _, ((lo : Int) + hi) / 2, .int ns[mid], rfl, rfl, SqL.of ha, (by rw [hmid]; exact atI_nat hgm), _, rfl, _, _, rfl, rfl, _, rfl, ?_⟩
      refine ite2 (fun z => ?_) (fun z => ?_)
      · have z' : ns[mid] < b := of_decide_eq_true z
        refine ⟨_, rfl, _, _, rfl, rfl, ?_⟩
        refine ⟨mid + 1, hi, some (.int mid), by omega, (by show [_, _, some (V.int (((lo : Int) + hi) / 2 + 1)), _, some (V.int (((lo : Int) + hi) / 2))] = _; rw [hmid]; rfl), rfl, by omega, hhn, fun j v ej lj => ?_, w2⟩
        obtain ⟨hj, rfl⟩ := List.getElem?_eq_some_iff.mp ej
        by_cases q : j = mid
        · subst q; exact z'
        · have := step j mid hj hmn (by omega)
          omega
      · have z' : ¬ ns[mid] < b := fun q => z (decide_eq_true q)
        refine ⟨_, rfl, lo, mid, some (.int mid), by omega, (by show [_, _, _, some (V.int (((lo : Int) + hi) / 2)), some (V.int (((lo : Int) + hi) / 2))] = _; rw [hmid]), rfl, m1, by omega, w1, fun j v ej lj => ?_⟩
        obtain ⟨hj, rfl⟩ := List.getElem?_eq_some_iff.mp ej
        by_cases q : j = mid
        · subst q; omega
        · have := step mid j hmn hj (by omega)
          omega
    · have c' : lo = hi := by
        have : ¬ ((lo : Int) < hi) := fun z => c (decide_eq_true z)
        omega
      subst c'
      exact ⟨_, rfl, k lo hhn fun j v e => ⟨w1 j v e, fun z => by
        by_cases q : j < lo
        · exact q
        · have := w2 j v e (by omega)
          omega⟩⟩
theorem ok_countbelow (T : LX K mg L) : Cal P w K mg base "count_below" 1 L.f_count_below ["numbers", "bound"] (spCb) := T.d_count_below.cal fun fd F => fn_countbelow T F
end
/-! ### the class Trains over the text as a whole -/
section
variable {P : Program} {w : World} {K : PySem.W.Frag} {mg : Str → Option Value} {base : Heap} {L : LA}
abbrev N_istrain : List Str := ["value", "start", "step", "count"]
theorem sc_istrain : FnScope N_istrain ["value"] (defScope st_is_train) := ⟨rfl, rfl, rfl, by decide +kernel, rfl, by decide +kernel, by decide +kernel⟩
theorem fn_istrain (T : LX K mg L) {fd : FuncData} (F : Fun K "is_train" "is_train" st_is_train L.f_is_train fd) : FnOk P w K mg base CX0 3 L.f_is_train fd ["value"] (spIsTr) := by
  have G_isatleast := ok_isatleast (P := P) (w := w) (base := base) T
  have nd := sc_istrain.nd
  refine F.ok sc_istrain (fun vs H Q E h => ?_) (fun cdv A outer S H vs Q E hr h => ?_)
  · obtain ⟨x, t, rfl, _⟩ := h
    rfl
  · obtain ⟨x, t, rfl, ⟨a, rfl, ha⟩, ⟨h1, h2, h3⟩, k⟩ := h
    refine ⟨_, (pss_cons (ps_if (PW.pt (pw_or (pt_not (pt_val (pe_callB call_isi (by rfl) T.b_isinstance (by decide +kernel) (pa_cons (pv 0) (pa_cons (pe_bltn (by rfl) T.b_tuple (by decide +kernel : bootBuiltins "tuple" = some (.type "tuple")) (v := .ty "tuple") rfl) pa_nil))))) (pw_or1 (pt_cmpR op_ne (pe_callB call_len_seq (by rfl) T.b_len PySem.boot_len (pa_cons (pv 0) pa_nil)) pe_int (nomark _))))) (pss_one (ps_ret pe_bl)) pss_nil)
       (pss_cons (ps_asg (pv 0) (pg_tup rfl (pgs_cons (pg_name (i := 1) nd rfl (Or.inl rfl)) (pgs_cons (pg_name (i := 2) nd rfl (Or.inl rfl)) (pgs_cons (pg_name (i := 3) nd rfl (Or.inl rfl)) pgs_nil)))))
       (pss_one (ps_ret (pe_and (pe_c G_isatleast (hr.mono (by decide)) rfl (pa_cons (pv 1) (pa_cons pe_int pa_nil))) (pe_and (pe_c G_isatleast (hr.mono (by decide)) rfl (pa_cons (pv 2) (pa_cons pe_int pa_nil))) (pe_one (pe_or (pe_cmp (pc_isN (pv 3))) (pe_one (pe_c G_isatleast (hr.mono (by decide)) rfl (pa_cons (pv 3) (pa_cons pe_int pa_nil)))))))))))), ?_⟩
    refine ⟨_, rfl, _, .ty "tuple", _, _, _, rfl, .ty "tuple", (Kd.tup ha).ty, (Kd.tup ha).kit "tuple" _ (.inr ⟨by decide, by decide, rfl⟩), _, rfl, iteF ?_⟩
    refine ⟨_, rfl, a, _, rfl, .inr (SqT.of ha), rfl, _, rfl, iteF ?_⟩
    refine ⟨_, rfl, a, _, rfl, SqT.of ha, rfl, _, _, rfl, _, _, rfl, _, _, rfl, rfl, ?_⟩
    refine ⟨_, rfl, _, _, _, rfl, .int _, _, rfl, ?_⟩
    show if decide ((0 : Int) ≤ t.1) = true then _ else _
    rw [decide_eq_true h1]
    refine iteT ⟨_, rfl, _, _, _, rfl, .int _, _, rfl, ?_⟩
    show if decide ((1 : Int) ≤ t.2.1) = true then _ else _
    rw [decide_eq_true h2]
    refine iteT ⟨_, rfl, ?_⟩
    cases hk : t.2.2 with
    | none => exact ⟨_, rfl, iteT k⟩
    | some c =>
      refine ⟨_, rfl, iteF ⟨_, rfl, _, _, _, rfl, .int _, ?_⟩⟩
      show Q (.bl (decide ((1 : Int) ≤ c))) H
      rw [decide_eq_true (h3 c hk)]
      exact k
theorem ok_istrain (T : LX K mg L) : Cal P w K mg base "is_train" 3 L.f_is_train ["value"] (spIsTr) := T.d_is_train.cal fun fd F => fn_istrain T F
abbrev N_withplainstep : List Str := ["train", "start", "step", "count"]
theorem sc_withplainstep : FnScope N_withplainstep ["train"] (defScope st_with_plain_step) := ⟨rfl, rfl, rfl, by decide +kernel, rfl, by decide +kernel, by decide +kernel⟩
theorem fn_withplainstep (T : LX K mg L) {fd : FuncData} (F : Fun K "with_plain_step" "with_plain_step" st_with_plain_step L.f_with_plain_step fd) : FnOk P w K mg base CX0 1 L.f_with_plain_step fd ["train"] (spPlain) := by
  have nd := sc_withplainstep.nd
  refine F.ok sc_withplainstep (fun vs H Q E h => ?_) (fun cdv A outer S H vs Q E hr h => ?_)
  · obtain ⟨x, t, rfl, _⟩ := h
    rfl
  · obtain ⟨x, t, rfl, ⟨a, rfl, ha⟩, k⟩ := h
    refine ⟨_, (pss_cons (ps_asg (pv 0) (pg_tup rfl (pgs_cons (pg_name (i := 1) nd rfl (Or.inl rfl)) (pgs_cons (pg_name (i := 2) nd rfl (Or.inl rfl)) (pgs_cons (pg_name (i := 3) nd rfl (Or.inl rfl)) pgs_nil)))))
       (pss_cons (ps_if (pt_cmpR op_eq (pv 3) pe_int (nomark _)) (pss_one (ps_ret (pe_tup (pa_cons (pv 1) (pa_cons pe_int (pa_cons pe_int pa_nil)))))) pss_nil)
       (pss_one (ps_ret (pe_tup (pa_cons (pv 1) (pa_cons (pv 2) (pa_cons (pv 3) pa_nil)))))))), ?_⟩
    refine ⟨_, rfl, a, _, rfl, SqT.of ha, rfl, _, _, rfl, _, _, rfl, _, _, rfl, rfl, ?_⟩
    have sc : scal (cV t.2.2) (.int 1) = true := by cases t.2.2 <;> rfl
    refine ⟨_, rfl, sc, _, rfl, ?_⟩
    refine ite2 (fun c => ?_) (fun c => ?_)
    · have c' : t.2.2 = some 1 := by
        have c2 : cV t.2.2 = .int 1 := of_decide_eq_true c
        cases hk : t.2.2 with
        | none => rw [hk] at c2; cases c2
        | some d => rw [hk] at c2; cases c2; rfl
      refine ⟨_, rfl, (by show 3 ≤ sizeLine; decide), fun e he => ?_⟩
      have ep : plainT t = (t.1, 1, some 1) := by unfold plainT; rw [if_pos c']
      have := k e he
      rw [ep] at this
      exact this
    · have c' : ¬ t.2.2 = some 1 := fun e => c (decide_eq_true (by rw [e]; rfl))
      refine ⟨_, rfl, _, rfl, _, rfl, (by show 3 ≤ sizeLine; decide), fun e he => ?_⟩
      have ep : plainT t = t := by unfold plainT; rw [if_neg c']
      have := k e he
      rw [ep] at this
      exact this
theorem ok_withplainstep (T : LX K mg L) : Cal P w K mg base "with_plain_step" 1 L.f_with_plain_step ["train"] (spPlain) := T.d_with_plain_step.cal fun fd F => fn_withplainstep T F
end
/-! ### lists of trains in the heap -/
/-! ### joined and normal_form -/
def spNf : Sp := fun vs H Q _ => ∃ a xs ts n, vs = [.ref a] ∧ H a = some (.lst xs) ∧ Trs H xs ts ∧ Srt ts ∧ (∀ t ∈ ts, BT n t) ∧ n < 5000 ∧ ts.length ≤ 5000 ∧ ∀ l zs H', H' l = some (.lst zs) → Trs H' zs (nfs ts) → Same H H' → H l = none → Q (.ref l) H'
def spCa : Sp := fun vs H Q _ => ∃ a xs ts, vs = [.ref a] ∧ H a = some (.lst xs) ∧ Trs H xs ts ∧ (∀ t ∈ ts, OkTr t) ∧ ts.length ≤ 5000 ∧ ∀ l H', H' l = some (.lst ((ahd 0 ts).map V.int)) → Same H H' → H l = none → Q (.ref l) H'
def spTc : Sp := fun vs H Q _ => ∃ a xs ts, vs = [.ref a] ∧ H a = some (.lst xs) ∧ Trs H xs ts ∧ Srt ts ∧ ts.length ≤ 5000 ∧ ∀ H', Same H H' → Q (cV (Tot ts)) H'
def spCk : Sp := fun vs H Q _ => ∃ a xs ts n, vs = [.ref a] ∧ H a = some (.lst xs) ∧ Trs H xs ts ∧ Srt ts ∧ (∀ t ∈ ts, BT n t) ∧ n < 5000 ∧ ts.length ≤ 1000 ∧ ∀ H', Same H H' → Q .non H'
section
variable {P : Program} {w : World} {K : PySem.W.Frag} {mg : Str → Option Value} {base : Heap} {L : LA}
abbrev N_joined : List Str := ["train", "following", "start", "step", "count"]
theorem sc_joined : FnScope N_joined ["train", "following"] (defScope st_joined) := ⟨rfl, rfl, rfl, by decide +kernel, rfl, by decide +kernel, by decide +kernel⟩
theorem fn_joined (T : LX K mg L) {fd : FuncData} (F : Fun K "joined" "joined" st_joined L.f_joined fd) : FnOk P w K mg base CX0 2 L.f_joined fd ["train", "following"] (spJoin) := by
  have G_partof := ok_partof (P := P) (w := w) (base := base) T
  have nd := sc_joined.nd
  refine F.ok sc_joined (fun vs H Q E h => ?_) (fun cdv A outer S H vs Q E hr h => ?_)
  · obtain ⟨x, t, y, f, c, rfl, _⟩ := h
    rfl
  · obtain ⟨x, t, y, f, c, rfl, ⟨a, rfl, ha⟩, ⟨b, rfl, hb⟩, ht, hf, bt, bf, hc, hl, k⟩ := h
    refine ⟨_, (pss_cons (ps_asg (pv 0) (pg_tup rfl (pgs_cons (pg_name (i := 2) nd rfl (Or.inl rfl)) (pgs_cons (pg_name (i := 3) nd rfl (Or.inl rfl)) (pgs_cons (pg_name (i := 4) nd rfl (Or.inl rfl)) pgs_nil)))))
       (C8.pss_cut (ps_if (pt_cmpR op_eq (pv 4) pe_int (nomark _)) (pss_one (ps_set (i := 3) nd rfl (Or.inl rfl) (pe_op op_sub (pe_ix (r := rIxT K) ix_tup (pv 1) pe_int (fun _ _ => rfl)) (pv 2)))) pss_nil)
       (pss_cons (ps_if (pt_cmpR op_ne (pe_op op_add (pv 2) (pe_op op_mulW (pv 4) (pv 3))) (pe_ix (r := rIxT K) ix_tup (pv 1) pe_int (fun _ _ => rfl)) (nomark _)) (pss_one (ps_ret (pe_lst (pa_cons (pv 0) (pa_cons (pv 1) pa_nil))))) pss_nil)
       (pss_cons (ps_if (pt_cmpR op_ne (pe_ix (r := rIxT K) ix_tup (pv 1) pe_int (fun _ _ => rfl)) (pv 3) (nomark _)) (pss_one (ps_ret (pe_op op_cat (pe_lst (pa_cons (pe_tup (pa_cons (pv 2) (pa_cons (pv 3) (pa_cons (pe_op op_add (pv 4) pe_int) pa_nil)))) pa_nil)) (pe_c G_partof (hr.mono (by decide)) rfl (pa_cons (pv 1) (pa_cons pe_int (pa_cons (pe_ix (r := rIxT K) ix_tup (pv 1) pe_int (fun _ _ => rfl)) pa_nil))))))) pss_nil)
       (pss_cons (ps_if (pt_cmp (pc_isN (pe_ix (r := rIxT K) ix_tup (pv 1) pe_int (fun _ _ => rfl)))) (pss_one (ps_ret (pe_lst (pa_cons (pe_tup (pa_cons (pv 2) (pa_cons (pv 3) (pa_cons pe_non pa_nil)))) pa_nil)))) pss_nil)
       (pss_one (ps_ret (pe_lst (pa_cons (pe_tup (pa_cons (pv 2) (pa_cons (pv 3) (pa_cons (pe_op op_add (pv 4) (pe_ix (r := rIxT K) ix_tup (pv 1) pe_int (fun _ _ => rfl))) pa_nil)))) pa_nil))))))))), ?_⟩
    have c1 := ht.2.2 c hc
    have p1 := ht.2.1
    have q1 := hf.2.1
    have s0 := ht.1
    have start : t.1 < f.1 := lt_start ht hl
    have b1 := BB1
    have bs : t.1 ≤ BB := bt.s
    have bp : t.2.1 ≤ BB := bt.p
    have fs : f.1 ≤ BB := bf.s
    have bc : c ≤ BB + 1 := bt.cnt ht hc
    have ej : joinL t f = joinC t f c := by unfold joinL; rw [hc]
    have js : 1 ≤ joinS t f c ∧ joinS t f c ≤ BB := by
      unfold joinS
      split <;> omega
    rw [ej] at k
    refine ⟨_, rfl, a, _, rfl, SqT.of ha, rfl, _, _, rfl, _, _, rfl, _, _, rfl, rfl, ?_⟩
    refine ⟨fun σ H' => σ = [some (.ref a), some (.ref b), some (.int t.1), some (.int (joinS t f c)), some (cV (some c))] ∧ H' = H, ?_, ?_⟩
    · rw [hc]
      refine ⟨_, rfl, rfl, _, rfl, ?_⟩
      refine ite2 (fun z => ?_) (fun z => ?_)
      · have z' : c = 1 := V.int.inj (of_decide_eq_true z)
        refine ⟨_, rfl, b, _, 0, .int f.1, rfl, rfl, SqT.of hb, rfl, _, rfl, _, _, rfl, rfl, ?_⟩
        unfold joinS
        rw [if_pos z']
        exact ⟨rfl, rfl⟩
      · have z' : ¬ c = 1 := fun e => z (decide_eq_true (by rw [e]; rfl))
        unfold joinS
        rw [if_neg z']
        exact ⟨rfl, rfl⟩
    rintro σ H' ⟨rfl, rfl⟩
    unfold joinC at k
    generalize joinS t f c = st at *
    refine ⟨_, rfl, _, rfl, _, rfl, _, _, rfl, rfl, mulBB (by omega) (by omega) (by omega) (by omega), _, _, rfl, rfl, _, rfl, b, _, 0, .int f.1, rfl, rfl, SqT.of hb, rfl, rfl, _, rfl, ?_⟩
    refine ite2 (fun z => ?_) (fun z => ?_)
    · have z' : ¬ t.1 + c * st = f.1 := fun e => by
        have z2 : (!decide (V.int (t.1 + c * st) = V.int f.1)) = true := z
        rw [e] at z2
        simp at z2
      rw [if_neg z'] at k
      exact ⟨_, rfl, _, rfl, (by show 2 ≤ sizeLine; decide), fun l hl => k l _ _ upd_same (.cons ⟨a, rfl, (Same.upd hl) _ _ ha⟩ (.cons ⟨b, rfl, (Same.upd hl) _ _ hb⟩ .nil)) (Same.upd hl) hl⟩
    · have z' : t.1 + c * st = f.1 := by
        have z2 : ¬ (!decide (V.int (t.1 + c * st) = V.int f.1)) = true := z
        by_cases e : t.1 + c * st = f.1
        · exact e
        · refine absurd ?_ z2
          rw [decide_eq_false (fun w => e (V.int.inj w))]
          rfl
      rw [if_pos z'] at k
      refine ⟨_, rfl, b, _, 1, .int f.2.1, rfl, rfl, SqT.of hb, rfl, _, rfl, rfl, _, rfl, ?_⟩
      refine ite2 (fun w => ?_) (fun w => ?_)
      · have w' : ¬ f.2.1 = st := fun e => by
          rw [e] at w
          simp at w
        rw [if_neg w'] at k
        refine ⟨_, rfl, _, rfl, _, rfl, _, _, rfl, rfl, (by show 3 ≤ sizeLine; decide), fun e he => ⟨(by show 1 ≤ sizeLine; decide), fun l hl => ?_⟩⟩
        have s2 : Same H' (upd (upd H' e (.tup [.int t.1, .int st, .int (c + 1)])) l (.lst [.ref e])) := (Same.upd he).trans (Same.upd hl)
        refine ⟨_, rfl, _, rfl, b, _, 2, cV f.2.2, rfl, rfl, SqT.of (s2 _ _ hb), rfl, _, f, 1, f.2.2, rfl, ⟨b, rfl, s2 _ _ hb⟩, mulBB (by decide) (by omega) (by omega) (by have : f.2.1 ≤ BB := bf.p; omega), fun l2 zs H2 h1 h2 h3 h4 => ?_⟩
        refine ⟨l, l2, _, _, rfl, rfl, h3 _ _ upd_same, h1, ?_, fun p hp => ?_⟩
        · refine small2 (show 1 + zs.length ≤ 100000 from ?_)
          rw [h2.len]
          unfold partL
          cases f.2.2 with
          | none => simp
          | some d =>
            show 1 + (if 1 = d then [] else [(f.1 + 1 * f.2.1, f.2.1, some (d - 1))] : List Trn).length ≤ 100000
            split <;> simp
        · have s3 : Same H' (upd H2 p (.lst ([.ref e] ++ zs))) := (s2.trans h3).trans (Same.upd hp)
          refine k p _ _ upd_same ?_ s3 (none_of (s2.trans h3) hp)
          refine .cons ⟨e, rfl, (Same.upd hp) _ _ (h3 _ _ ?_)⟩ (h2.same (Same.upd hp))
          exact (Same.upd hl) _ _ upd_same
      · have w' : f.2.1 = st := by
          have w2 : ¬ (!decide (V.int f.2.1 = V.int st)) = true := w
          by_cases e : f.2.1 = st
          · exact e
          · refine absurd ?_ w2
            rw [decide_eq_false (fun w => e (V.int.inj w))]
            rfl
        rw [if_pos w'] at k
        refine ⟨_, rfl, b, _, 2, cV f.2.2, rfl, rfl, SqT.of hb, rfl, ?_⟩
        cases hk : f.2.2 with
        | none =>
          rw [hk] at k
          refine ⟨_, rfl, iteT ⟨_, rfl, _, rfl, (by show 3 ≤ sizeLine; decide), fun e he => ⟨(by show 1 ≤ sizeLine; decide), fun l hl => ?_⟩⟩⟩
          exact k l _ _ upd_same (Trs.one ⟨e, rfl, (Same.upd hl) _ _ upd_same⟩) ((Same.upd he).trans (Same.upd hl)) (none_of (Same.upd he) hl)
        | some d =>
          rw [hk] at k
          have hb2 : H' b = some (.tup [.int f.1, .int f.2.1, .int d]) := by
            rw [hb]
            unfold TrV
            rw [hk]
            rfl
          refine ⟨_, rfl, iteF ⟨_, rfl, _, rfl, _, rfl, _, rfl, b, _, 2, .int d, rfl, rfl, SqT.of hb2, rfl, _, _, rfl, rfl, (by show 3 ≤ sizeLine; decide), fun e he => ⟨(by show 1 ≤ sizeLine; decide), fun l hl => ?_⟩⟩⟩
          exact k l _ _ upd_same (Trs.one ⟨e, rfl, (Same.upd hl) _ _ upd_same⟩) ((Same.upd he).trans (Same.upd hl)) (none_of (Same.upd he) hl)
theorem ok_joined (T : LX K mg L) : Cal P w K mg base "joined" 2 L.f_joined ["train", "following"] (spJoin) := T.d_joined.cal fun fd F => fn_joined T F
end
/-! ### normal_form -/
theorem drop_of {α : Type} {xs : List α} {i : Nat} {x : α} (h : xs[i]? = some x) : xs.drop i = x :: xs.drop (i + 1) := by
  have hi := (List.getElem?_eq_some_iff.mp h).1
  rw [List.drop_eq_getElem_cons hi]
  congr 1
  exact (List.getElem?_eq_some_iff.mp h).2
structure NfW (n : Nat) (ts : List Trn) (i : Nat) (cl : List Trn) (h : Option Trn) : Prop where
  eq : nfs ts = nfG cl h (ts.drop i)
  srt : Srt (cl ++ h.toList ++ ts.drop i)
  bg : ∀ u ∈ cl ++ h.toList, BG n u
  br : ∀ u ∈ ts, BT n u
  ln : cl.length ≤ i + i
theorem NfW.start {n : Nat} {ts : List Trn} (hs : Srt ts) (hb : ∀ t ∈ ts, BT n t) : NfW n ts 0 [] none := ⟨rfl, by simpa using hs, fun u hu => by simp at hu, hb, Nat.le_refl _⟩
theorem NfW.first {n : Nat} {ts : List Trn} {i : Nat} {cl : List Trn} {f : Trn} (W : NfW n ts i cl none) (e : ts[i]? = some f) : NfW n ts (i + 1) cl (some f) := by
  have hd := drop_of e
  have h1 := W.srt
  have h2 := W.eq
  rw [hd] at h1 h2
  refine ⟨h2, ?_, fun u hu => ?_, W.br, by have := W.ln; omega⟩
  · have e2 : cl ++ (none : Option Trn).toList ++ f :: ts.drop (i + 1) = cl ++ (some f).toList ++ ts.drop (i + 1) := by simp
    rw [← e2]; exact h1
  · rcases List.mem_append.mp hu with hu | hu
    · exact W.bg u (List.mem_append_left _ hu)
    · have e3 : u = f := by simpa using hu
      rw [e3]
      exact BG.of (W.br f (List.mem_of_getElem? e))
structure NfS (n : Nat) (ts : List Trn) (i : Nat) (cl : List Trn) (t f : Trn) : Prop where
  ht : OkTr t
  hf : OkTr f
  hl : Lt t f
  bt : BT n t
  bf : BT n f
  nx : NfW n ts (i + 1) (cl ++ (joinL t f).dropLast) (joinL t f).getLast?
  ln : (joinL t f).length ≤ 2
theorem NfW.step {n : Nat} {ts : List Trn} {i : Nat} {cl : List Trn} {t f : Trn} (W : NfW n ts i cl (some t)) (e : ts[i]? = some f) : NfS n ts i cl t f := by
  have hd := drop_of e
  have hs := W.srt
  have h2 := W.eq
  rw [hd] at hs h2
  have e0 : cl ++ (some t).toList ++ f :: ts.drop (i + 1) = cl ++ (t :: f :: ts.drop (i + 1)) := by simp
  rw [e0] at hs
  obtain ⟨a1, a2, a3⟩ := List.pairwise_append.mp hs.2
  obtain ⟨b1, b2⟩ := List.pairwise_cons.mp a2
  obtain ⟨c1, c2⟩ := List.pairwise_cons.mp b2
  have ht : OkTr t := hs.1 t (by simp)
  have hf : OkTr f := hs.1 f (by simp)
  have hl := b1 f (List.mem_cons_self ..)
  have J := joinL_ok ht hf hl
  have bg : BG n t := W.bg t (by simp)
  have bf : BT n f := W.br f (List.mem_of_getElem? e)
  have hl0 := hl
  obtain ⟨c, hc, _⟩ := hl
  have k1 := ht.2.2 c hc
  obtain ⟨eg, es⟩ := joinL_split (f := f) hc k1
  obtain ⟨v, zs, ev, _, _, ez⟩ := joinL_head (f := f) hc k1
  have hlen : (joinL t f).length ≤ 2 := by
    rw [ev]
    rcases ez with rfl | ⟨u, rfl⟩ <;> simp
  have e1 : cl ++ (joinL t f).dropLast ++ ((joinL t f).getLast?).toList ++ ts.drop (i + 1) = cl ++ (joinL t f ++ ts.drop (i + 1)) := by
    rw [List.append_assoc cl, eg, List.append_assoc]
  refine ⟨ht, hf, hl0, bg.1 (by rw [hc]; intro z; cases z), bf, ⟨h2, ?_, fun u hu => ?_, W.br, ?_⟩, hlen⟩
  · rw [e1]
    refine ⟨fun u hu => ?_, List.pairwise_append.mpr ⟨a1, List.pairwise_append.mpr ⟨J.pw, c2, fun u hu v hv => J.hi v (c1 v hv) u hu⟩, fun u hu v hv => ?_⟩⟩
    · rcases List.mem_append.mp hu with hu | hu
      · exact hs.1 u (List.mem_append_left _ hu)
      · rcases List.mem_append.mp hu with hu | hu
        · exact J.ok u hu
        · exact hs.1 u (List.mem_append_right _ (List.mem_cons_of_mem _ (List.mem_cons_of_mem _ hu)))
    · have l := a3 u hu t (List.mem_cons_self ..)
      rcases List.mem_append.mp hv with hv | hv
      · exact lt_of_start l (J.lo v hv)
      · exact a3 u hu v (List.mem_cons_of_mem _ (List.mem_cons_of_mem _ hv))
  · rw [List.append_assoc, eg] at hu
    rcases List.mem_append.mp hu with hu | hu
    · exact W.bg u (List.mem_append_left _ hu)
    · exact joinL_bg ht hf hl0 bg bf u hu
  · have := W.ln
    rw [List.length_append, List.length_dropLast]
    omega
theorem NfW.all {n : Nat} {ts : List Trn} : ∀ (k i : Nat) (cl : List Trn) (h : Option Trn), k + i = ts.length → NfW n ts i cl h → ∃ cl' h', NfW n ts ts.length cl' h'
  | 0, i, cl, h, e, W => by
    have : i = ts.length := by omega
    subst this
    exact ⟨cl, h, W⟩
  | k + 1, i, cl, h, e, W => by
    have hi : i < ts.length := by omega
    have e2 := List.getElem?_eq_getElem hi
    cases h with
    | none => exact NfW.all k (i + 1) _ _ (by omega) (W.first e2)
    | some t => exact NfW.all k (i + 1) _ _ (by omega) (W.step e2).nx
theorem nfs_bt {n : Nat} {ts : List Trn} (hs : Srt ts) (hb : ∀ t ∈ ts, BT n t) : ∀ t ∈ nfs ts, BT (n + 1) t := by
  obtain ⟨cl, h, W⟩ := NfW.all ts.length 0 [] none (by omega) (NfW.start hs hb)
  intro t ht
  rw [W.eq, List.drop_length] at ht
  have ht : t ∈ cl ++ (h.map plainT).toList := ht
  rcases List.mem_append.mp ht with ht | ht
  · exact (W.bg t (List.mem_append_left _ ht)).2
  · cases h with
    | none => simp at ht
    | some u =>
      have e : t = plainT u := by simpa using ht
      rw [e]
      exact plainT_bg (W.bg u (by simp))
section
variable {P : Program} {w : World} {K : PySem.W.Frag} {mg : Str → Option Value} {base : Heap} {L : LA}
abbrev N_normalform : List Str := ["trains", "closed", "held", "train", "grown"]
theorem sc_normalform : FnScope N_normalform ["trains"] (defScope st_normal_form) := ⟨rfl, rfl, rfl, by decide +kernel, rfl, by decide +kernel, by decide +kernel⟩
theorem fn_normalform (T : LX K mg L) {fd : FuncData} (F : Fun K "normal_form" "normal_form" st_normal_form L.f_normal_form fd) : FnOk P w K mg base CX0 3 L.f_normal_form fd ["trains"] (spNf) := by
  have G_joined := ok_joined (P := P) (w := w) (base := base) T
  have G_withplainstep := ok_withplainstep (P := P) (w := w) (base := base) T
  have nd := sc_normalform.nd
  refine F.ok sc_normalform (fun vs H Q E h => ?_) (fun cdv A outer S H vs Q E hr h => ?_)
  · obtain ⟨a, xs, ts, n, rfl, _⟩ := h
    rfl
  · obtain ⟨a, xs, ts, n, rfl, ha, hx, hs, hb, hn, hln, k⟩ := h
    refine ⟨_, (pss_cons (ps_set (i := 1) nd rfl (Or.inl rfl) (pe_lst pa_nil))
       (pss_cons (ps_set (i := 2) nd rfl (Or.inl rfl) (pe_lst pa_nil))
       (pss_cons (ps_for PassesOwn.never rfl (pi_list (pv 0)) (pg_name (i := 3) nd rfl (Or.inl rfl)) (pss_cons (ps_set (i := 4) nd rfl (Or.inl rfl) (pe_ifExp (pt_truth (pv 2) (fun _ => rfl)) (pe_c G_joined (hr.mono (by decide)) rfl (pa_cons (pe_ix (r := rIxL K) ix_list (pv 2) pe_int (fun _ _ => rfl)) (pa_cons (pv 3) pa_nil))) (pe_lst (pa_cons (pv 3) pa_nil))))
       (pss_cons (ps_expr (pe_bm PySem.F.plainAttrs_list PySem.F.slot_list_extend PySem.F.type_list_extend mt_extend (pv 1) (pa_cons (pe_slice (r := rSlL K) sl_list (pv 4) po_none (po_some (pe_un un_neg pe_int))) pa_nil)))
       (pss_one (ps_set (i := 2) nd rfl (Or.inl rfl) (pe_slice (r := rSlL K) sl_list (pv 4) (po_some (pe_un un_neg pe_int)) po_none))))))
       (pss_one (ps_ret (pe_op op_cat (pv 1) (pe_lc (own := [("train", 3)]) (g := gName 3) (tt := tYes) rfl nd (pi_list (pv 2)) (blkOk_by (own := [("train", 3)]) (N := N_normalform) (sc := defScope st_normal_form) (by decide +kernel)) (fun _ _ _ _ _ => pg_name (i := 3) nd rfl (Or.inl rfl)) (fun _ _ _ _ _ => pts_nil) (fun _ _ _ _ _ => (pe_c G_withplainstep (hr.mono (by decide)) rfl (pa_cons (pv 3) pa_nil)))))))))), ?_⟩
    have hxl := hx.len
    refine ⟨(by show 0 ≤ sizeLine; decide), fun l1 hl1 => ⟨(by show 0 ≤ sizeLine; decide), fun l2 hl2 => ?_⟩⟩
    have s1 : Same H (upd H l1 (.lst [])) := Same.upd hl1
    have s2 := s1.trans (Same.upd (o := .lst []) hl2)
    have n21 : l1 ≠ l2 := ne_of_none upd_same hl2
    refine ⟨_, rfl, a, rfl, ⟨_, SqL.of (s2 _ _ ha)⟩, for_list (K := K) (a := a) (xs := xs) (fun i σ H2 => ∃ cl h lh zc zh, ∃ v3 v4 : Option V, σ = [some (.ref a), some (.ref l1), some (.ref lh), v3, v4] ∧ H2 l1 = some (.lst zc) ∧ Trs H2 zc cl ∧ H2 lh = some (.lst zh) ∧ Trs H2 zh h.toList ∧ Same H H2 ∧ lh ≠ l1 ∧ NfW n ts i cl h)
      ⟨[], none, l2, [], [], none, none, rfl, by rw [upd_ne n21, upd_same], .nil, upd_same, .nil, s2, n21.symm, NfW.start hs hb⟩ (fun i σ H2 _ ⟨_, _, _, _, _, _, _, _, _, _, _, _, sH, _⟩ => SqL.of (sH _ _ ha)) ?_ ?_⟩
    · rintro i x σ H2 hxi ⟨cl, h, lh, zc, zh, v3, v4, rfl, hc, tc, hh, th, sH, nl, W⟩
      obtain ⟨f, hf, hxf⟩ := hx.get hxi
      have hxf2 := hxf.same sH
      have hi : i < ts.length := (List.getElem?_eq_some_iff.mp hf).1
      have hwl := W.ln
      have hcl : zc.length ≤ i + i := by rw [tc.len]; exact hwl
      -- what becomes of what is held
      have go : ∀ (lg : Addr) (zg : List V) (g : List Trn) (H3 : Hp), H3 lg = some (.lst zg) → Trs H3 zg g → Same H2 H3 → H2 lg = none → g.length ≤ 2 → NfW n ts (i + 1) (cl ++ g.dropLast) g.getLast? →
          ∀ p1, H3 p1 = none → ∀ p2, (upd (upd H3 p1 (.lst (cutV zg none (some (-1))))) l1 (.lst (zc ++ cutV zg none (some (-1))))) p2 = none →
          ∃ cl' h' lh' zc' zh', ∃ v3 v4 : Option V, [some (V.ref a), some (.ref l1), some (.ref p2), some x, some (.ref lg)] = [some (.ref a), some (.ref l1), some (.ref lh'), v3, v4] ∧
            (upd (upd (upd H3 p1 (.lst (cutV zg none (some (-1))))) l1 (.lst (zc ++ cutV zg none (some (-1))))) p2 (.lst (cutV zg (some (-1)) none))) l1 = some (.lst zc') ∧
            Trs (upd (upd (upd H3 p1 (.lst (cutV zg none (some (-1))))) l1 (.lst (zc ++ cutV zg none (some (-1))))) p2 (.lst (cutV zg (some (-1)) none))) zc' cl' ∧
            (upd (upd (upd H3 p1 (.lst (cutV zg none (some (-1))))) l1 (.lst (zc ++ cutV zg none (some (-1))))) p2 (.lst (cutV zg (some (-1)) none))) lh' = some (.lst zh') ∧
            Trs (upd (upd (upd H3 p1 (.lst (cutV zg none (some (-1))))) l1 (.lst (zc ++ cutV zg none (some (-1))))) p2 (.lst (cutV zg (some (-1)) none))) zh' h'.toList ∧
            Same H (upd (upd (upd H3 p1 (.lst (cutV zg none (some (-1))))) l1 (.lst (zc ++ cutV zg none (some (-1))))) p2 (.lst (cutV zg (some (-1)) none))) ∧ lh' ≠ l1 ∧ NfW n ts (i + 1) cl' h' := by
        intro lg zg g H3 hg tg s3 hlg hgl W3 p1 hp1 p2 hp2
        have n1 : NL H2 (upd H3 p1 (.lst (cutV zg none (some (-1))))) := NL.of (s3.trans (Same.upd hp1))
        have c3 : (upd H3 p1 (.lst (cutV zg none (some (-1))))) l1 = some (.lst zc) := (s3.trans (Same.upd hp1)) _ _ hc
        have n2 := NL.upd (o := .lst (zc ++ cutV zg none (some (-1)))) c3
        have n3 : NL _ _ := NL.of (Same.upd (o := .lst (cutV zg (some (-1)) none)) hp2)
        have np : l1 ≠ p2 := ne_of_none upd_same hp2
        have tg2 := ((tg.same (Same.upd (o := .lst (cutV zg none (some (-1)))) hp1)).nl n2).nl n3
        refine ⟨cl ++ g.dropLast, g.getLast?, p2, _, _, _, _, rfl, by rw [upd_ne np, upd_same], (((tc.nl n1).nl n2).nl n3).app tg2.init, upd_same, tg2.lastL, ?_, np.symm, W3⟩
        intro b o e
        have nb1 : b ≠ l1 := ne_of_none e hl1
        have e2 := (s3.trans (Same.upd (o := .lst (cutV zg none (some (-1)))) hp1)) _ _ (sH _ _ e)
        have e3 : (upd (upd H3 p1 (.lst (cutV zg none (some (-1))))) l1 (.lst (zc ++ cutV zg none (some (-1))))) b = some o := by rw [upd_ne nb1]; exact e2
        exact (Same.upd hp2) _ _ e3
      have fin : ∀ (lg : Addr) (zg : List V) (g : List Trn) (H3 : Hp), H3 lg = some (.lst zg) → Trs H3 zg g → Same H2 H3 → H2 lg = none → g.length ≤ 2 → ∀ p1, H3 p1 = none →
          (upd H3 p1 (.lst (cutV zg none (some (-1))))) l1 = some (.lst zc) ∧ (upd H3 p1 (.lst (cutV zg none (some (-1))))) p1 = some (.lst (cutV zg none (some (-1)))) ∧ zc.length + (cutV zg none (some (-1))).length ≤ sizeLine ∧ (upd H3 p1 (.lst (cutV zg none (some (-1))))) lg = some (.lst zg) := by
        intro lg zg g H3 hg tg s3 hlg hgl p1 hp1
        refine ⟨(s3.trans (Same.upd hp1)) _ _ hc, upd_same, small2 ?_, (Same.upd hp1) _ _ hg⟩
        have e1 := cutV_length zg none (some (-1))
        have e2 := tg.len
        omega
      have sq : ∀ (lg : Addr) (zg : List V) (H3 : Hp) (p1 : Addr), lg ≠ l1 → (upd H3 p1 (.lst (cutV zg none (some (-1))))) lg = some (.lst zg) → (upd (upd H3 p1 (.lst (cutV zg none (some (-1))))) l1 (.lst (zc ++ cutV zg none (some (-1))))) lg = some (.lst zg) := fun lg zg H3 p1 ne e => by
        rw [upd_ne ne]; exact e
      cases h with
      | none =>
        have zh0 : zh = [] := by
          have := th.len
          simpa using this
        subst zh0
        have Wn := W.first hf
        refine ⟨_, rfl, false, .inl ⟨[], SqL.of hh, rfl⟩, iteF ⟨_, rfl, (by show 1 ≤ sizeLine; decide), fun lg hlg => ?_⟩⟩
        have ng : lg ≠ l1 := (ne_of_none hc hlg).symm
        have tg : Trs (upd H2 lg (.lst [x])) [x] [f] := Trs.one (hxf2.same (Same.upd hlg))
        refine ⟨_, rfl, .inl ⟨rfl, _, SqL.of ((Same.upd hlg) _ _ hc)⟩, _, rfl, 1, rfl, -1, rfl, lg, [x], rfl, SqL.of upd_same, fun p1 hp1 => ?_⟩
        obtain ⟨g1, g2, g3, g4⟩ := fin lg [x] [f] _ upd_same tg (Same.upd hlg) hlg (by show 1 ≤ 2; decide) p1 hp1
        refine ⟨l1, p1, zc, _, rfl, rfl, g1, g2, g3, ?_⟩
        refine ⟨_, rfl, 1, rfl, -1, rfl, lg, [x], rfl, SqL.of (sq lg [x] _ p1 ng g4), fun p2 hp2 => ?_⟩
        exact go lg [x] [f] _ upd_same tg (Same.upd hlg) hlg (by show 1 ≤ 2; decide) (by simpa using Wn) p1 hp1 p2 hp2
      | some t =>
        obtain ⟨y, zh0, hy⟩ : ∃ y, zh = [y] ∧ TrAt H2 y t := by
          cases th with
          | cons r tl =>
            cases tl
            exact ⟨_, rfl, r⟩
        subst zh0
        have S := W.step hf
        obtain ⟨ct, hct, _⟩ := S.hl
        refine ⟨_, rfl, true, .inl ⟨[y], SqL.of hh, rfl⟩, iteT ⟨_, rfl, lh, _, 0, y, rfl, rfl, SqL.of hh, rfl, _, rfl, y, t, x, f, ct, rfl, hy, hxf2, S.ht, S.hf, S.bt.le (by omega), S.bf.le (by omega), hct, S.hl, fun lg zg H3 hg tg s3 hlg => ?_⟩⟩
        have ng : lg ≠ l1 := (ne_of_none hc hlg).symm
        refine ⟨_, rfl, .inl ⟨rfl, _, SqL.of (s3 _ _ hc)⟩, _, rfl, 1, rfl, -1, rfl, lg, zg, rfl, SqL.of hg, fun p1 hp1 => ?_⟩
        obtain ⟨g1, g2, g3, g4⟩ := fin lg zg _ _ hg tg s3 hlg S.ln p1 hp1
        refine ⟨l1, p1, zc, _, rfl, rfl, g1, g2, g3, ?_⟩
        refine ⟨_, rfl, 1, rfl, -1, rfl, lg, zg, rfl, SqL.of (sq lg zg _ p1 ng g4), fun p2 hp2 => ?_⟩
        exact go lg zg _ _ hg tg s3 hlg S.ln S.nx p1 hp1 p2 hp2
    · rintro σ H2 ⟨cl, h, lh, zc, zh, v3, v4, rfl, hc, tc, hh, th, sH, nl, W⟩
      have We := W.eq
      have hwl := W.ln
      rw [hxl, List.drop_length] at We
      have We : nfs ts = cl ++ (h.map plainT).toList := We
      refine ⟨_, rfl, _, rfl, lh, rfl, ⟨_, SqL.of hh⟩, fun E1 hE => ?_⟩
      have hzh : zh.length = h.toList.length := th.len
      refine lc_list (K := K) (a := lh) (xs := zh) (fun j H3 => ∃ ws, H3 E1 = some (.lst ws) ∧ Trs H3 ws ((h.toList.map plainT).take j) ∧ Same H2 H3) ⟨[], upd_same, .nil, Same.upd hE⟩ (fun j H3 _ ⟨_, _, _, s⟩ => SqL.of (s _ _ hh)) ?_ ?_
      · rintro j y H3 hy ⟨ws, hD, tw, s3⟩
        obtain ⟨t, ht, hyt⟩ := th.get hy
        have hj : ws.length ≤ 1 := by
          rw [tw.len, List.length_take, List.length_map]
          have : h.toList.length ≤ 1 := by cases h <;> simp
          omega
        refine ⟨rfl, tYes_of ⟨_, rfl, y, t, rfl, hyt.same s3, fun p hp => ?_⟩⟩
        have s4 : Same H3 (upd H3 p (.tup (TrV (plainT t)))) := Same.upd hp
        refine ⟨ws, s4 _ _ hD, small1 (by omega), ws ++ [.ref p], upd_same, ?_, fun b o e => ?_⟩
        · have n5 := NL.upd (o := .lst (ws ++ [.ref p])) (s4 _ _ hD)
          rw [List.take_add_one, List.getElem?_map, ht]
          exact ((tw.same s4).nl n5).app (Trs.one ⟨p, rfl, n5 _ _ upd_same fun _ z => nomatch z⟩)
        · rw [upd_ne (ne_of_none e hE)]
          exact s4 _ _ (s3 _ _ e)
      · rintro H3 ⟨ws, hD, tw, s3⟩
        have e1 : (h.toList.map plainT).take zh.length = (h.map plainT).toList := by
          rw [hzh]
          cases h <;> rfl
        rw [e1] at tw
        have hw : ws.length ≤ 1 := by
          rw [tw.len]
          cases h <;> simp
        refine ⟨l1, E1, zc, ws, rfl, rfl, s3 _ _ hc, hD, small2 (by have := tc.len; omega), fun p hp => ?_⟩
        have s4 := Same.upd (o := .lst (zc ++ ws)) hp
        refine k p (zc ++ ws) _ upd_same ?_ ((sH.trans s3).trans s4) (none_of (sH.trans s3) hp)
        rw [We]
        exact ((tc.same s3).same s4).app (tw.same s4)
theorem ok_normalform (T : LX K mg L) : Cal P w K mg base "normal_form" 3 L.f_normal_form ["trains"] (spNf) := T.d_normal_form.cal fun fd F => fn_normalform T F
end
/-! ### counts, totals, checks -/
section
variable {P : Program} {w : World} {K : PySem.W.Frag} {mg : Str → Option Value} {base : Heap} {L : LA}
abbrev N_countsahead : List Str := ["trains", "ahead", "total", "train"]
theorem sc_countsahead : FnScope N_countsahead ["trains"] (defScope st_counts_ahead) := ⟨rfl, rfl, rfl, by decide +kernel, rfl, by decide +kernel, by decide +kernel⟩
theorem fn_countsahead (T : LX K mg L) {fd : FuncData} (F : Fun K "counts_ahead" "counts_ahead" st_counts_ahead L.f_counts_ahead fd) : FnOk P w K mg base CX0 1 L.f_counts_ahead fd ["trains"] (spCa) := by
  have nd := sc_countsahead.nd
  refine F.ok sc_countsahead (fun vs H Q E h => ?_) (fun cdv A outer S H vs Q E hr h => ?_)
  · obtain ⟨a, xs, ts, rfl, _⟩ := h
    rfl
  · obtain ⟨a, xs, ts, rfl, ha, hx, ho, hln, k⟩ := h
    refine ⟨_, (pss_cons (ps_set (i := 1) nd rfl (Or.inl rfl) (pe_lst pa_nil))
       (pss_cons (ps_set (i := 2) nd rfl (Or.inl rfl) pe_int)
       (pss_cons (ps_for PassesOwn.never rfl (pi_list (pv 0)) (pg_name (i := 3) nd rfl (Or.inl rfl)) (pss_cons (ps_expr (pe_bm PySem.F.plainAttrs_list PySem.F.slot_list_append PySem.F.type_list_append mt_append (pv 1) (pa_cons (pv 2) pa_nil)))
       (pss_one (ps_set (i := 2) nd rfl (Or.inl rfl) (pe_op op_add (pv 2) (pe_orT (pe_ix (r := rIxT K) ix_tup (pv 3) pe_int (fun _ _ => rfl)) (pe_one pe_int)))))))
       (pss_one (ps_ret (pv 1)))))), ?_⟩
    have hxl := hx.len
    refine ⟨(by show 0 ≤ sizeLine; decide), fun l1 hl1 => ?_⟩
    have s1 : Same H (upd H l1 (.lst [])) := Same.upd hl1
    refine ⟨_, rfl, a, rfl, ⟨_, SqL.of (s1 _ _ ha)⟩, for_list (K := K) (a := a) (xs := xs) (fun i σ H2 => ∃ v3 : Option V, σ = [some (.ref a), some (.ref l1), some (.int (sumC (ts.take i))), v3] ∧ H2 l1 = some (.lst ((ahd 0 (ts.take i)).map V.int)) ∧ Same H H2)
      ⟨none, rfl, upd_same, s1⟩ (fun i σ H2 _ ⟨_, _, _, sH⟩ => SqL.of (sH _ _ ha)) ?_ ?_⟩
    · rintro i x σ H2 hxi ⟨v3, rfl, hc, sH⟩
      obtain ⟨t, ht, b, rfl, hb⟩ := hx.get hxi
      have hi : i < ts.length := (List.getElem?_eq_some_iff.mp ht).1
      have sH2 : Same H (upd H2 l1 (.lst ((ahd 0 (ts.take i)).map V.int ++ [.int (sumC (ts.take i))]))) := fun b o e => by
        rw [upd_ne (ne_of_none e hl1)]
        exact sH _ _ e
      refine ⟨_, rfl, .inl ⟨rfl, _, SqL.of hc⟩, _, rfl, l1, _, _, rfl, rfl, hc, small1 (by rw [List.length_map, ahd_len, List.length_take]; omega), ?_⟩
      refine ⟨_, rfl, _, rfl, b, _, 2, cV t.2.2, rfl, rfl, SqT.of (sH2 _ _ hb), rfl, ?_⟩
      have fin : ∀ d : Int, d = t.2.2.getD 0 → ∃ v3 : Option V, [some (V.ref a), some (.ref l1), some (.int (sumC (ts.take i) + d)), some (.ref b)] = [some (.ref a), some (.ref l1), some (.int (sumC (ts.take (i + 1)))), v3] ∧ (upd H2 l1 (.lst ((ahd 0 (ts.take i)).map V.int ++ [.int (sumC (ts.take i))]))) l1 = some (.lst ((ahd 0 (ts.take (i + 1))).map V.int)) ∧ Same H (upd H2 l1 (.lst ((ahd 0 (ts.take i)).map V.int ++ [.int (sumC (ts.take i))]))) := fun d hd => by
        rw [hd, ← sumC_take ht]
        refine ⟨_, rfl, ?_, sH2⟩
        rw [upd_same, ahd_take ht, List.map_append]
        rfl
      cases hk : t.2.2 with
      | none =>
        refine ⟨false, rfl, ?_⟩
        rw [if_neg Bool.false_ne_true]
        exact ⟨_, _, rfl, rfl, fin 0 (by rw [hk]; rfl)⟩
      | some c =>
        have c1 := ho t (List.mem_of_getElem? ht) |>.2.2 c hk
        refine ⟨true, (by show true = (c != 0); simp; omega), ?_⟩
        rw [if_pos rfl]
        exact ⟨_, _, rfl, rfl, fin c (by rw [hk]; rfl)⟩
    · rintro σ H2 ⟨v3, rfl, hc, sH⟩
      rw [hxl, List.take_length] at hc
      exact ⟨_, rfl, k l1 H2 hc sH hl1⟩
theorem ok_countsahead (T : LX K mg L) : Cal P w K mg base "counts_ahead" 1 L.f_counts_ahead ["trains"] (spCa) := T.d_counts_ahead.cal fun fd F => fn_countsahead T F
abbrev N_totalcount : List Str := ["trains", "train"]
theorem sc_totalcount : FnScope N_totalcount ["trains"] (defScope st_total_count) := ⟨rfl, rfl, rfl, by decide +kernel, rfl, by decide +kernel, by decide +kernel⟩
theorem fn_totalcount (T : LX K mg L) {fd : FuncData} (F : Fun K "total_count" "total_count" st_total_count L.f_total_count fd) : FnOk P w K mg base CX0 1 L.f_total_count fd ["trains"] (spTc) := by
  have nd := sc_totalcount.nd
  refine F.ok sc_totalcount (fun vs H Q E h => ?_) (fun cdv A outer S H vs Q E hr h => ?_)
  · obtain ⟨a, xs, ts, rfl, _⟩ := h
    rfl
  · obtain ⟨a, xs, ts, rfl, ha, hx, hs, hln, k⟩ := h
    refine ⟨_, (pss_cons (ps_if (PW.pt (pw_and (pt_truth (pv 0) (fun _ => rfl)) (pw_and1 (pt_cmp (pc_isN (pe_ix (r := rIxT K) ix_tup (pe_ix (r := rIxL K) ix_list (pv 0) (pe_un un_neg pe_int) (fun _ _ => rfl)) pe_int (fun _ _ => rfl))))))) (pss_one (ps_ret pe_non)) pss_nil)
       (pss_one (ps_ret (pe_callB (cr_sum rfl) (by rfl) T.b_sum (by decide +kernel) (pa_cons (pe_lc (own := [("train", 1)]) (g := gName 1) (tt := tYes) rfl nd (pi_list (pv 0)) (blkOk_by (own := [("train", 1)]) (N := N_totalcount) (sc := defScope st_total_count) (by decide +kernel)) (fun _ _ _ _ _ => pg_name (i := 1) nd rfl (Or.inl rfl)) (fun _ _ _ _ _ => pts_nil) (fun _ _ _ _ _ => (pe_ix (r := rIxT K) ix_tup (pv 1) pe_int (fun _ _ => rfl)))) pa_nil))))), ?_⟩
    have hxl := hx.len
    have sums : (∀ t ∈ ts, t.2.2 ≠ none) → ∀ Q' : V → Hp → Prop, (∀ H', Same H H' → Q' (.int (sumC ts)) H') → tCB (rSum K) (tCons (tLc (iList K (tVar 0)) (gName 1) tYes (tOp (rIxT K) (tVar 1) (tC (.int 2))) [1]) tNil) [some (.ref a), none] H Q' := fun hf Q' hq => by
      refine ⟨_, rfl, a, rfl, ⟨_, SqL.of ha⟩, fun E1 hE => ?_⟩
      refine lc_list (K := K) (a := a) (xs := xs) (fun j H3 => H3 E1 = some (.lst (((ts.take j).map fun t => t.2.2.getD 0).map V.int)) ∧ Same H H3) ⟨upd_same, Same.upd hE⟩ (fun j H3 _ ⟨_, s⟩ => SqL.of (s _ _ ha)) ?_ ?_
      · rintro j y H3 hy ⟨hD, s3⟩
        obtain ⟨t, ht, b, rfl, hb⟩ := hx.get hy
        have hj : j < ts.length := (List.getElem?_eq_some_iff.mp ht).1
        refine ⟨rfl, tYes_of ⟨_, rfl, b, _, 2, cV t.2.2, rfl, rfl, SqT.of (s3 _ _ hb), rfl, ?_⟩⟩
        refine ⟨_, hD, small1 (by rw [List.length_map, List.length_map, List.length_take]; omega), ?_, fun b o e => ?_⟩
        · rw [upd_same, List.take_add_one, ht, List.map_append, List.map_append]
          cases hk : t.2.2 with
          | none => exact absurd hk (hf t (List.mem_of_getElem? ht))
          | some c =>
            show _ = some (HO.lst (_ ++ [V.int (t.2.2.getD 0)]))
            rw [hk]
            rfl
        · rw [upd_ne (ne_of_none e hE)]
          exact s3 _ _ e
      · rintro H3 ⟨hD, s3⟩
        rw [hxl, List.take_length] at hD
        refine ⟨E1, _, rfl, SqL.of hD, ?_⟩
        have e : ∀ ts : List Trn, (ts.map fun t => t.2.2.getD 0).sum = sumC ts := fun ts => by
          induction ts with
          | nil => rfl
          | cons t ts ih => rw [List.map_cons, List.sum_cons, ih]; rfl
        rw [e]
        exact hq H3 s3
    cases hts : ts with
    | nil =>
      subst hts
      have x0 : xs = [] := by simpa using hxl
      subst x0
      refine ⟨_, rfl, false, .inl ⟨[], SqL.of ha, rfl⟩, iteF (iteF ?_)⟩
      exact sums (by simp) _ k
    | cons t0 r0 =>
      obtain ⟨ini, la, hil⟩ : ∃ ini la, ts = ini ++ [la] := ⟨ts.dropLast, ts.getLast (by rw [hts]; simp), (List.dropLast_concat_getLast (by rw [hts]; simp)).symm⟩
      obtain ⟨xi, xl, hxi, hti, htl⟩ : ∃ xi xl, xs = xi ++ [xl] ∧ Trs H xi ini ∧ TrAt H xl la := by
        have h1 := hx.take (xs.length - 1)
        have h2 := hx.drop (xs.length - 1)
        have e1 : ini.length = xs.length - 1 := by rw [hxl, hil]; simp
        rw [hil, ← e1] at h1 h2
        rw [List.take_left] at h1
        rw [List.drop_left] at h2
        cases h2d : xs.drop ini.length with
        | nil => rw [h2d] at h2; cases h2
        | cons z zs =>
          rw [h2d] at h2
          cases h2 with
          | cons r tl =>
            cases tl
            exact ⟨xs.take ini.length, z, by rw [← h2d, List.take_append_drop], h1, r⟩
      obtain ⟨b, rfl, hb⟩ := htl
      have hne : xs ≠ [] := by rw [hxi]; simp
      rw [← hts] at *
      refine ⟨_, rfl, true, .inl ⟨xs, SqL.of ha, by cases xs with | nil => exact absurd rfl hne | cons _ _ => rfl⟩, iteT ?_⟩
      refine ⟨_, rfl, _, rfl, a, xs, -1, .ref b, rfl, rfl, SqL.of ha, by rw [hxi]; exact atI_last xi _, b, _, 2, cV la.2.2, rfl, rfl, SqT.of hb, rfl, ?_⟩
      have hm : la ∈ ts := by rw [hil]; simp
      cases hk : la.2.2 with
      | none =>
        rw [tot_none hm hk] at k
        exact ⟨_, rfl, iteT (k H (Same.refl H))⟩
      | some c =>
        have hall : ∀ t ∈ ts, t.2.2 ≠ none := fun t ht e => by
          have := srt_last hs ht e
          rw [hil] at this
          have e2 : la = t := by simpa using this
          rw [e2, e] at hk
          cases hk
        rw [tot_sum hall] at k
        exact ⟨_, rfl, iteF (sums hall _ k)⟩
theorem ok_totalcount (T : LX K mg L) : Cal P w K mg base "total_count" 1 L.f_total_count ["trains"] (spTc) := T.d_total_count.cal fun fd F => fn_totalcount T F
end
/-! ### Trains objects -/
theorem q1 : ¬ (("runs" : Str) = "firsts") := by decide +kernel
theorem q2 : ¬ (("runs" : Str) = "ahead") := by decide +kernel
theorem q3 : ¬ (("runs" : Str) = "total") := by decide +kernel
theorem q4 : ¬ (("firsts" : Str) = "ahead") := by decide +kernel
theorem q5 : ¬ (("firsts" : Str) = "total") := by decide +kernel
theorem q6 : ¬ (("ahead" : Str) = "total") := by decide +kernel
def trF (R F A : Addr) (t : V) : List (Str × V) := putF "total" t (putF "ahead" (.ref A) (putF "firsts" (.ref F) (putF "runs" (.ref R) [])))
theorem trF_r (R F A : Addr) (t : V) : (trF R F A t).lookup ("runs" : Str) = some (.ref R) := by
  unfold trF
  rw [lookup_putF, if_neg q3, lookup_putF, if_neg q2, lookup_putF, if_neg q1, lookup_putF, if_pos rfl]
theorem trF_f (R F A : Addr) (t : V) : (trF R F A t).lookup ("firsts" : Str) = some (.ref F) := by
  unfold trF
  rw [lookup_putF, if_neg q5, lookup_putF, if_neg q4, lookup_putF, if_pos rfl]
theorem trF_a (R F A : Addr) (t : V) : (trF R F A t).lookup ("ahead" : Str) = some (.ref A) := by
  unfold trF
  rw [lookup_putF, if_neg q6, lookup_putF, if_pos rfl]
theorem trF_t (R F A : Addr) (t : V) : (trF R F A t).lookup ("total" : Str) = some t := by
  unfold trF
  rw [lookup_putF, if_pos rfl]
theorem trF_no (R F A : Addr) (t : V) {m : Str} (h1 : ¬ m = "total") (h2 : ¬ m = "ahead") (h3 : ¬ m = "firsts") (h4 : ¬ m = "runs") : (trF R F A t).lookup m = none := by
  unfold trF
  rw [lookup_putF, if_neg h1, lookup_putF, if_neg h2, lookup_putF, if_neg h3, lookup_putF, if_neg h4]
  all_goals rfl
/-- a Trains stands at p; its lists are no part of H0 -/
structure TO (C : Addr) (H0 H : Hp) (p : Addr) (ts : List Trn) (n : Nat) : Prop where
  ob : ∃ dx R F A xs, H p = some (.ins C dx (trF R F A (cV (Tot ts)))) ∧ H R = some (.lst xs) ∧ Trs H xs ts ∧ H F = some (.lst ((ts.map fun t => t.1).map V.int)) ∧ H A = some (.lst ((ahd 0 ts).map V.int)) ∧ H0 R = none ∧ H0 F = none ∧ H0 A = none
  np : H0 p = none
  srt : Srt ts
  nf : NF ts
  bt : ∀ t ∈ ts, BT n t
  n5 : n ≤ 5000
  ln : ts.length ≤ 1000
theorem TO.ko {C : Addr} {H0 H H' : Hp} {p : Addr} {ts : List Trn} {n : Nat} (T : TO C H0 H p ts n) (k : KO H0 H H') : TO C H0 H' p ts n := by
  obtain ⟨dx, R, F, A, xs, h1, h2, h3, h4, h5, h6, h7, h8⟩ := T.ob
  exact ⟨⟨dx, R, F, A, xs, k _ _ h1 (.inl T.np), k _ _ h2 (.inl h6), h3.nl k.nl, k _ _ h4 (.inl h7), k _ _ h5 (.inl h8), h6, h7, h8⟩, T.np, T.srt, T.nf, T.bt, T.n5, T.ln⟩
theorem TO.same {C : Addr} {H0 H H' : Hp} {p : Addr} {ts : List Trn} {n : Nat} (T : TO C H0 H p ts n) (s : Same H H') : TO C H0 H' p ts n := T.ko (KO.same s)
theorem TO.base {C : Addr} {H0 H1 H : Hp} {p : Addr} {ts : List Trn} {n : Nat} (T : TO C H1 H p ts n) (s : Same H0 H1) : TO C H0 H p ts n := by
  obtain ⟨dx, R, F, A, xs, h1, h2, h3, h4, h5, h6, h7, h8⟩ := T.ob
  exact ⟨⟨dx, R, F, A, xs, h1, h2, h3, h4, h5, none_of s h6, none_of s h7, none_of s h8⟩, none_of s T.np, T.srt, T.nf, T.bt, T.n5, T.ln⟩
theorem TO.has {C : Addr} {H0 H : Hp} {p : Addr} {ts : List Trn} {n : Nat} (T : TO C H0 H p ts n) : ∃ dx fs, H p = some (.ins C dx fs) := by
  obtain ⟨dx, R, F, A, xs, h1, _⟩ := T.ob
  exact ⟨_, _, h1⟩
def spInit (C : Addr) : Sp := fun vs H Q _ => ∃ p a xs ts n dx, vs = [.ref p, .ref a] ∧ H p = some (.ins C dx []) ∧ H a = some (.lst xs) ∧ Trs H xs ts ∧ Srt ts ∧ (∀ t ∈ ts, BT n t) ∧ n < 5000 ∧ ts.length ≤ 1000 ∧
  ∀ dx R F A zs H', H' p = some (.ins C dx (trF R F A (cV (Tot (nfs ts))))) → H' R = some (.lst zs) → Trs H' zs (nfs ts) → H' F = some (.lst (((nfs ts).map fun t => t.1).map V.int)) → H' A = some (.lst ((ahd 0 (nfs ts)).map V.int)) → H R = none → H F = none → H A = none → Kp p H H' → Q .non H'
def spTl (C : Addr) : Sp := fun vs H Q _ => ∃ p ts n H0, vs = [.ref p] ∧ TO C H0 H p ts n ∧ ∀ l zs H', H l = none → H' = upd H l (.lst zs) → Trs H zs ts → Q (.ref l) H'
def spLen (C : Addr) : Sp := fun vs H Q _ => ∃ p ts n H0, vs = [.ref p] ∧ TO C H0 H p ts n ∧ Q (.int ts.length) H
def spCf (C : Addr) : Sp := fun vs H Q _ => ∃ p ts n H0 x, vs = [.ref p, .int x] ∧ TO C H0 H p ts n ∧ 0 ≤ x ∧ Q (.int (NB ts x)) H
def spGet (C : Addr) : Sp := fun vs H Q _ => ∃ p ts n H0 i y, vs = [.ref p, .int i] ∧ TO C H0 H p ts n ∧ 0 ≤ i ∧ At ts i = some y ∧ i ≤ BB ∧ Q (.int y) H
def spCon (C : Addr) : Sp := fun vs H Q _ => ∃ p ts n H0 x nm, vs = [.ref p, x] ∧ TO C H0 H p ts n ∧ Kd H x nm ∧ Q (.bl (isI x && (decide (0 ≤ toI x) && memT ts (toI x)))) H
section
variable {P : Program} {w : World} {K : PySem.W.Frag} {mg : Str → Option Value} {base : Heap} {L : LA}
abbrev N_checktrains : List Str := ["trains", "latest", "at", "train"]
theorem sc_checktrains : FnScope N_checktrains ["trains"] (defScope st_check_trains) := ⟨rfl, rfl, rfl, by decide +kernel, rfl, by decide +kernel, by decide +kernel⟩
theorem fn_checktrains (T : LX K mg L) {fd : FuncData} (F : Fun K "check_trains" "check_trains" st_check_trains L.f_check_trains fd) : FnOk P w K mg base CX0 4 L.f_check_trains fd ["trains"] (spCk) := by
  obtain ⟨tk_MOST_TRAINS, c_MOST_TRAINS⟩ := T.n_MOST_TRAINS
  have G_lasttime := ok_lasttime (P := P) (w := w) (base := base) T
  have G_istrain := ok_istrain (P := P) (w := w) (base := base) T
  have nd := sc_checktrains.nd
  refine F.ok sc_checktrains (fun vs H Q E h => ?_) (fun cdv A outer S H vs Q E hr h => ?_)
  · obtain ⟨a, xs, ts, n, rfl, _⟩ := h
    rfl
  · obtain ⟨a, xs, ts, n, rfl, ha, hx, hs, hb, hn, hln, k⟩ := h
    refine ⟨_, (pss_cons (ps_if (PW.pt (pw_or (pt_not (pt_val (pe_callB call_isi (by rfl) T.b_isinstance (by decide +kernel) (pa_cons (pv 0) (pa_cons (pe_bltn (by rfl) T.b_list (by decide +kernel : bootBuiltins "list" = some (.type "list")) (v := .ty "list") rfl) pa_nil))))) (pw_or1 (pt_cmpR op_gt (pe_callB call_len_seq (by rfl) T.b_len PySem.boot_len (pa_cons (pv 0) pa_nil)) (pe_gI c_MOST_TRAINS) (nomark _))))) (pss_one (ps_never)) pss_nil)
       (pss_cons (ps_set (i := 1) nd rfl (Or.inl rfl) (pe_un un_neg pe_int))
       (pss_one (ps_for PassesOwn.never rfl (pi_enum (by rfl) T.b_enumerate (pa_cons (pv 0) pa_nil)) (pg_tup rfl (pgs_cons (pg_name (i := 2) nd rfl (Or.inl rfl)) (pgs_cons (pg_name (i := 3) nd rfl (Or.inl rfl)) pgs_nil))) (pss_cons (ps_if (PW.pt (pw_or (pt_cmp (pc_isN (pv 1))) (pw_or (pt_not (pt_val (pe_c G_istrain (hr.mono (by decide)) rfl (pa_cons (pv 3) pa_nil)))) (pw_or1 (pt_cmpR op_le (pe_ix (r := rIxT K) ix_tup (pv 3) pe_int (fun _ _ => rfl)) (pv 1) (nomark _)))))) (pss_one (ps_never)) pss_nil)
       (pss_one (ps_set (i := 1) nd rfl (Or.inl rfl) (pe_c G_lasttime (hr.mono (by decide)) rfl (pa_cons (pv 3) pa_nil))))))))), ?_⟩
    have hxl := hx.len
    refine ⟨_, rfl, _, .ty "list", _, _, _, rfl, .ty "list", (Kd.lst ha).ty, (Kd.lst ha).kit "list" _ (.inr ⟨by decide, by decide, rfl⟩), _, rfl, iteF ?_⟩
    refine ⟨_, rfl, a, _, rfl, .inl (SqL.of ha), _, _, rfl, rfl, _, rfl, ?_⟩
    rw [decide_eq_false (show ¬ ((1000 : Int) < (xs.length : Nat)) by omega)]
    refine iteF ⟨_, rfl, ?_⟩
    refine ⟨_, rfl, a, xs, rfl, SqL.of ha, for_enum (K := K) (a := a) (xs := xs) (fun i σ H2 => ∃ la v2 v3 : Option V, σ = [some (.ref a), la, v2, v3] ∧ Same H H2 ∧ (i = 0 ∧ la = some (.int (-1)) ∨ ∃ j t, i = j + 1 ∧ ts[j]? = some t ∧ la = some (lastV t)))
      ⟨_, none, none, rfl, Same.refl H, .inl ⟨rfl, rfl⟩⟩ (fun i σ H2 _ ⟨_, _, _, _, s2, _⟩ => SqL.of (s2 _ _ ha)) ?_ ?_⟩
    · rintro i x T' σ H2 hxi ⟨la, v2, v3, rfl, s2, hla⟩ hT
      obtain ⟨t, ht, hbr⟩ := hx.get hxi
      have htm := List.mem_of_getElem? ht
      have s3 : Same H (upd H2 T' (.tup [.int (i : Nat), x])) := s2.trans (Same.upd hT)
      have hbr3 := hbr.same s3
      obtain ⟨b, rfl, hb3⟩ := hbr3
      obtain ⟨l0, e0, hl0⟩ : ∃ l0 : Int, la = some (.int l0) ∧ l0 < t.1 := by
        rcases hla with ⟨_, e⟩ | ⟨j, u, rfl, hu, e⟩
        · exact ⟨-1, e, by have := (hs.1 t htm).1; omega⟩
        · have l : Lt u t := by
            have hj := (List.getElem?_eq_some_iff.mp hu)
            have hi := (List.getElem?_eq_some_iff.mp ht)
            obtain ⟨h1, rfl⟩ := hj
            obtain ⟨h2, rfl⟩ := hi
            exact (List.pairwise_iff_getElem.mp hs.2) j (j + 1) h1 h2 (Nat.lt_succ_self j)
          obtain ⟨c, hc, q⟩ := l
          refine ⟨u.1 + (c - 1) * u.2.1, ?_, q⟩
          rw [e]
          unfold lastV
          rw [hc]
      subst e0
      refine ⟨T', _, rfl, SqT.of upd_same, rfl, _, _, rfl, _, _, rfl, rfl, ?_⟩
      refine ⟨_, rfl, _, rfl, iteF ⟨_, rfl, .ref b, t, rfl, ⟨b, rfl, hb3⟩, hs.1 t htm, _, rfl, iteF ⟨_, rfl, b, _, 0, .int t.1, rfl, rfl, SqT.of hb3, rfl, _, rfl, _, _, rfl, rfl, _, rfl, ?_⟩⟩⟩
      rw [decide_eq_false (by omega)]
      refine iteF ⟨_, rfl, .ref b, t, rfl, ⟨b, rfl, hb3⟩, hs.1 t htm, (hb t htm).le (by omega), ?_⟩
      exact ⟨_, _, _, rfl, s3, .inr ⟨i, t, rfl, ht, rfl⟩⟩
    · rintro σ H2 ⟨_, _, _, rfl, s2, _⟩
      exact k H2 s2
theorem ok_checktrains (T : LX K mg L) : Cal P w K mg base "check_trains" 4 L.f_check_trains ["trains"] (spCk) := T.d_check_trains.cal fun fd F => fn_checktrains T F
abbrev N_Trainsinit : List Str := ["self", "trains", "run"]
theorem sc_Trainsinit : FnScope N_Trainsinit ["self", "trains"] (defScope st_Trains_init) := ⟨rfl, rfl, rfl, by decide +kernel, rfl, by decide +kernel, by decide +kernel⟩
theorem fn_Trainsinit (T : LX K mg L) {fd : FuncData} (F : Fun K "__init__" "Trains.__init__" st_Trains_init L.i_Trains fd) : FnOk P w K mg base CX0 5 L.i_Trains fd ["self", "trains"] (spInit L.c_Trains) := by
  have G_checktrains := ok_checktrains (P := P) (w := w) (base := base) T
  have G_normalform := ok_normalform (P := P) (w := w) (base := base) T
  have G_countsahead := ok_countsahead (P := P) (w := w) (base := base) T
  have G_totalcount := ok_totalcount (P := P) (w := w) (base := base) T
  have nd := sc_Trainsinit.nd
  refine F.ok sc_Trainsinit (fun vs H Q E h => ?_) (fun cdv A outer S H vs Q E hr h => ?_)
  · obtain ⟨p, a, xs, ts, n, dx, rfl, _⟩ := h
    rfl
  · obtain ⟨p, a, xs, ts, n, dx, rfl, hp, ha, hx, hs, hb, hn, hln, k⟩ := h
    refine ⟨_, (pss_cons (ps_expr (pe_c G_checktrains (hr.mono (by decide)) rfl (pa_cons (pv 1) pa_nil)))
       (pss_cons (ps_fld (pv 0) (pe_c G_normalform (hr.mono (by decide)) rfl (pa_cons (pv 1) pa_nil)) rfl)
       (pss_cons (ps_fld (pv 0) (pe_lc (own := [("run", 2)]) (g := gName 2) (tt := tYes) rfl nd (pi_list (pe_fld (pv 0) rfl)) (blkOk_by (own := [("run", 2)]) (N := N_Trainsinit) (sc := defScope st_Trains_init) (by decide +kernel)) (fun _ _ _ _ _ => pg_name (i := 2) nd rfl (Or.inl rfl)) (fun _ _ _ _ _ => pts_nil) (fun _ _ _ _ _ => (pe_ix (r := rIxT K) ix_tup (pv 2) pe_int (fun _ _ => rfl)))) rfl)
       (pss_cons (ps_fld (pv 0) (pe_c G_countsahead (hr.mono (by decide)) rfl (pa_cons (pe_fld (pv 0) rfl) pa_nil)) rfl)
       (pss_one (ps_fld (pv 0) (pe_c G_totalcount (hr.mono (by decide)) rfl (pa_cons (pe_fld (pv 0) rfl) pa_nil)) rfl)))))), ?_⟩
    refine ⟨_, rfl, a, xs, ts, n, rfl, ha, hx, hs, hb, hn, hln, fun H1 s1 => ?_⟩
    refine ⟨_, rfl, a, xs, ts, n, rfl, s1 _ _ ha, hx.same s1, hs, hb, hn, by omega, fun R zs H2 hR tz s2 nR => ?_⟩
    have ss := nfs_srt hs
    have sl := nfs_len hs
    have hp2 := s2 _ _ (s1 _ _ hp)
    have nR0 : H R = none := none_of s1 nR
    have pR : p ≠ R := ne_of_none hp nR0
    refine ⟨_, rfl, p, L.c_Trains, dx, [], rfl, hp2, T.cf_Trains.cl, T.nf_Trains_runs, (by show 0 < 1000; decide), ?_⟩
    have hok := ss.1
    have Tz : ∀ {H' : Hp}, Kp p H2 H' → Trs H' zs (nfs ts) := fun kk => L2.Paired.mapP tz fun x t ⟨b, e, h⟩ => ⟨b, e, kk _ _ (ne_of h hp2 (by intro z; cases z)) h⟩
    -- firsts
    have k3 : Kp p H2 (upd H2 p (.ins L.c_Trains dx (putF "runs" (.ref R) []))) := Kp.upd
    generalize hH3 : upd H2 p (.ins L.c_Trains dx (putF "runs" (.ref R) [])) = H3 at k3
    have hp3 : H3 p = some (.ins L.c_Trains dx (putF "runs" (.ref R) [])) := by rw [← hH3, upd_same]
    have hR3 := k3 _ _ pR.symm hR
    refine ⟨_, rfl, p, L.c_Trains, dx, _, _, rfl, hp3, T.cf_Trains.cl, T.nf_Trains_runs, (by rw [lookup_putF, if_pos rfl]), R, rfl, ⟨_, SqL.of hR3⟩, fun E1 hE => ?_⟩
    have tz3 := Tz k3
    have zl := tz3.len
    refine lc_list (K := K) (a := R) (xs := zs) (fun j H4 => H4 E1 = some (.lst ((((nfs ts).take j).map fun t => t.1).map V.int)) ∧ Same H3 H4) ⟨upd_same, Same.upd hE⟩ (fun j H4 _ ⟨_, s⟩ => SqL.of (s _ _ hR3)) ?_ ?_
    · rintro j y H4 hy ⟨hD, s4⟩
      obtain ⟨t, ht, b, rfl, hb⟩ := tz3.get hy
      have hj := (List.getElem?_eq_some_iff.mp ht).1
      refine ⟨rfl, tYes_of ⟨_, rfl, b, _, 0, .int t.1, rfl, rfl, SqT.of (s4 _ _ hb), rfl, ?_⟩⟩
      refine ⟨_, hD, small1 (by rw [List.length_map, List.length_map, List.length_take]; omega), ?_, fun b o e => ?_⟩
      · rw [upd_same, List.take_add_one, ht, List.map_append, List.map_append]
        rfl
      · rw [upd_ne (ne_of_none e hE)]
        exact s4 _ _ e
    rintro H4 ⟨hE4, s4⟩
    rw [zl, List.take_length] at hE4
    have nE0 : H E1 = none := by
      have h1 := none_of s1 (none_of s2 (show H2 E1 = none from by
        cases q : H2 E1 with
        | none => rfl
        | some o =>
          by_cases e : E1 = p
          · subst e; rw [hp3] at hE; cases hE
          · rw [k3 _ _ e q] at hE; cases hE))
      exact h1
    have pE : p ≠ E1 := ne_of_none hp nE0
    have hp4 := s4 _ _ hp3
    refine ⟨_, rfl, p, L.c_Trains, dx, _, rfl, hp4, T.cf_Trains.cl, T.nf_Trains_firsts, Nat.lt_of_le_of_lt (putF_len _ _ [] (Nat.le_refl 0)) (by decide), ?_⟩
    -- ahead
    have k5 : Kp p H2 (upd H4 p (.ins L.c_Trains dx (putF "firsts" (.ref E1) (putF "runs" (.ref R) [])))) := (k3.trans (Kp.of s4)).trans Kp.upd
    have hE5 : (upd H4 p (.ins L.c_Trains dx (putF "firsts" (.ref E1) (putF "runs" (.ref R) [])))) E1 = some (.lst (((nfs ts).map fun t => t.1).map V.int)) := by rw [upd_ne pE.symm]; exact hE4
    generalize hH5 : upd H4 p (.ins L.c_Trains dx (putF "firsts" (.ref E1) (putF "runs" (.ref R) []))) = H5 at k5 hE5
    have hp5 : H5 p = some (.ins L.c_Trains dx (putF "firsts" (.ref E1) (putF "runs" (.ref R) []))) := by rw [← hH5, upd_same]
    refine ⟨_, rfl, p, L.c_Trains, dx, _, _, rfl, hp5, T.cf_Trains.cl, T.nf_Trains_runs, (by rw [lookup_putF, if_neg q1, lookup_putF, if_pos rfl]), R, zs, nfs ts, rfl, k5 _ _ pR.symm hR, Tz k5, hok, by omega, fun A H6 hA s6 nA => ?_⟩
    have hp6 := s6 _ _ hp5
    have nA0 : H A = none := by
      cases q : H A with
      | none => rfl
      | some o =>
        by_cases e : A = p
        · subst e; rw [hp5] at nA; cases nA
        · rw [k5 _ _ e (s2 _ _ (s1 _ _ q))] at nA; cases nA
    have pA : p ≠ A := ne_of_none hp nA0
    refine ⟨_, rfl, p, L.c_Trains, dx, _, rfl, hp6, T.cf_Trains.cl, T.nf_Trains_ahead, Nat.lt_of_le_of_lt (putF_len _ _ _ (putF_len _ _ [] (Nat.le_refl 0))) (by decide), ?_⟩
    -- total
    have k7 : Kp p H5 (upd H6 p (.ins L.c_Trains dx (putF "ahead" (.ref A) (putF "firsts" (.ref E1) (putF "runs" (.ref R) []))))) := (Kp.of s6).trans Kp.upd
    have hA7 : (upd H6 p (.ins L.c_Trains dx (putF "ahead" (.ref A) (putF "firsts" (.ref E1) (putF "runs" (.ref R) []))))) A = some (.lst ((ahd 0 (nfs ts)).map V.int)) := by rw [upd_ne pA.symm]; exact hA
    generalize hH7 : upd H6 p (.ins L.c_Trains dx (putF "ahead" (.ref A) (putF "firsts" (.ref E1) (putF "runs" (.ref R) [])))) = H7 at k7 hA7
    have hp7 : H7 p = some (.ins L.c_Trains dx (putF "ahead" (.ref A) (putF "firsts" (.ref E1) (putF "runs" (.ref R) [])))) := by rw [← hH7, upd_same]
    have k27 := k5.trans k7
    refine ⟨_, rfl, p, L.c_Trains, dx, _, _, rfl, hp7, T.cf_Trains.cl, T.nf_Trains_runs, (by rw [lookup_putF, if_neg q2, lookup_putF, if_neg q1, lookup_putF, if_pos rfl]), R, zs, nfs ts, rfl, k27 _ _ pR.symm hR, Tz k27, ss, by omega, fun H8 s8 => ?_⟩
    refine ⟨_, rfl, p, L.c_Trains, dx, _, rfl, s8 _ _ hp7, T.cf_Trains.cl, T.nf_Trains_total, Nat.lt_of_le_of_lt (putF_len _ _ _ (putF_len _ _ _ (putF_len _ _ [] (Nat.le_refl 0)))) (by decide), ?_⟩
    have k9 : Kp p H2 (upd H8 p (.ins L.c_Trains dx (trF R E1 A (cV (Tot (nfs ts)))))) := (k27.trans (Kp.of s8)).trans Kp.upd
    refine k dx R E1 A zs _ upd_same (k9 _ _ pR.symm hR) (Tz k9) ?_ ?_ nR0 nE0 nA0 ((Kp.of (s1.trans s2)).trans k9)
    · rw [upd_ne pE.symm]
      exact s8 _ _ (k7 _ _ pE.symm hE5)
    · rw [upd_ne pA.symm]
      exact s8 _ _ hA7
end
/-! ### making and asking Trains -/
theorem trains_made {C : Addr} {H : Hp} {Q : Addr → Hp → Prop} {a : Addr} {xs : List V} {ts : List Trn} {n : Nat} (ha : H a = some (.lst xs)) (hx : Trs H xs ts) (hs : Srt ts) (hb : ∀ t ∈ ts, BT n t) (hn : n < 5000) (hl : ts.length ≤ 1000)
    (k : ∀ p H', TO C H H' p (nfs ts) (n + 1) → Same H H' → Q p H') :
    ∀ x dx, H x = none → H dx = none → dx ≠ x → spInit C [.ref x, .ref a] (upd (upd H dx (.own x)) x (.ins C dx [])) (fun v H3 => v = .non ∧ Q x H3) E0 := by
  intro x dx hx0 hd hne
  have s0 : Same H (upd (upd H dx (.own x)) x (.ins C dx [])) := fun b o e => by
    rw [upd_ne (ne_of_none e hx0), upd_ne (ne_of_none e hd)]
    exact e
  refine ⟨x, a, xs, ts, n, dx, rfl, upd_same, s0 _ _ ha, hx.same s0, hs, hb, hn, hl, fun dx R F A zs H' h1 h2 h3 h4 h5 n1 n2 n3 kp => ⟨rfl, k x H' ?_ fun b o e => kp b o (ne_of_none e hx0) (s0 b o e)⟩⟩
  exact ⟨⟨dx, R, F, A, zs, h1, h2, h3, h4, h5, none_of s0 n1, none_of s0 n2, none_of s0 n3⟩, hx0, nfs_srt hs, nfs_nf hs, nfs_bt hs hb, by omega, Nat.le_trans (nfs_len hs) hl⟩
/-! trains as data -/
def cD : Option Int → PyData
  | none => .none
  | some c => .int c
def trnD (t : Trn) : PyData := .tuple [.int t.1, .int t.2.1, cD t.2.2]
theorem cD_dp (K : PySem.W.Frag) (H : Hp) (k : Option Int) : Dp K H (cV k) (cD k) := by
  cases k with
  | none => exact .non
  | some c => exact .int c
theorem TrAt.dp {K : PySem.W.Frag} {H : Hp} {x : V} {t : Trn} (h : TrAt H x t) : Dp K H x (trnD t) := by
  obtain ⟨a, e, h⟩ := h
  subst e
  exact .tup (SqT.of h) (.cons (.int _) (.cons (.int _) (.cons (cD_dp _ _ _) .nil)))
theorem Trs.dp {K : PySem.W.Frag} {H : Hp} : ∀ {xs : List V} {ts : List Trn}, Trs H xs ts → DpAll K H xs (ts.map trnD)
  | _, _, .nil => .nil
  | _, _, .cons r t => .cons r.dp (Trs.dp t)
theorem cD_eq (a b : Option Int) : PyData.eqv (cD a) (cD b) = decide (a = b) := by
  cases a <;> cases b <;> simp only [cD, PyData.eqv] <;> exact Bool.eq_iff_iff.mpr (by simp)
theorem trnD_eq (t u : Trn) : PyData.eqv (trnD t) (trnD u) = decide (t = u) := by
  obtain ⟨a, b, c⟩ := t
  obtain ⟨a', b', c'⟩ := u
  simp only [trnD, PyData.eqv, PyData.eqvAll, Bool.and_true, cD_eq]
  rw [Bool.eq_iff_iff]
  simp [Prod.ext_iff]
theorem trnDs_eq : ∀ ts us : List Trn, PyData.eqvAll (ts.map trnD) (us.map trnD) = decide (ts = us)
  | [], [] => by simp [PyData.eqvAll]
  | [], _ :: _ => by simp [PyData.eqvAll]
  | _ :: _, [] => by simp [PyData.eqvAll]
  | t :: ts, u :: us => by
    rw [List.map_cons, List.map_cons, PyData.eqvAll, trnD_eq, trnDs_eq ts us, Bool.eq_iff_iff]
    simp
theorem canC (k : Option Int) : PyData.canLay0 (cD k) = true := by cases k <;> simp [cD, PyData.canLay0]
theorem depC (k : Option Int) : (cD k).depth ≤ 1 := by cases k <;> simp [cD, PyData.depth]
theorem canTr (t : Trn) : PyData.canLay0 (trnD t) = true := by simp [trnD, PyData.canLay0, PyData.canLayAll0, canC]
theorem depTr (t : Trn) : (trnD t).depth ≤ 10 := by
  have := depC t.2.2
  simp [trnD, PyData.depth, PyData.depthAll]
  omega
theorem canTrs : ∀ ts : List Trn, PyData.canLayAll0 (ts.map trnD) = true
  | [] => by simp [PyData.canLayAll0]
  | t :: ts => by rw [List.map_cons, PyData.canLayAll0, canTrs ts, canTr]; rfl
theorem depTrs : ∀ ts : List Trn, PyData.depthAll (ts.map trnD) ≤ 10
  | [] => by simp [PyData.depthAll]
  | t :: ts => by
    have := depTrs ts
    have := depTr t
    rw [List.map_cons, PyData.depthAll]
    omega
theorem shTr (t : Trn) : SeqAt.shaped (trnD t) = true := by
  refine Bool.and_eq_true_iff.mpr ⟨canTr t, decide_eq_true ?_⟩
  have := depTr t
  omega
theorem shTrs (ts : List Trn) : SeqAt.shaped (.list (ts.map trnD)) = true := by
  refine Bool.and_eq_true_iff.mpr ⟨?_, decide_eq_true ?_⟩
  · rw [PyData.canLay0]
    exact canTrs ts
  · have := depTrs ts
    rw [PyData.depth]
    omega
theorem eqTrs (ts us : List Trn) : PyData.eqv (.list (ts.map trnD)) (.list (us.map trnD)) = decide (ts = us) := by
  rw [PyData.eqv]
  exact trnDs_eq ts us
/-- what == is asked of -/
inductive EqT (C : Addr) (H : Hp) (ts : List Trn) : V → Bool → Prop where
  | row {H1 : Hp} {q : Addr} {us : List Trn} {m : Nat} (R : TO C H1 H q us m) : EqT C H ts (.ref q) (decide (ts = us))
  | non : EqT C H ts .non false
  | int (i : Int) : EqT C H ts (.int i) false
  | str (x : Str) : EqT C H ts (.str x) false
  | lst {a : Addr} {xs : List V} (e : H a = some (.lst xs)) : EqT C H ts (.ref a) false
  | tup {a : Addr} {xs : List V} (e : H a = some (.tup xs)) : EqT C H ts (.ref a) false
theorem EqT.tyN {C : Addr} {H : Hp} {ts : List Trn} {v : V} {b : Bool} (h : EqT C H ts v b) : ∃ t, TyN H C v t := by
  cases h with
  | row R => obtain ⟨dx, fs, e⟩ := R.has; exact ⟨_, .ins e⟩
  | non => exact ⟨_, .non⟩
  | int i => exact ⟨_, .int i⟩
  | str x => exact ⟨_, .str x⟩
  | lst e => exact ⟨_, .lst e⟩
  | tup e => exact ⟨_, .tup e⟩
def spEqT (C : Addr) : Sp := fun vs H Q _ => ∃ p ts n H0 v b, vs = [.ref p, v] ∧ TO C H0 H p ts n ∧ EqT C H ts v b ∧ Q (.bl b) H
/-! ### times asked for -/
/-! ### time_count -/
def spTc' (C : Addr) : Sp := fun vs H Q _ => ∃ p ts n H0, vs = [.ref p] ∧ TO C H0 H p ts n ∧ Q (cV (Tot ts)) H
section
variable {P : Program} {w : World} {K : PySem.W.Frag} {mg : Str → Option Value} {base : Heap} {L : LA}
abbrev N_Trainseq : List Str := ["self", "other"]
theorem sc_Trainseq : FnScope N_Trainseq ["self", "other"] (defScope st_Trains_eq) := ⟨rfl, rfl, rfl, by decide +kernel, rfl, by decide +kernel, by decide +kernel⟩
theorem fn_Trainseq (T : LX K mg L) {fd : FuncData} (F : Fun K "__eq__" "Trains.__eq__" st_Trains_eq L.m_Trains_eq fd) : FnOk P w K mg base CX0 1 L.m_Trains_eq fd ["self", "other"] (spEqT L.c_Trains) := by
  have M_Trains := T.gc_Trains
  have nd := sc_Trainseq.nd
  refine F.ok sc_Trainseq (fun vs H Q E h => ?_) (fun cdv A outer S H vs Q E hr h => ?_)
  · obtain ⟨p, ts, n, H0, v, b, rfl, _⟩ := h
    rfl
  · obtain ⟨p, ts, n, H0, v, b, rfl, R, h, k⟩ := h
    refine ⟨_, (pss_one (ps_ret (pe_and (pe_callB call_isi (by rfl) T.b_isinstance (by decide +kernel) (pa_cons (pv 1) (pa_cons (pe_glob rfl M_Trains rr) pa_nil))) (pe_one (pe_cmpR (op_eqD hr.units) (pe_fld (pv 0) rfl) (pe_fld (pv 1) rfl) (nomark _)))))), ?_⟩
    obtain ⟨dx, RR, FF, AA, xs, hp, h2, h3, h4, h5, _⟩ := R.ob
    cases h with
    | non => exact ⟨_, rfl, _, .ref L.c_Trains, _, _, _, rfl, .own L.c_Trains, Kd.non.ty, T.cf_Trains.kitT (H := H) .non, _, rfl, iteF k⟩
    | int i => exact ⟨_, rfl, _, .ref L.c_Trains, _, _, _, rfl, .own L.c_Trains, (Kd.int i).ty, T.cf_Trains.kitT (H := H) (.int i), _, rfl, iteF k⟩
    | str i => exact ⟨_, rfl, _, .ref L.c_Trains, _, _, _, rfl, .own L.c_Trains, (Kd.str i).ty, T.cf_Trains.kitT (H := H) (.str i), _, rfl, iteF k⟩
    | lst e => exact ⟨_, rfl, _, .ref L.c_Trains, _, _, _, rfl, .own L.c_Trains, (Kd.lst e).ty, T.cf_Trains.kitT (.lst e), _, rfl, iteF k⟩
    | tup e => exact ⟨_, rfl, _, .ref L.c_Trains, _, _, _, rfl, .own L.c_Trains, (Kd.tup e).ty, T.cf_Trains.kitT (.tup e), _, rfl, iteF k⟩
    | @row H1 q us m R' =>
      obtain ⟨dy, RR', FF', AA', ys, hq, g2, g3, g4, g5, _⟩ := R'.ob
      refine ⟨_, rfl, _, .ref L.c_Trains, _, _, _, rfl, .own L.c_Trains, T.cf_Trains.tyR hq, if_pos (beq_self_eq_true _), _, rfl, iteT ?_⟩
      refine ⟨_, rfl, p, L.c_Trains, dx, _, _, rfl, hp, T.cf_Trains.cl, T.nf_Trains_runs, trF_r _ _ _ _, _, rfl, q, L.c_Trains, dy, _, _, rfl, hq, T.cf_Trains.cl, T.nf_Trains_runs, trF_r _ _ _ _, .list (ts.map trnD), .list (us.map trnD), .lst (SqL.of h2) h3.dp, .lst (SqL.of g2) g3.dp, shTrs _, shTrs _, ?_⟩
      rw [eqTrs]
      exact k
theorem ok_Trainseq (T : LX K mg L) : Met P w K mg base L.c_Trains "__eq__" 1 L.m_Trains_eq ["self", "other"] (spEqT L.c_Trains) := T.mm_Trains_eq.met fun fd F => fn_Trainseq T F
abbrev N_Trainsgetitem : List Str := ["self", "at", "place"]
theorem sc_Trainsgetitem : FnScope N_Trainsgetitem ["self", "at"] (defScope st_Trains_getitem) := ⟨rfl, rfl, rfl, by decide +kernel, rfl, by decide +kernel, by decide +kernel⟩
theorem fn_Trainsgetitem (T : LX K mg L) {fd : FuncData} (F : Fun K "__getitem__" "Trains.__getitem__" st_Trains_getitem L.m_Trains_getitem fd) : FnOk P w K mg base CX0 3 L.m_Trains_getitem fd ["self", "at"] (spGet L.c_Trains) := by
  have G_countbelow := ok_countbelow (P := P) (w := w) (base := base) T
  have G_isatleast := ok_isatleast (P := P) (w := w) (base := base) T
  have nd := sc_Trainsgetitem.nd
  refine F.ok sc_Trainsgetitem (fun vs H Q E h => ?_) (fun cdv A outer S H vs Q E hr h => ?_)
  · obtain ⟨p, ts, n, H0, i, y, rfl, _⟩ := h
    rfl
  · obtain ⟨p, ts, n, H0, i, y, rfl, R, i0, hy, iB, k⟩ := h
    refine ⟨_, (pss_cons (ps_if (PW.pt (pw_or (pt_not (pt_val (pe_c G_isatleast (hr.mono (by decide)) rfl (pa_cons (pv 1) (pa_cons pe_int pa_nil))))) (pw_or1 (PW.pt (pw_and (pt_cmp (pc_notN (pe_fld (pv 0) rfl))) (pw_and1 (pt_cmpR op_ge (pv 1) (pe_fld (pv 0) rfl) (nomark _)))))))) (pss_one (ps_never)) pss_nil)
       (pss_cons (ps_set (i := 2) nd rfl (Or.inl rfl) (pe_op op_sub (pe_c G_countbelow (hr.mono (by decide)) rfl (pa_cons (pe_fld (pv 0) rfl) (pa_cons (pe_op op_add (pv 1) pe_int) pa_nil))) pe_int))
       (pss_one (ps_ret (pe_op op_add (pe_ix (r := rIxT K) ix_tup (pe_ix (r := rIxL K) ix_list (pe_fld (pv 0) rfl) (pv 2) (fun _ _ => rfl)) pe_int (fun _ _ => rfl)) (pe_op op_mulW (pe_op op_sub (pv 1) (pe_ix (r := rIxL K) ix_list (pe_fld (pv 0) rfl) (pv 2) (fun _ _ => rfl))) (pe_ix (r := rIxT K) ix_tup (pe_ix (r := rIxL K) ix_list (pe_fld (pv 0) rfl) (pv 2) (fun _ _ => rfl)) pe_int (fun _ _ => rfl)))))))), ?_⟩
    obtain ⟨dx, RR, FF, AA, xs, hp, h2, h3, h4, h5, _⟩ := R.ob
    have hxl := h3.len
    have hln := R.ln
    refine ⟨_, rfl, _, _, _, rfl, .int _, _, rfl, ?_⟩
    show if (!(decide ((0 : Int) ≤ i))) = true then _ else _
    rw [decide_eq_true i0]
    refine iteF ?_
    have ok := R.srt.1
    have rest : ∀ m : Nat, m ≤ (ahd 0 ts).length → (∀ j v, (ahd 0 ts)[j]? = some v → (j < m ↔ v < i + 1)) → ∃ m' t b av, m = m' + 1 ∧ xs[m']? = some (.ref b) ∧ H b = some (.tup (TrV t)) ∧ (ahd 0 ts)[m']? = some av ∧ t ∈ ts ∧ av ≤ i ∧ 0 ≤ av ∧ y = t.1 + (i - av) * t.2.1 := fun m hm hc => by
      have hne : ts ≠ [] := fun e => by rw [e] at hy; cases hy
      have h0 : 0 < m := by
        cases ts with
        | nil => exact absurd rfl hne
        | cons t r => exact (hc 0 0 rfl).mpr (by omega)
      obtain ⟨m', rfl⟩ : ∃ m', m = m' + 1 := ⟨m - 1, by omega⟩
      have hj : m' < ts.length := by rw [ahd_len] at hm; omega
      have ht := List.getElem?_eq_getElem hj
      generalize ts[m'] = t at ht
      obtain ⟨v, hv, b, rfl, hb⟩ := h3.get2 ht
      have ha : m' < (ahd 0 ts).length := by omega
      have hA := List.getElem?_eq_getElem ha
      generalize (ahd 0 ts)[m'] = av at hA
      have le : av < i + 1 := (hc m' av hA).mp (Nat.lt_succ_self m')
      have q := at_at R.srt (n := 0) ht hA (i := i) (by omega) (fun j b hj hb => by
        have := hc j b hb
        omega) hy
      rw [Int.zero_add] at q
      exact ⟨m', t, b, av, rfl, hv, hb, hA, List.mem_of_getElem? ht, by omega, ahd_ge ok hA, q⟩
    refine ⟨_, rfl, p, L.c_Trains, dx, _, _, rfl, hp, T.cf_Trains.cl, T.nf_Trains_total, trF_t _ _ _ _, ?_⟩
    cases hT : Tot ts with
    | none =>
      refine ⟨_, rfl, iteF (iteF ?_)⟩
      refine ⟨_, rfl, p, L.c_Trains, dx, _, _, rfl, hp, T.cf_Trains.cl, T.nf_Trains_ahead, trF_a _ _ _ _, _, rfl, _, _, rfl, rfl, AA, _, i + 1, rfl, h5, ahd_lt R.srt 0, by rw [ahd_len]; omega, fun m hm hc => ⟨_, _, rfl, rfl, ?_⟩⟩
      obtain ⟨m', t, b, av, rfl, hv, hb, hA, htm, le, a0, q⟩ := rest m hm hc
      have e : ((m' + 1 : Nat) : Int) - 1 = (m' : Nat) := by omega
      have ix1 : atI xs (((m' + 1 : Nat) : Int) - 1) = some (.ref b) := by rw [e]; exact atI_nat hv
      have ix2 : atI ((ahd 0 ts).map V.int) (((m' + 1 : Nat) : Int) - 1) = some (.int av) := by rw [e]; exact atI_nat (by rw [List.getElem?_map, hA]; rfl)
      have p1 := (ok t htm).2.1
      have p2 : t.2.1 ≤ BB := ((R.bt t htm).le R.n5).p
      have b0 := BB0
      rw [q] at k
      exact ⟨_, rfl, p, L.c_Trains, dx, _, _, rfl, hp, T.cf_Trains.cl, T.nf_Trains_runs, trF_r _ _ _ _, _, rfl, RR, xs, _, .ref b, rfl, rfl, SqL.of h2, ix1, b, _, 0, .int t.1, rfl, rfl, SqT.of hb, rfl, _, rfl, _, rfl, p, L.c_Trains, dx, _, _, rfl, hp, T.cf_Trains.cl, T.nf_Trains_ahead, trF_a _ _ _ _, _, rfl, AA, _, _, .int av, rfl, rfl, SqL.of h5, ix2, _, _, rfl, rfl, _, rfl, p, L.c_Trains, dx, _, _, rfl, hp, T.cf_Trains.cl, T.nf_Trains_runs, trF_r _ _ _ _, _, rfl, RR, xs, _, .ref b, rfl, rfl, SqL.of h2, ix1, b, _, 1, .int t.2.1, rfl, rfl, SqT.of hb, rfl, _, _, rfl, rfl, mulBB (by omega) (by omega) (by omega) (by omega), _, _, rfl, rfl, k⟩
    | some tn =>
      refine ⟨_, rfl, iteT ⟨_, rfl, _, rfl, p, L.c_Trains, dx, _, _, rfl, hp, T.cf_Trains.cl, T.nf_Trains_total, trF_t _ _ _ _, ?_⟩⟩
      rw [hT]
      have lt : ¬ tn ≤ i := fun z => by
        have := (At_none ok i0).mpr ⟨tn, hT, z⟩
        rw [hy] at this
        cases this
      refine ⟨_, _, rfl, rfl, _, rfl, ?_⟩
      rw [decide_eq_false lt]
      refine iteF ?_
      refine ⟨_, rfl, p, L.c_Trains, dx, _, _, rfl, hp, T.cf_Trains.cl, T.nf_Trains_ahead, trF_a _ _ _ _, _, rfl, _, _, rfl, rfl, AA, _, i + 1, rfl, h5, ahd_lt R.srt 0, by rw [ahd_len]; omega, fun m hm hc => ⟨_, _, rfl, rfl, ?_⟩⟩
      obtain ⟨m', t, b, av, rfl, hv, hb, hA, htm, le, a0, q⟩ := rest m hm hc
      have e : ((m' + 1 : Nat) : Int) - 1 = (m' : Nat) := by omega
      have ix1 : atI xs (((m' + 1 : Nat) : Int) - 1) = some (.ref b) := by rw [e]; exact atI_nat hv
      have ix2 : atI ((ahd 0 ts).map V.int) (((m' + 1 : Nat) : Int) - 1) = some (.int av) := by rw [e]; exact atI_nat (by rw [List.getElem?_map, hA]; rfl)
      have p1 := (ok t htm).2.1
      have p2 : t.2.1 ≤ BB := ((R.bt t htm).le R.n5).p
      have b0 := BB0
      rw [q] at k
      exact ⟨_, rfl, p, L.c_Trains, dx, _, _, rfl, hp, T.cf_Trains.cl, T.nf_Trains_runs, trF_r _ _ _ _, _, rfl, RR, xs, _, .ref b, rfl, rfl, SqL.of h2, ix1, b, _, 0, .int t.1, rfl, rfl, SqT.of hb, rfl, _, rfl, _, rfl, p, L.c_Trains, dx, _, _, rfl, hp, T.cf_Trains.cl, T.nf_Trains_ahead, trF_a _ _ _ _, _, rfl, AA, _, _, .int av, rfl, rfl, SqL.of h5, ix2, _, _, rfl, rfl, _, rfl, p, L.c_Trains, dx, _, _, rfl, hp, T.cf_Trains.cl, T.nf_Trains_runs, trF_r _ _ _ _, _, rfl, RR, xs, _, .ref b, rfl, rfl, SqL.of h2, ix1, b, _, 1, .int t.2.1, rfl, rfl, SqT.of hb, rfl, _, _, rfl, rfl, mulBB (by omega) (by omega) (by omega) (by omega), _, _, rfl, rfl, k⟩
theorem ok_Trainsgetitem (T : LX K mg L) : Met P w K mg base L.c_Trains "__getitem__" 3 L.m_Trains_getitem ["self", "at"] (spGet L.c_Trains) := T.mm_Trains_getitem.met fun fd F => fn_Trainsgetitem T F
end
/-! ### Trains(..) made -/
section
variable {X : Cx} {L : LA}
/-- Trains(..) -/
theorem pe_mkTrains (T : LX X.K X.mg L) (hr : Room 6 X.A) {p pos : Pos} {e : Expr} {es : List Expr} {t : TA} (hg : Gl X "Trains") (ha : PA X (e :: es) t)
    (he : starEach (e :: es) X.env = (false, eval e X.env) :: starEach es X.env := by rfl) (hpl : (backTo pos (starEach es X.env)).any (·.1) = false := by rfl) :
    PE X (.Call (.Name "Trains" p) (e :: es) [] pos) (tMake L.c_Trains (spInit L.c_Trains) [] E0 t) := by
  obtain ⟨fd, F, b⟩ := T.in_Trains
  exact pe_make T.mk_Trains (fn_Trainsinit T F) hr hg T.gc_Trains b .nil pass0 ha (by decide) he hpl
end
/-! ### the law's own draws -/
/-- a source of draws at a: at most n were drawn -/
def Src (H : Hp) (a : Addr) (n : Nat) : Prop := ∃ x y z : Int, H a = some (.lst [.int x, .int y, .int z]) ∧ 0 ≤ x ∧ 0 ≤ y ∧ y < 2147483647 ∧ 0 ≤ z ∧ z ≤ n
theorem Src.mono {H : Hp} {a : Addr} {n m : Nat} (h : Src H a n) (l : n ≤ m) : Src H a m := by
  obtain ⟨x, y, z, e, h1, h2, h3, h4, h5⟩ := h
  exact ⟨x, y, z, e, h1, h2, h3, h4, by omega⟩
theorem Src.same {H H' : Hp} {a : Addr} {n : Nat} (h : Src H a n) (s : Same H H') : Src H' a n := by
  obtain ⟨x, y, z, e, r⟩ := h
  exact ⟨x, y, z, s _ _ e, r⟩
theorem Src.has {H : Hp} {a : Addr} {n : Nat} (h : Src H a n) : ∃ xs, H a = some (.lst xs) := by
  obtain ⟨x, y, z, e, r⟩ := h
  exact ⟨_, e⟩
def spSrcOf : Sp := fun vs H Q _ => ∃ c, vs = [.int c] ∧ ∀ a H', H a = none → Same H H' → Src H' a 0 → Q (.ref a) H'
def spNext : Sp := fun vs H Q _ => ∃ (a : Addr) (m : Int) (n : Nat), vs = [.ref a, .int m] ∧ 0 < m ∧ m.natAbs < 2 ^ 1100 ∧ Src H a n ∧ n ≤ 900000 ∧ ∀ (r : Int) H', 0 ≤ r → r < m → Src H' a (n + 1101) → Kp a H H' → Q (.int r) H'
def spOne : Sp := fun vs H Q _ => ∃ (a l : Addr) (xs : List V) (n : Nat), vs = [.ref a, .ref l] ∧ a ≠ l ∧ H l = some (.lst xs) ∧ 0 < xs.length ∧ xs.length ≤ 100000 ∧ Src H a n ∧ n ≤ 900000 ∧ ∀ v H', v ∈ xs → Src H' a (n + 1101) → Kp a H H' → Q v H'
def spCell (K : PySem.W.Frag) : Sp := fun vs H Q _ => ∃ (a : Addr) (ns : List Int) (k : Int), vs = [.ref a, .int k] ∧ SqL K H a (ns.map V.int) ∧ 0 ≤ k ∧ ∀ z, Q (.int z) H
def primes : List V := [.int 2147483647, .int 2147483629, .int 2147483587, .int 2147483579, .int 2147483563, .int 2147483549, .int 2147483543]
theorem prime_at (i : Int) (h0 : 0 ≤ i) (h7 : i < 7) : ∃ p : Int, atI primes i = some (.int p) ∧ 0 < p ∧ p ≤ 2147483647 := by
  have : i = 0 ∨ i = 1 ∨ i = 2 ∨ i = 3 ∨ i = 4 ∨ i = 5 ∨ i = 6 := by omega
  rcases this with rfl | rfl | rfl | rfl | rfl | rfl | rfl <;> exact ⟨_, rfl, by decide, by decide⟩
theorem atI_of {α : Type} {xs : List α} {i : Int} (h0 : 0 ≤ i) (h1 : i < xs.length) : ∃ v, atI xs i = some v ∧ v ∈ xs := by
  have hj : i.toNat < xs.length := by omega
  refine ⟨xs[i.toNat], ?_, List.getElem_mem _⟩
  have e : ((i.toNat : Nat) : Int) = i := by omega
  have := atI_nat (xs := xs) (j := i.toNat) (v := xs[i.toNat]) (List.getElem?_eq_getElem hj)
  rwa [e] at this
section
variable {P : Program} {w : World} {K : PySem.W.Frag} {mg : Str → Option Value} {base : Heap} {L : LA}
theorem sc_srcof : FnScope ["_law_cell"] ["_law_cell"] (defScope st__law_source_of) := ⟨rfl, rfl, rfl, by decide +kernel, rfl, by decide +kernel, by decide +kernel⟩
theorem ok_wsourceof (T : LX K mg L) : Cal P w K mg base "_law_source_of" 1 L.f__law_source_of ["_law_cell"] spSrcOf := T.d__law_source_of.cal fun fd F => by
  refine F.ok sc_srcof (fun vs H Q E h => ?_) (fun cdv A outer s H vs Q E hr h => ?_)
  · obtain ⟨c, rfl, _⟩ := h
    rfl
  · obtain ⟨c, rfl, k⟩ := h
    refine ⟨_, pss_one (ps_ret (pe_lst (pa_cons (pe_op op_mul (pv 0) (pe_callTy call_int1 (by rfl) T.b_int (by decide +kernel) (pa_cons (pe_cmpR op_ge (pv 0) (pe_op op_pow pe_int pe_int) (nomark _)) pa_nil)))
      (pa_cons (pe_op op_mod (pe_callTy call_int1 (by rfl) T.b_int (by decide +kernel) (pa_cons (pv 0) pa_nil)) pe_int) (pa_cons pe_int pa_nil))))), ?_⟩
    refine ⟨_, rfl, _, rfl, _, _, rfl, rfl, ⟨by decide, by decide, by decide⟩, _, _, rfl, rfl, .inr ⟨_, rfl, _, _, rfl, rfl, ?_, ?_⟩⟩
    · refine .inr ?_
      split <;> decide
    · refine ⟨_, rfl, .inl ⟨_, rfl, _, _, rfl, rfl, (by show (0 : Int) < 2147483647; decide), ?_⟩⟩
      refine ⟨(by show 3 ≤ sizeLine; decide), fun l hl => ?_⟩
      refine k l _ hl (Same.upd hl) ⟨_, _, _, upd_same, ?_, Int.emod_nonneg _ (by decide), Int.emod_lt_of_pos _ (by decide), Int.le_refl _, Int.le_refl _⟩
      by_cases hc : (10 : Int) ^ (18 : Int).toNat ≤ c
      · rw [decide_eq_true hc, if_pos rfl, Int.mul_one]
        exact Int.le_trans (by decide) hc
      · rw [decide_eq_false hc, if_neg Bool.false_ne_true, Int.mul_zero]
        exact Int.le_refl _
theorem sc_draw : FnScope ["_law_source", "_law_bound", "_law_result", "_law_reach", "_law_prime", "_law_mixed"] ["_law_source", "_law_bound"] (defScope st__law_draw) := ⟨rfl, rfl, rfl, by decide +kernel, rfl, by decide +kernel, by decide +kernel⟩
theorem ok_wdraw (T : LX K mg L) : Cal P w K mg base "_law_draw" 1 L.f__law_draw ["_law_source", "_law_bound"] spNext := T.d__law_draw.cal fun fd F => by
  refine F.ok sc_draw (fun vs H Q E h => ?_) (fun cdv A outer s H vs Q E hr h => ?_)
  · obtain ⟨a, m, n, rfl, _⟩ := h
    rfl
  · obtain ⟨a, m, n, rfl, m0, m1, ⟨x, y, z, ha, x0, y0, y1, z0, z1⟩, hn, k⟩ := h
    have nd := sc_draw.nd
    refine ⟨_, pss_cons (ps_if (pt_cmpR op_gt (pe_ix ix_list (pv 0) pe_int (fun _ _ => rfl)) pe_int (nomark _))
        (pss_cons (ps_set (i := 2) nd rfl (Or.inl rfl) (pe_op op_mod (pe_callTy call_int1 (by rfl) T.b_int (by decide +kernel) (pa_cons (pe_ix ix_list (pv 0) pe_int (fun _ _ => rfl)) pa_nil)) (pv 1)))
        (pss_cons (ps_asg (pe_op op_fdivW (pe_ix ix_list (pv 0) pe_int (fun _ _ => rfl)) (pv 1)) (pg_sub (pv 0) pe_int set_list))
        (pss_one (ps_ret (pv 2))))) pss_nil)
      (pss_cons (ps_asg (pe_tup (pa_cons pe_int (pa_cons pe_int pa_nil))) (pg_tup rfl (pgs_cons (pg_name (i := 2) nd rfl (Or.inl rfl)) (pgs_cons (pg_name (i := 3) nd rfl (Or.inl rfl)) pgs_nil))))
      (pss_cons (ps_while PassesOwn.never (pt_cmpR op_lt (pv 3) (pv 1) (nomark _))
        (pss_cons (ps_asg (pe_op op_add (pe_ix ix_list (pv 0) pe_int (fun _ _ => rfl)) pe_int) (pg_sub (pv 0) pe_int set_list))
        (pss_cons (ps_set (i := 4) nd rfl (Or.inl rfl) (pe_ix ix_list (pe_lst (pa_cons pe_int (pa_cons pe_int (pa_cons pe_int (pa_cons pe_int (pa_cons pe_int (pa_cons pe_int (pa_cons pe_int pa_nil))))))))
            (pe_op op_mod (pe_callTy call_int1 (by rfl) T.b_int (by decide +kernel) (pa_cons (pe_ix ix_list (pv 0) pe_int (fun _ _ => rfl)) pa_nil)) pe_int) (fun _ _ => rfl)))
        (pss_cons (ps_set (i := 5) nd rfl (Or.inl rfl) (pe_op op_mod (pe_callTy call_int1 (by rfl) T.b_int (by decide +kernel) (pa_cons
            (pe_op op_pow (pe_op op_add (pe_op op_add (pe_ix ix_list (pv 0) pe_int (fun _ _ => rfl)) (pe_op op_mul pe_int (pe_ix ix_list (pv 0) pe_int (fun _ _ => rfl)))) pe_int) pe_int) pa_nil)) (pv 4)))
        (pss_cons (ps_set (i := 5) nd rfl (Or.inl rfl) (pe_op op_mod (pe_callTy call_int1 (by rfl) T.b_int (by decide +kernel) (pa_cons
            (pe_op op_mul (pe_op op_add (pv 5) (pe_ix ix_list (pv 0) pe_int (fun _ _ => rfl))) (pe_op op_add (pe_op op_fdiv (pv 5) pe_int) pe_int)) pa_nil)) (pv 4)))
        (pss_one (ps_par (i := 2) (j := 3) (by rfl) nd rfl rfl (by decide) rfl rfl (pa_cons (pe_op op_add (pe_op op_mul (pv 2) pe_int) (pe_op op_fdiv (pv 5) pe_int)) (pa_cons (pe_op op_mul (pv 3) pe_int) pa_nil)) (by rfl))))))))
      (pss_one (ps_ret (pe_op op_mod (pe_callTy call_int1 (by rfl) T.b_int (by decide +kernel) (pa_cons (pv 2) pa_nil)) (pv 1)))))), ?_⟩
    refine ⟨_, rfl, _, _, _, _, rfl, rfl, SqL.of ha, rfl, _, _, rfl, rfl, _, rfl, ?_⟩
    refine ite2 (fun c => ?_) (fun c => ?_)
    · refine ⟨_, rfl, _, _, _, _, rfl, rfl, SqL.of ha, rfl, .inl ⟨_, rfl, _, rfl, _, _, rfl, rfl, m0, ?_⟩⟩
      refine ⟨_, rfl, _, _, _, _, rfl, rfl, SqL.of ha, rfl, _, rfl, _, _, rfl, rfl, wide_div m0 m1 (by decide) (by decide), ?_⟩
      refine ⟨_, rfl, _, _, _, 0, rfl, rfl, ha, rfl, ?_⟩
      refine ⟨_, rfl, ?_⟩
      refine k _ _ (Int.emod_nonneg _ (by omega)) (Int.emod_lt_of_pos _ m0) ⟨_, _, _, upd_same, Int.ediv_nonneg x0 (by omega), y0, y1, z0, by omega⟩ Kp.upd
    · refine ⟨(by show 2 ≤ sizeLine; decide), fun t1 ht1 => ⟨t1, _, rfl, SqT.of upd_same, rfl, _, _, rfl, _, _, rfl, rfl, ?_⟩⟩
      have s1 : Same H (upd H t1 (.tup [.int 0, .int 1])) := Same.upd ht1
      -- the mixing loop: after q turns the reach is at least 2 ^ q
      refine ⟨fun d σ H2 => ∃ (q : Nat) (v4 v5 : Option V) (res reach : Int), d = 1101 - q ∧ σ = [some (.ref a), some (.int m), some (.int res), some (.int reach), v4, v5] ∧ q ≤ 1101 ∧ ((2 : Int) ^ q ≤ reach ∧ 1 ≤ reach) ∧ H2 a = some (.lst [.int x, .int y, .int (z + q)]) ∧ Kp a H H2,
        ⟨1101, 0, none, none, 0, 1, rfl, rfl, by omega, ⟨by decide, by decide⟩, by rw [s1 _ _ ha]; simp, Kp.of s1⟩, ?_⟩
      rintro d σ H2 ⟨q, v4, v5, res, reach, rfl, rfl, hq, ⟨hre, hr1⟩, ha2, kp2⟩
      refine ⟨_, rfl, _, rfl, _, _, rfl, rfl, _, rfl, ?_⟩
      refine ite2 (fun c2 => ?_) (fun c2 => ?_)
      · have c2' : reach < m := of_decide_eq_true c2
        have hq2 : q < 1100 := by
          by_cases hge : 1100 ≤ q
          · have h1 : (2 : Nat) ^ 1100 ≤ 2 ^ q := Nat.pow_le_pow_right (by decide) hge
            have h2 : ((2 ^ q : Nat) : Int) ≤ reach := by rw [Int.natCast_pow]; exact hre
            generalize 2 ^ q = w at h1 h2
            generalize 2 ^ 1100 = w2 at h1 m1
            omega
          · omega
        refine ⟨fun σ' H' => ∃ (v4 v5 : Option V) (res reach : Int), σ' = [some (.ref a), some (.int m), some (.int res), some (.int reach), v4, v5] ∧ ((2 : Int) ^ (q + 1) ≤ reach ∧ 1 ≤ reach) ∧ H' a = some (.lst [.int x, .int y, .int (z + (q + 1 : Nat))]) ∧ Kp a H H', ?_, ?_⟩
        · rintro σ' H' ⟨v4, v5, res, reach, rfl, h1, h2, h3⟩
          exact ⟨1101 - (q + 1), by omega, q + 1, v4, v5, res, reach, rfl, rfl, by omega, h1, h2, h3⟩
        generalize hzq : z + (q : Int) = zq at ha2
        have zb : 0 ≤ zq ∧ zq ≤ 902000 := by omega
        obtain ⟨zb0, zb1⟩ := zb
        refine ⟨_, rfl, _, _, _, _, rfl, rfl, SqL.of ha2, rfl, _, _, rfl, rfl, ?_⟩
        refine ⟨_, rfl, _, _, _, 2, rfl, rfl, ha2, rfl, ?_⟩
        have ha3 : ∀ b o, b ≠ a → (upd (upd H2 a (.lst [.int x, .int y, .int (zq + 1)])) b o) a = some (.lst [.int x, .int y, .int (zq + 1)]) := fun b o n => by rw [upd_ne n.symm, upd_same]
        refine ⟨(by show 7 ≤ sizeLine; decide), fun l hl => ?_⟩
        have hla : l ≠ a := fun e => by
          subst e
          have : (upd H2 l (.lst [.int x, .int y, .int (zq + 1)])) l = none := hl
          rw [upd_same] at this
          cases this
        have hA := ha3 l (.lst primes) hla
        refine ⟨_, rfl, _, _, _, _, rfl, rfl, SqL.of hA, rfl, .inl ⟨_, rfl, _, _, rfl, rfl, (by show (0 : Int) < 7; decide), ?_⟩⟩
        obtain ⟨p, hp, p0, p1⟩ := prime_at ((zq + 1) % 7) (Int.emod_nonneg _ (by decide)) (Int.emod_lt_of_pos _ (by decide))
        refine ⟨l, primes, _, _, rfl, rfl, SqL.of upd_same, hp, ?_⟩
        refine ⟨_, rfl, _, _, _, _, rfl, rfl, SqL.of hA, rfl, _, rfl, _, _, _, _, rfl, rfl, SqL.of hA, rfl, _, _, rfl, rfl, .inl (by decide), _, _, rfl, rfl, _, _, rfl, rfl, _, _, rfl, rfl, ⟨by decide, by decide, ?_⟩, .inl ⟨_, rfl, _, rfl, _, _, rfl, rfl, p0, ?_⟩⟩
        · omega
        have f0 : 0 ≤ (y + 7919 * (zq + 1) + 1) ^ (5 : Int).toNat % p := Int.emod_nonneg _ (by omega)
        have f1 : (y + 7919 * (zq + 1) + 1) ^ (5 : Int).toNat % p < p := Int.emod_lt_of_pos _ p0
        refine ⟨_, rfl, _, rfl, _, _, _, _, rfl, rfl, SqL.of hA, rfl, _, _, rfl, rfl, _, rfl, _, _, rfl, rfl, ⟨by decide, by decide⟩, _, _, rfl, rfl, _, _, rfl, rfl, .inl ?_, .inl ⟨_, rfl, _, rfl, _, _, rfl, rfl, p0, ?_⟩⟩
        · omega
        refine ⟨_, rfl, _, _, rfl, rfl, .inr (by decide), _, rfl, _, _, rfl, rfl, ⟨by decide, by decide⟩, _, _, rfl, rfl, _, rfl, _, _, rfl, rfl, .inr (by decide), _, _, rfl, ?_⟩
        refine ⟨_, _, _, _, rfl, ⟨?_, ?_⟩, ?_, kp2.trans (Kp.upd.trans (Kp.of (Same.upd hl)))⟩
        · have e2 : (2 : Int) ^ (q + 1) = 2 ^ q * 2 := Int.pow_succ 2 q
          rw [e2]
          generalize (2 : Int) ^ q = w at hre
          show w * 2 ≤ reach * 300000007
          omega
        · show 1 ≤ reach * 300000007
          omega
        · have e3 : zq + 1 = z + ((q + 1 : Nat) : Int) := by omega
          rw [← e3]
          exact hA
      · refine ⟨_, rfl, .inl ⟨_, rfl, _, rfl, _, _, rfl, rfl, m0, ?_⟩⟩
        exact k _ _ (Int.emod_nonneg _ (by omega)) (Int.emod_lt_of_pos _ m0) ⟨_, _, _, ha2, x0, y0, y1, by omega, by omega⟩ kp2
theorem sc_choice : FnScope ["_law_source", "_law_options"] ["_law_source", "_law_options"] (defScope st__law_choice) := ⟨rfl, rfl, rfl, by decide +kernel, rfl, by decide +kernel, by decide +kernel⟩
theorem ok_wchoice (T : LX K mg L) : Cal P w K mg base "_law_choice" 2 L.f__law_choice ["_law_source", "_law_options"] spOne := T.d__law_choice.cal fun fd F => by
  have G : Cal P w K mg base "_law_draw" 1 L.f__law_draw ["_law_source", "_law_bound"] spNext := ok_wdraw T
  refine F.ok sc_choice (fun vs H Q E h => ?_) (fun cdv A outer s H vs Q E hr h => ?_)
  · obtain ⟨a, l, xs, n, rfl, _⟩ := h
    rfl
  · obtain ⟨a, l, xs, n, rfl, hal, hl, x0, x1, hs, hn, k⟩ := h
    refine ⟨_, pss_one (ps_ret (pe_ix ix_list (pv 1) (pe_c G hr rfl (pa_cons (pv 0) (pa_cons (pe_callB call_len_seq (by rfl) T.b_len PySem.boot_len (pa_cons (pv 1) pa_nil)) pa_nil))) (fun _ _ => rfl))), ?_⟩
    refine ⟨_, rfl, _, rfl, _, rfl, l, xs, rfl, .inl (SqL.of hl), a, _, n, rfl, by omega, ?_, hs, hn, fun r H' r0 r1 hs' hk => ?_⟩
    · exact Nat.lt_of_le_of_lt (show ((xs.length : Int)).natAbs ≤ 100000 by omega) (by decide)
    · obtain ⟨v, hv, hm⟩ := atI_of (xs := xs) r0 r1
      exact ⟨l, xs, r, v, rfl, rfl, SqL.of (hk _ _ hal.symm hl), hv, k v H' hm hs' hk⟩
theorem sc_cellat : FnScope ["_law_script", "_law_place"] ["_law_script", "_law_place"] (defScope st__law_cell_at) := ⟨rfl, rfl, rfl, by decide +kernel, rfl, by decide +kernel, by decide +kernel⟩
theorem ok_wcellat (T : LX K mg L) : Cal P w K mg base "_law_cell_at" 1 L.f__law_cell_at ["_law_script", "_law_place"] (spCell K) := T.d__law_cell_at.cal fun fd F => by
  refine F.ok sc_cellat (fun vs H Q E h => ?_) (fun cdv A outer s H vs Q E hr h => ?_)
  · obtain ⟨a, ns, z, rfl, _⟩ := h
    rfl
  · obtain ⟨a, ns, i, rfl, hS, i0, k⟩ := h
    refine ⟨_, pss_cons (ps_if (pt_cmpR op_lt (pv 1) (pe_callB call_len_seq (by rfl) T.b_len PySem.boot_len (pa_cons (pv 0) pa_nil)) (nomark _)) (pss_one (ps_ret (pe_ix ix_list (pv 0) (pv 1) (fun _ _ => rfl)))) pss_nil) (pss_one (ps_ret pe_int)), ?_⟩
    refine ⟨_, rfl, _, rfl, a, _, rfl, .inl hS, _, _, rfl, rfl, _, rfl, ?_⟩
    refine ite2 (fun c => ?_) (fun c => ?_)
    · have c' : i < ((ns.map V.int).length : Nat) := of_decide_eq_true c
      obtain ⟨v, hv, hm⟩ := atI_of (xs := ns.map V.int) i0 c'
      obtain ⟨z, _, rfl⟩ := List.mem_map.mp hm
      exact ⟨_, rfl, _, rfl, a, _, _, _, rfl, rfl, hS, hv, k z⟩
    · exact k 0
end
theorem draw_gen {P : Program} {w : World} {mg : Str → Option Value} {t : TA} {σ : L2.St} {H : Hp} {Q : VK} {a : Addr} {n : Nat} {ns : List Int} {hi : Int} {j : Nat} (σ0 : σ[j]? = some (some (.ref a))) (hs : Src H a n) (hn : n ≤ 898000) (ht : ∀ R : List V → Hp → Prop, R (ns.map V.int) H → t σ H R)
    (h0 : 0 < ns.length) (h1 : ns.length ≤ 1000) (hb : ∀ m ∈ ns, 0 < m ∧ m ≤ hi) (hh : hi.natAbs < 2 ^ 1100) (k : ∀ (r : Int) H', 0 ≤ r → r < hi → (∃ m ∈ ns, r < m) → Src H' a (n + 2202) → Kp a H H' → Q (.int r) H') :
    tCall spNext [] E0 (tCons (tVar j) (tCons (tCall spOne [] E0 (tCons (tVar j) (tCons (tLst t) tNil))) tNil)) σ H Q := by
  obtain ⟨ys, hy⟩ := hs.has
  refine ⟨_, σ0, _, σ0, ht _ ⟨(by rw [List.length_map]; exact Nat.le_trans h1 (by decide)), fun l hl => ?_⟩⟩
  have hal : a ≠ l := ne_of_none hy hl
  refine ⟨a, l, ns.map V.int, n, rfl, hal, upd_same, (by rw [List.length_map]; exact h0), (by rw [List.length_map]; omega), hs.same (Same.upd hl), by omega, fun v H1 hv hs1 k1 => ?_⟩
  obtain ⟨m, hm, rfl⟩ := List.mem_map.mp hv
  obtain ⟨m0, m1⟩ := hb m hm
  refine ⟨a, m, n + 1101, rfl, m0, Nat.lt_of_le_of_lt (show m.natAbs ≤ hi.natAbs by omega) hh, hs1, by omega, fun r H2 r0 r1 hs2 k2 => ?_⟩
  exact k r H2 r0 (by omega) ⟨m, hm, r1⟩ hs2 ((Kp.of (Same.upd hl)).trans (k1.trans k2))
theorem choice_gen {P : Program} {w : World} {mg : Str → Option Value} {t : TA} {σ : L2.St} {H : Hp} {Q : VK} {a : Addr} {n : Nat} {ns : List Int} {j : Nat} (σ0 : σ[j]? = some (some (.ref a))) (hs : Src H a n) (hn : n ≤ 898000) (ht : ∀ R : List V → Hp → Prop, R (ns.map V.int) H → t σ H R)
    (h0 : 0 < ns.length) (h1 : ns.length ≤ 1000) (k : ∀ (m : Int) H', m ∈ ns → Src H' a (n + 1101) → Kp a H H' → Q (.int m) H') :
    tCall spOne [] E0 (tCons (tVar j) (tCons (tLst t) tNil)) σ H Q := by
  obtain ⟨ys, hy⟩ := hs.has
  refine ⟨_, σ0, ht _ ⟨(by rw [List.length_map]; exact Nat.le_trans h1 (by decide)), fun l hl => ?_⟩⟩
  have hal : a ≠ l := ne_of_none hy hl
  refine ⟨a, l, ns.map V.int, n, rfl, hal, upd_same, (by rw [List.length_map]; exact h0), (by rw [List.length_map]; omega), hs.same (Same.upd hl), by omega, fun v H1 hv hs1 k1 => ?_⟩
  obtain ⟨m, hm, rfl⟩ := List.mem_map.mp hv
  exact k m H1 hm hs1 ((Kp.of (Same.upd hl)).trans k1)

/-! ### sources kept -/
theorem src_kp {H H' : Hp} {s l : Addr} {n : Nat} (k : Kp l H H') (h : s ≠ l) (S : Src H s n) : Src H' s n := by
  obtain ⟨x, y, z, e, r⟩ := S
  exact ⟨x, y, z, k _ _ h e, r⟩
/-! ### trains drawn -/
theorem PB_add (n m : Nat) : PB n * PB m = PB (n + m) := by
  unfold PB
  rw [Int.pow_add]
theorem PB_mul {i j : Int} {n m : Nat} (i0 : 0 ≤ i) (hi : i ≤ PB n) (j0 : 0 ≤ j) (hj : j ≤ PB m) : i * j ≤ PB (n + m) := by
  rw [← PB_add]
  exact Int.mul_le_mul hi hj j0 (by omega)
/-- the greatest step of the starts -/
def gF (F : Int) : Int := F * F + F + 1
def GapOk (F : Int) : List Trn → Prop
  | [] => True
  | [_] => True
  | t :: u :: r => (∀ c, t.2.2 = some c → u.1 ≤ t.1 + (c - 1) * t.2.1 + F) ∧ GapOk F (u :: r)
theorem gap_swap {F : Int} : ∀ {ini : List Trn} {la lb : Trn}, GapOk F (ini ++ [la]) → lb.1 = la.1 → GapOk F (ini ++ [lb])
  | [], _, _, _, _ => True.intro
  | [t], la, lb, h, e => by
    have h : GapOk F (t :: la :: []) := h
    exact ⟨fun c hc => by rw [e]; exact h.1 c hc, True.intro⟩
  | t :: u :: ini, la, lb, h, e => by
    have h : GapOk F (t :: u :: (ini ++ [la])) := h
    exact ⟨h.1, gap_swap (ini := u :: ini) h.2 e⟩
theorem gap_snoc {F : Int} {u : Trn} : ∀ {ini : List Trn}, GapOk F ini → (∀ la c, ini.getLast? = some la → la.2.2 = some c → u.1 ≤ la.1 + (c - 1) * la.2.1 + F) → GapOk F (ini ++ [u])
  | [], _, _ => True.intro
  | [t], _, h => ⟨fun c hc => h t c rfl hc, True.intro⟩
  | t :: v :: ini, g, h => by
    have g : GapOk F (t :: v :: ini) := g
    show GapOk F (t :: v :: (ini ++ [u]))
    exact ⟨g.1, gap_snoc (ini := v :: ini) g.2 fun la c e1 e2 => h la c (by rw [List.getLast?_cons_cons]; exact e1) e2⟩
structure RowsOk (F : Int) (most : Int) (ts : List Trn) : Prop where
  srt : Srt ts
  ln : (ts.length : Int) ≤ most
  gp : GapOk F ts
  hd : ∀ t, ts.head? = some t → t.1 ≤ F
  bd : ∀ t ∈ ts, t.1 ≤ F + 8 * gF F ∧ t.2.1 ≤ F ∧ ∀ c, t.2.2 = some c → c ≤ F
theorem RowsOk.bt {F most : Int} {ts : List Trn} (R : RowsOk F most ts) (f0 : 5 ≤ F) (f1 : F ≤ PB 401) : ∀ t ∈ ts, BT 810 t := by
  intro t ht
  obtain ⟨h1, h2, h3⟩ := R.bd t ht
  have ok := R.srt.1 t ht
  have p1 := ok.2.1
  have ff : F * F ≤ PB 802 := PB_mul (by omega) f1 (by omega) f1
  have e1 : PB 401 ≤ PB 802 := PB_le (by decide)
  have e2 : PB 803 = PB 802 + PB 802 := PB_succ 802
  have e3 : PB 804 = PB 803 + PB 803 := PB_succ 803
  have e4 : PB 805 = PB 804 + PB 804 := PB_succ 804
  have e5 : PB 806 = PB 805 + PB 805 := PB_succ 805
  have e6 : PB 807 = PB 806 + PB 806 := PB_succ 806
  have e7 : PB 807 ≤ PB 810 := PB_le (by decide)
  have e8 := PB_pos 802
  unfold gF at h1
  have ff0 : 0 ≤ F * F := Int.mul_nonneg (by omega) (by omega)
  refine ⟨by omega, by omega, fun c hc => ?_⟩
  have c1 := ok.2.2 c hc
  have c2 := h3 c hc
  have q : (c - 1) * t.2.1 ≤ F * F := Int.mul_le_mul (by omega) h2 (by omega) (by omega)
  omega
def spRows : Sp := fun vs H Q _ => ∃ (a : Addr) (far most : Int) (n : Nat), vs = [.ref a, .int far, .int most] ∧ 1 ≤ far ∧ far ≤ PB 400 ∧ 0 ≤ most ∧ most ≤ 8 ∧ Src H a n ∧ n ≤ 800000 ∧
  ∀ l xs ts H', H' l = some (.lst xs) → Trs H' xs ts → RowsOk (far + 5) most ts → Src H' a (n + 60000) → Kp a H H' → H l = none → Q (.ref l) H'
theorem neNil (ts : List Trn) : PyData.eqv (.list (ts.map trnD)) (.list []) = decide (ts = []) := eqTrs ts []
theorem shNil : SeqAt.shaped (.list []) = true := shTrs []
section
variable {P : Program} {w : World} {K : PySem.W.Frag} {mg : Str → Option Value} {base : Heap} {L : LA}
abbrev N_wrows : List Str := ["_law_source", "_law_far", "_law_most", "_law_found", "_law_begin", "_law_repeat", "_law_step", "_law_many"]
theorem sc_wrows : FnScope N_wrows ["_law_source", "_law_far", "_law_most"] (defScope st__law_rows) := ⟨rfl, rfl, rfl, by decide +kernel, rfl, by decide +kernel, by decide +kernel⟩
theorem fn_wrows (T : LX K mg L) {fd : FuncData} (F : Fun K "_law_rows" "_law_rows" st__law_rows L.f__law_rows fd) : FnOk P w K mg base CX0 3 L.f__law_rows fd ["_law_source", "_law_far", "_law_most"] (spRows) := by
  have G_wdraw := ok_wdraw (P := P) (w := w) (base := base) T
  have G_wchoice := ok_wchoice (P := P) (w := w) (base := base) T
  have nd := sc_wrows.nd
  refine F.ok sc_wrows (fun vs H Q E h => ?_) (fun cdv A outer S H vs Q E hr h => ?_)
  · obtain ⟨a, far, most, n, rfl, _⟩ := h
    rfl
  · obtain ⟨a, far, most, n, rfl, f0, f1, m0, m1, hs, hn, k⟩ := h
    refine ⟨_, (pss_cons (ps_par (i := 3) (j := 4) (by rfl) nd rfl rfl (by decide) rfl rfl (pa_cons (pe_lst pa_nil) (pa_cons (pe_c G_wdraw (hr.mono (by decide)) rfl (pa_cons (pv 0) (pa_cons (pv 1) pa_nil))) pa_nil)) (by rfl))
       (pss_cons (ps_for PassesOwn.never rfl (pi_range1 rfl T.b_range (pa_cons (pe_c G_wdraw (hr.mono (by decide)) rfl (pa_cons (pv 0) (pa_cons (pe_op op_add (pv 2) pe_int) pa_nil))) pa_nil)) (pg_name (i := 5) nd rfl (Or.inl rfl)) (pss_cons (ps_set (i := 6) nd rfl (Or.inl rfl) (pe_op op_add pe_int (pe_c G_wdraw (hr.mono (by decide)) rfl (pa_cons (pv 0) (pa_cons (pe_c G_wchoice (hr.mono (by decide)) rfl (pa_cons (pv 0) (pa_cons (pe_lst (pa_cons pe_int (pa_cons (pv 1) pa_nil))) pa_nil))) pa_nil)))))
       (pss_cons (ps_set (i := 7) nd rfl (Or.inl rfl) (pe_op op_add pe_int (pe_c G_wdraw (hr.mono (by decide)) rfl (pa_cons (pv 0) (pa_cons (pe_c G_wchoice (hr.mono (by decide)) rfl (pa_cons (pv 0) (pa_cons (pe_lst (pa_cons pe_int (pa_cons pe_int (pa_cons (pv 1) pa_nil)))) pa_nil))) pa_nil)))))
       (pss_cons (ps_expr (pe_bm PySem.F.plainAttrs_list PySem.F.slot_list_append PySem.F.type_list_append mt_append (pv 3) (pa_cons (pe_tup (pa_cons (pv 4) (pa_cons (pv 6) (pa_cons (pv 7) pa_nil)))) pa_nil)))
       (pss_one (ps_set (i := 4) nd rfl (Or.inl rfl) (pe_op op_add (pe_op op_add (pe_op op_add (pv 4) (pe_op op_mulW (pv 6) (pe_op op_sub (pv 7) pe_int))) pe_int) (pe_c G_wdraw (hr.mono (by decide)) rfl (pa_cons (pv 0) (pa_cons (pe_c G_wchoice (hr.mono (by decide)) rfl (pa_cons (pv 0) (pa_cons (pe_lst (pa_cons pe_int (pa_cons (pv 6) (pa_cons (pv 1) pa_nil)))) pa_nil))) pa_nil))))))))))
       (C8.pss_cut (ps_if (PW.pt (pw_and (pt_cmpR (op_neD hr.units) (pv 3) (pe_lst pa_nil) (nomark _)) (pw_and1 (pt_cmpR op_eq (pe_c G_wdraw (hr.mono (by decide)) rfl (pa_cons (pv 0) (pa_cons pe_int pa_nil))) pe_int (nomark _))))) (pss_one (ps_set (i := 3) nd rfl (Or.inl rfl) (pe_op op_cat (pe_slice (r := rSlL K) sl_list (pv 3) po_none (po_some (pe_un un_neg pe_int))) (pe_lst (pa_cons (pe_op (r := rCatT K) op_catT (pe_slice (r := rSlA K) sl_tupA (pe_ix (r := rIxL K) ix_list (pv 3) (pe_un un_neg pe_int) (fun _ _ => rfl)) po_none (po_some pe_int)) (pe_tup (pa_cons pe_non pa_nil))) pa_nil))))) pss_nil)
       (pss_one (ps_ret (pv 3)))))), ?_⟩
    obtain ⟨ya, hya⟩ := hs.has
    have fb : far.natAbs < 2 ^ 1100 := Nat.lt_of_lt_of_le (PB_abs (by omega) f1) (Nat.pow_le_pow_right (by decide) (by decide))
    have fb2 : (far + 5).natAbs < 2 ^ 1100 := by
      have e : PB 401 = PB 400 + PB 400 := PB_succ 400
      have e2 : PB 3 ≤ PB 400 := PB_le (by decide)
      have e3 : PB 3 = 8 := by unfold PB; decide
      exact Nat.lt_of_lt_of_le (PB_abs (n := 401) (by omega) (by omega)) (Nat.pow_le_pow_right (by decide) (by decide))
    obtain ⟨G, hG⟩ : ∃ G, G = gF (far + 5) := ⟨_, rfl⟩
    have ff0 : 0 ≤ (far + 5) * (far + 5) := Int.mul_nonneg (by omega) (by omega)
    have G0 : 0 ≤ G := by rw [hG]; unfold gF; omega
    refine ⟨(by show 0 ≤ sizeLine; decide), fun l hl => ?_⟩
    have nla : l ≠ a := (ne_of_none hya hl).symm
    have s1 : Same H (upd H l (.lst [])) := Same.upd hl
    refine ⟨_, rfl, _, rfl, a, far, n, rfl, by omega, fb, hs.same s1, by omega, fun bg H1 bg0 bg1 hs1 k1 => ?_⟩
    have hl1 : H1 l = some (.lst []) := k1 _ _ nla upd_same
    refine ⟨_, _, rfl, _, rfl, _, rfl, _, _, rfl, rfl, a, most + 1, n + 1101, rfl, by omega, Nat.lt_of_le_of_lt (show (most + 1).natAbs ≤ 9 by omega) (by decide), hs1, by omega, fun r H2 r0 r1 hs2 k2 => ?_⟩
    have k02 : Kp a H H2 := ((Kp.of s1).trans k1).trans k2
    refine ⟨r, rfl, by omega, by omega, ?_⟩
    refine for_range (lo := 0) (n := r.toNat) (fun i σ H3 => ∃ bg, ∃ v5 v6 v7 : Option V, ∃ xs ts, σ = [some (.ref a), some (.int far), some (.int most), some (.ref l), some (.int bg), v5, v6, v7] ∧ H3 l = some (.lst xs) ∧ Trs H3 xs ts ∧ Srt ts ∧ ts.length = i ∧
        (∀ t ∈ ts, t.1 ≤ far + 5 + 8 * G ∧ t.2.1 ≤ far + 5 ∧ ∃ c, t.2.2 = some c ∧ c ≤ far + 5 ∧ t.1 + (c - 1) * t.2.1 < bg) ∧ 0 ≤ bg ∧ bg ≤ far + 5 + i * G ∧ Src H3 a (n + 2202 + 6606 * i) ∧ Kp a H H3 ∧ GapOk (far + 5) ts ∧ (∀ t, ts.head? = some t → t.1 ≤ far + 5) ∧ (ts = [] → bg ≤ far + 5) ∧ ∀ la c, ts.getLast? = some la → la.2.2 = some c → bg ≤ la.1 + (c - 1) * la.2.1 + (far + 5))
      ⟨bg, none, none, none, [], [], rfl, k2 _ _ nla hl1, .nil, ⟨fun t ht => by simp at ht, List.Pairwise.nil⟩, rfl, fun t ht => by simp at ht, bg0, by omega, hs2, k02, True.intro, fun t ht => by simp at ht, fun _ => by omega, fun la c e => by simp at e⟩ ?_ ?_
    · rintro i σ H3 hi ⟨bg, v5, v6, v7, xs, ts, rfl, hl3, tx, hsr, hln, hbd, b0, b1, hs3, k03, gp3, hd3, em3, la3⟩
      have hi8 : i < 8 := by omega
      -- step
      refine draw_gen (P := P) (w := w) (mg := mg) (a := a) (n := n + 2202 + 6606 * i) (ns := [3, far]) (hi := far + 5) rfl hs3 (by omega) (fun R h => ⟨_, rfl, h⟩) (by simp) (by simp) (fun m hm => ?_) fb2 fun st H4 st0 st1 _ hs4 k4 => ⟨_, _, rfl, rfl, ?_⟩
      · simp only [List.mem_cons, List.mem_nil_iff, or_false] at hm
        rcases hm with rfl | rfl <;> omega
      refine draw_gen (P := P) (w := w) (mg := mg) (a := a) (n := n + 2202 + 6606 * i + 2202) (ns := [2, 5, far]) (hi := far + 5) rfl hs4 (by omega) (fun R h => ⟨_, rfl, h⟩) (by simp) (by simp) (fun m hm => ?_) fb2 fun mn H5 mn0 mn1 _ hs5 k5 => ⟨_, _, rfl, rfl, ?_⟩
      · simp only [List.mem_cons, List.mem_nil_iff, or_false] at hm
        rcases hm with rfl | rfl | rfl <;> omega
      have k35 := k4.trans k5
      have hl5 : H5 l = some (.lst xs) := k35 _ _ nla hl3
      obtain ⟨y3, hy3⟩ := hs3.has
      have tx5 : Trs H5 xs ts := tx.nl (Kp.nl k35 hy3)
      have k05 := k03.trans k35
      have hxs := tx.len
      refine ⟨_, rfl, .inl ⟨rfl, _, SqL.of hl5⟩, _, rfl, _, rfl, _, rfl, (by show 3 ≤ sizeLine; decide), fun tp htp => ?_⟩
      have htl : tp ≠ l := (ne_of_none hl5 htp).symm
      obtain ⟨y5, hy5⟩ := hs5.has
      refine ⟨l, xs, _, rfl, rfl, (Same.upd htp) _ _ hl5, small1 (by omega), ?_⟩
      have s6 := Same.upd (o := .tup [.int bg, .int (1 + st), .int (1 + mn)]) htp
      have n7 := NL.upd (o := .lst (xs ++ [.ref tp])) (s6 _ _ hl5)
      have nal : a ≠ l := nla.symm
      have hs7 : Src (upd (upd H5 tp (.tup [.int bg, .int (1 + st), .int (1 + mn)])) l (.lst (xs ++ [.ref tp]))) a (n + 2202 + 6606 * i + 2202 + 2202) := by
        obtain ⟨x, y, z, e, q⟩ := hs5
        exact ⟨x, y, z, by rw [upd_ne nal]; exact s6 _ _ e, q⟩
      generalize hH7 : upd (upd H5 tp (.tup [.int bg, .int (1 + st), .int (1 + mn)])) l (.lst (xs ++ [.ref tp])) = H7 at *
      have hl7 : H7 l = some (.lst (xs ++ [.ref tp])) := by rw [← hH7, upd_same]
      have ht7 : H7 tp = some (.tup [.int bg, .int (1 + st), .int (1 + mn)]) := by rw [← hH7, upd_ne htl, upd_same]
      have tx7 : Trs H7 xs ts := (tx5.same s6).nl n7
      have k07 : Kp a H H7 := fun b o nb e => by
        rw [← hH7, upd_ne (ne_of_none e hl)]
        exact s6 _ _ (k05 _ _ nb e)
      have cm : CMulW (1 + st) (1 + mn - 1) := wide_mul (Nat.lt_of_le_of_lt (show (1 + st).natAbs ≤ (far + 5).natAbs by omega) fb2) (Nat.lt_of_le_of_lt (show (1 + mn - 1).natAbs ≤ (far + 5).natAbs by omega) fb2) (by decide) (by decide) (by decide)
      obtain ⟨y7, hy7⟩ := hs7.has
      refine ⟨_, rfl, _, rfl, _, rfl, _, _, rfl, rfl, _, _, rfl, rfl, cm, _, _, rfl, rfl, _, _, rfl, rfl, ?_⟩
      refine draw_gen (P := P) (w := w) (mg := mg) (a := a) (n := n + 2202 + 6606 * i + 2202 + 2202) (ns := [2, 1 + st, far]) (hi := far + 5) rfl hs7 (by omega) (fun R h => ⟨_, rfl, _, rfl, h⟩) (by simp) (by simp) (fun m hm => ?_) fb2 fun gp H8 gp0 gp1 _ hs8 k8 => ⟨_, _, rfl, rfl, ?_⟩
      · simp only [List.mem_cons, List.mem_nil_iff, or_false] at hm
        rcases hm with rfl | rfl | rfl <;> omega
      have hm1 : (1 + mn - 1) * (1 + st) ≤ (far + 5) * (far + 5) := Int.mul_le_mul (by omega) (by omega) (by omega) (by omega)
      have hm0 : 0 ≤ (1 + mn - 1) * (1 + st) := Int.mul_nonneg (by omega) (by omega)
      have hmc : (1 + st) * (1 + mn - 1) = (1 + mn - 1) * (1 + st) := Int.mul_comm _ _
      have n78 : NL H7 H8 := Kp.nl k8 hy7
      have hb2 : bg + (1 + st) * (1 + mn - 1) + 1 + gp ≤ far + 5 + (i + 1 : Nat) * G := by
        have e : ((i + 1 : Nat) : Int) * G = i * G + G := by
          rw [Int.natCast_add, Int.add_mul]
          show (i : Int) * G + 1 * G = _
          rw [Int.one_mul]
        have e2 : G = (far + 5) * (far + 5) + (far + 5) + 1 := hG
        rw [e, hmc]
        omega
      have hbg8 : bg ≤ far + 5 + 8 * G := by
        have : (i : Int) * G ≤ 8 * G := Int.mul_le_mul_of_nonneg_right (by omega) G0
        omega
      refine ⟨_, _, _, _, xs ++ [.ref tp], ts ++ [(bg, 1 + st, some (1 + mn))], rfl, k8 _ _ nla hl7, (tx7.nl n78).app (Trs.one ⟨tp, rfl, n78 _ _ ht7 fun _ z => nomatch z⟩), ?_, by rw [List.length_append, hln]; rfl, fun t ht => ?_, ?_, hb2, ?_, k07.trans k8, gap_snoc gp3 la3, fun t ht => ?_, fun e => by simp at e, fun la c e1 e2 => ?_⟩
      · refine ⟨fun t ht => ?_, List.pairwise_append.mpr ⟨hsr.2, List.pairwise_singleton _ _, fun t ht u hu => ?_⟩⟩
        · rcases List.mem_append.mp ht with ht | ht
          · exact hsr.1 t ht
          · rw [List.mem_singleton.mp ht]
            exact ⟨b0, by show 1 ≤ 1 + st; omega, fun c hc => by have z : 1 + mn = c := Option.some.inj hc; omega⟩
        · rw [List.mem_singleton.mp hu]
          obtain ⟨_, _, c, hc, _, hlt⟩ := hbd t ht
          exact ⟨c, hc, hlt⟩
      · rcases List.mem_append.mp ht with ht | ht
        · obtain ⟨q1, q2, c, hc, hcf, hlt⟩ := hbd t ht
          refine ⟨q1, q2, c, hc, hcf, ?_⟩
          show _ < bg + (1 + st) * (1 + mn - 1) + 1 + gp
          rw [hmc]
          omega
        · rw [List.mem_singleton.mp ht]
          refine ⟨hbg8, by show 1 + st ≤ far + 5; omega, 1 + mn, rfl, by omega, ?_⟩
          show bg + (1 + mn - 1) * (1 + st) < bg + (1 + st) * (1 + mn - 1) + 1 + gp
          rw [hmc]
          omega
      · show 0 ≤ bg + (1 + st) * (1 + mn - 1) + 1 + gp
        rw [hmc]
        omega
      · have e : n + 2202 + 6606 * i + 2202 + 2202 + 2202 = n + 2202 + 6606 * (i + 1) := by omega
        rw [← e]
        exact hs8
      · cases ts with
        | nil =>
          have e2 : (bg, 1 + st, some (1 + mn)) = t := by simpa using ht
          rw [← e2]
          exact em3 rfl
        | cons u r => exact hd3 t (by simpa using ht)
      · rw [List.getLast?_append] at e1
        have e1 : (bg, 1 + st, some (1 + mn)) = la := by simpa using e1
        rw [← e1] at e2 ⊢
        have e2 : 1 + mn = c := Option.some.inj e2
        subst e2
        show bg + (1 + st) * (1 + mn - 1) + 1 + gp ≤ bg + (1 + mn - 1) * (1 + st) + (far + 5)
        rw [hmc]
        omega
    · rintro σ H3 ⟨bg, v5, v6, v7, xs, ts, rfl, hl3, tx, hsr, hln, hbd, b0, b1, hs3, k03, gp3, hd3, em3, la3⟩
      have hr8 : r.toNat ≤ 8 := by omega
      have hls : (ts.length : Int) ≤ most := by omega
      have hxs := tx.len
      obtain ⟨y3, hy3⟩ := hs3.has
      have dn : Dp K H3 (.ref l) (.list (ts.map trnD)) := .lst (SqL.of hl3) tx.dp
      refine ⟨fun σ' H' => ∃ v l' xs' ts', ∃ v5 v6 v7 : Option V, σ' = [some (.ref a), some (.int far), some (.int most), some (.ref l'), v, v5, v6, v7] ∧ H' l' = some (.lst xs') ∧ Trs H' xs' ts' ∧ RowsOk (far + 5) most ts' ∧ Src H' a (n + 60000) ∧ Kp a H H' ∧ H l' = none, ?_, ?_⟩
      rotate_left
      · rintro σ' H' ⟨v, l', xs', ts', v5, v6, v7, rfl, h1, h2, h3, h4, h5, h6⟩
        exact ⟨_, rfl, k l' xs' ts' H' h1 h2 h3 h4 h5 h6⟩
      have done : ∀ H', Same H3 H' → Src H' a (n + 60000) ∨ Kp a H3 H' ∧ Src H' a (n + 60000) → True := fun _ _ _ => True.intro
      have rows0 : RowsOk (far + 5) most ts := ⟨hsr, hls, gp3, hd3, fun t ht => by
        obtain ⟨q1, q2, c, hc, hcf, _⟩ := hbd t ht
        rw [hG] at q1
        exact ⟨q1, q2, fun c' hc' => by rw [hc] at hc'; cases hc'; exact hcf⟩⟩
      refine ⟨_, rfl, (by show 0 ≤ sizeLine; decide), fun l2 hl2 => ?_⟩
      have s4 := Same.upd (o := .lst ([] : List V)) hl2
      have dn4 : Dp K (upd H3 l2 (.lst [])) (.ref l) (.list (ts.map trnD)) := .lst (SqL.of (s4 _ _ hl3)) (tx.same s4).dp
      refine ⟨_, _, dn4, .lst (SqL.of upd_same) .nil, shTrs _, shNil, ?_⟩
      rw [neNil]
      have k04 : Kp a H (upd H3 l2 (.lst [])) := k03.trans (Kp.of s4)
      refine ⟨_, rfl, ?_⟩
      refine ite2 (fun c => ?_) (fun c => ?_)
      · have hne : ts ≠ [] := fun e => by rw [e] at c; simp at c
        refine ⟨_, rfl, a, 2, n + 2202 + 6606 * r.toNat, rfl, by decide, by decide, hs3.same s4, by omega, fun cz H5 cz0 cz1 hs5 k5 => ?_⟩
        have k05 := k04.trans k5
        have hl5 : H5 l = some (.lst xs) := k5 _ _ nla (s4 _ _ hl3)
        obtain ⟨y4, hy4⟩ := (hs3.same s4).has
        have n5 : NL (upd H3 l2 (.lst [])) H5 := Kp.nl k5 hy4
        have tx5 : Trs H5 xs ts := (tx.same s4).nl n5
        refine ⟨rfl, _, rfl, ?_⟩
        refine ite2 (fun c2 => ?_) (fun c2 => ?_)
        · obtain ⟨ini, la, hil⟩ : ∃ ini la, ts = ini ++ [la] := ⟨ts.dropLast, ts.getLast hne, (List.dropLast_concat_getLast hne).symm⟩
          have hLi : ts.dropLast = ini := by rw [hil]; simp
          obtain ⟨xi, xl, hxi, hti, htl⟩ : ∃ xi xl, xs = xi ++ [xl] ∧ Trs H5 xi ini ∧ TrAt H5 xl la := by
            have h1 := tx5.take (xs.length - 1)
            have h2 := tx5.drop (xs.length - 1)
            have e1 : ini.length = xs.length - 1 := by rw [hxs, hil]; simp
            rw [hil, ← e1] at h1 h2
            rw [List.take_left] at h1
            rw [List.drop_left] at h2
            cases h2d : xs.drop ini.length with
            | nil => rw [h2d] at h2; cases h2
            | cons z zs =>
              rw [h2d] at h2
              cases h2 with
              | cons r tl =>
                cases tl
                exact ⟨xs.take ini.length, z, by rw [← h2d, List.take_append_drop], h1, r⟩
          obtain ⟨tb, rfl, htb⟩ := htl
          refine ⟨_, rfl, 1, rfl, -1, rfl, l, xs, rfl, SqL.of hl5, fun p1 hp1 => ?_⟩
          have s6 := Same.upd (o := .lst (cutV xs none (some (-1)))) hp1
          refine ⟨_, rfl, _, rfl, l, xs, -1, .ref tb, rfl, rfl, SqL.of (s6 _ _ hl5), by rw [hxi]; exact atI_last xi _, 2, rfl, tb, _, rfl, SqT.of (s6 _ _ htb), fun z => ?_, fun _ p2 hp2 => ?_⟩
          · exact absurd z.2 (by show ¬ (min (2 : Int).toNat 3 = 3); decide)
          have s7 := Same.upd (o := .tup (cutV (TrV la) none (some 2))) hp2
          refine ⟨(by show 1 ≤ sizeLine; decide), fun p3 hp3 => ?_⟩
          have s8 := Same.upd (o := .tup [.non]) hp3
          have e2 : cutV (TrV la) none (some 2) = [.int la.1, .int la.2.1] := rfl
          refine ⟨p2, p3, [.int la.1, .int la.2.1], [.non], rfl, rfl, SqT.of (s8 _ _ (by rw [upd_same, e2])), SqT.of upd_same, by simp, (by show 3 ≤ sizeLine; decide), fun z => by simp at z, fun _ p4 hp4 => ⟨(by show 1 ≤ sizeLine; decide), fun p5 hp5 => ?_⟩⟩
          have s9 := Same.upd (o := .tup ([.int la.1, .int la.2.1] ++ [.non])) hp4
          have s10 := Same.upd (o := .lst [.ref p4]) hp5
          have s610 := ((s7.trans s8).trans s9).trans s10
          refine ⟨p1, p5, _, _, rfl, rfl, s610 _ _ upd_same, upd_same, small2 (by have := cutV_length xs none (some (-1)); show _ + 1 ≤ 100000; omega), fun p6 hp6 => ?_⟩
          have s11 := Same.upd (o := .lst (cutV xs none (some (-1)) ++ [.ref p4])) hp6
          have sall := (s6.trans s610).trans s11
          have hla := hbd la (by rw [hil]; simp)
          refine ⟨_, p6, _, ini ++ [(la.1, la.2.1, none)], _, _, _, rfl, upd_same, ?_, ⟨⟨fun t ht => ?_, ?_⟩, ?_, gap_swap (la := la) (by rw [← hil]; exact gp3) rfl, fun t ht => ?_, fun t ht => ?_⟩, (hs5.same sall).mono (by omega), k05.trans (Kp.of sall), ?_⟩
          · have hi2 : Trs H5 (cutV xs none (some (-1))) ini := by rw [← hLi]; exact tx5.init
            exact (hi2.same sall).app (Trs.one ⟨p4, rfl, s11 _ _ (s10 _ _ upd_same)⟩)
          · rcases List.mem_append.mp ht with ht | ht
            · exact hsr.1 t (by rw [hil]; exact List.mem_append_left _ ht)
            · rw [List.mem_singleton.mp ht]
              have := hsr.1 la (by rw [hil]; simp)
              exact ⟨this.1, this.2.1, fun c hc => by cases hc⟩
          · have hp := hsr.2
            rw [hil] at hp
            obtain ⟨g1, _, g3⟩ := List.pairwise_append.mp hp
            refine List.pairwise_append.mpr ⟨g1, List.pairwise_singleton _ _, fun t ht u hu => ?_⟩
            rw [List.mem_singleton.mp hu]
            exact g3 t ht la (List.mem_singleton.mpr rfl)
          · have : (ini ++ [(la.1, la.2.1, none)] : List Trn).length = ts.length := by rw [hil]; simp
            rw [this]
            exact hls
          · cases ini with
            | nil =>
              have e2 : (la.1, la.2.1, none) = t := by simpa using ht
              rw [← e2]
              exact hd3 la (by rw [hil]; rfl)
            | cons u r =>
              have e2 : u = t := by simpa using ht
              rw [← e2]
              exact hd3 u (by rw [hil]; rfl)
          · rcases List.mem_append.mp ht with ht | ht
            · exact rows0.bd t (by rw [hil]; exact List.mem_append_left _ ht)
            · rw [List.mem_singleton.mp ht]
              have := rows0.bd la (by rw [hil]; simp)
              exact ⟨this.1, this.2.1, fun c hc => by cases hc⟩
          · have q : H5 p6 = none := none_of (s6.trans s610) hp6
            cases z : H p6 with
            | none => rfl
            | some o =>
              have n6 : p6 ≠ a := fun e => by
                subst e
                obtain ⟨y5, hy5⟩ := hs5.has
                rw [hy5] at q; cases q
              rw [k05 _ _ n6 z] at q
              cases q
        · exact ⟨_, l, xs, ts, _, _, _, rfl, hl5, tx5, rows0, hs5.mono (by omega), k05, hl⟩
      · exact ⟨_, l, xs, ts, _, _, _, rfl, s4 _ _ hl3, tx.same s4, rows0, (hs3.same s4).mono (by omega), k04, hl⟩
theorem ok_wrows (T : LX K mg L) : Cal P w K mg base "_law_rows" 3 L.f__law_rows ["_law_source", "_law_far", "_law_most"] (spRows) := T.d__law_rows.cal fun fd F => fn_wrows T F
end
/-! ### times listed -/
/-! one time behind the other -/
/-! ### _law_times -/
def spTms : Sp := fun vs H Q _ => ∃ (a : Addr) (xs : List V) (ts : List Trn) (z : Int), vs = [.ref a, .int z] ∧ H a = some (.lst xs) ∧ Trs H xs ts ∧ (∀ t ∈ ts, OkTr t) ∧ (∀ t ∈ ts, BT 5000 t) ∧ ts.length ≤ 10 ∧ (∀ t ∈ ts, nbT t z ≤ 1000) ∧ (∀ t ∈ ts, stepsUp (z - t.1) t.2.1 ≤ PB 5000) ∧
  ∀ l H', H' l = some (.lst ((tms ts z).map V.int)) → Same H H' → H l = none → Q (.ref l) H'
theorem tms_take {ts : List Trn} {i : Nat} {t : Trn} (B : Int) (h : ts[i]? = some t) : tms (ts.take (i + 1)) B = tms (ts.take i) B ++ tmT t B := by
  unfold tms
  rw [List.take_add_one, h, List.flatMap_append]
  congr 1
  show tmT t B ++ [] = _
  rw [List.append_nil]
theorem tms_size {ts : List Trn} {B : Int} (h : ∀ t ∈ ts, OkTr t) (hb : ∀ t ∈ ts, nbT t B ≤ 1000) : (tms ts B).length ≤ 1000 * ts.length := by
  induction ts with
  | nil => exact Nat.le_refl _
  | cons t ts ih =>
    have h1 := tmT_len (h t (List.mem_cons_self ..)) B
    have h2 := hb t (List.mem_cons_self ..)
    have h3 := ih (fun u hu => h u (List.mem_cons_of_mem _ hu)) fun u hu => hb u (List.mem_cons_of_mem _ hu)
    show (tmT t B ++ tms ts B).length ≤ 1000 * (ts.length + 1)
    rw [List.length_append]
    omega
theorem many_steps {d s : Int} (hs : 0 < s) : (if (d + s - 1) / s > 0 then (d + s - 1) / s else 0) = stepsUp d s := by
  have e : (d + s - 1) / s = cl d s := by
    unfold cl
    refine Int.le_antisymm ?_ ?_
    · have h1 : (d + s - 1) / s < -(-d / s) + 1 := by
        refine (Int.ediv_lt_iff_lt_mul hs).mpr ?_
        have h2 : cl d s ≤ cl d s := Int.le_refl _
        have h3 := (cl_le hs).mp h2
        unfold cl at h3
        rw [Int.add_mul, Int.one_mul]
        omega
      omega
    · refine (Int.le_ediv_iff_mul_le hs).mpr ?_
      have h3 := (cl_gt (d := d) (s := s) (n := cl d s - 1) hs).mp (by omega)
      unfold cl at h3
      rw [Int.sub_mul, Int.one_mul] at h3
      omega
  rw [e, stepsUp_cl]
section
variable {P : Program} {w : World} {K : PySem.W.Frag} {mg : Str → Option Value} {base : Heap} {L : LA}
end
/-! ### lists of ints as data; what the law asks of told times -/
def intsD (ns : List Int) : PyData := .list (ns.map PyData.int)
theorem ints_dp {K : PySem.W.Frag} {H : Hp} : ∀ ns : List Int, DpAll K H (ns.map V.int) (ns.map PyData.int)
  | [] => .nil
  | n :: ns => .cons (.int n) (ints_dp ns)
theorem canInts : ∀ ns : List Int, PyData.canLayAll0 (ns.map PyData.int) = true
  | [] => by simp [PyData.canLayAll0]
  | n :: ns => by rw [List.map_cons, PyData.canLayAll0, canInts ns]; simp [PyData.canLay0]
theorem depInts : ∀ ns : List Int, PyData.depthAll (ns.map PyData.int) ≤ 10
  | [] => by simp [PyData.depthAll]
  | n :: ns => by
    have := depInts ns
    rw [List.map_cons, PyData.depthAll]
    have h2 : (PyData.int n).depth ≤ 10 := by simp [PyData.depth]
    omega
theorem shInts (ns : List Int) : SeqAt.shaped (intsD ns) = true := by
  refine Bool.and_eq_true_iff.mpr ⟨?_, decide_eq_true ?_⟩
  · unfold intsD
    rw [PyData.canLay0]
    exact canInts ns
  · have := depInts ns
    unfold intsD
    rw [PyData.depth]
    omega
theorem eqInts1 : ∀ ns ms : List Int, PyData.eqvAll (ns.map PyData.int) (ms.map PyData.int) = decide (ns = ms)
  | [], [] => by simp [PyData.eqvAll]
  | [], _ :: _ => by simp [PyData.eqvAll]
  | _ :: _, [] => by simp [PyData.eqvAll]
  | n :: ns, m :: ms => by
    rw [List.map_cons, List.map_cons, PyData.eqvAll, eqInts1 ns ms, Bool.eq_iff_iff]
    simp [PyData.eqv]
theorem eqInts (ns ms : List Int) : PyData.eqv (intsD ns) (intsD ms) = decide (ns = ms) := by
  unfold intsD
  rw [PyData.eqv]
  exact eqInts1 ns ms
theorem Dp.ints {K : PySem.W.Frag} {H : Hp} {a : Addr} {ns : List Int} (h : H a = some (.lst (ns.map V.int))) : Dp K H (.ref a) (intsD ns) := .lst (SqL.of h) (ints_dp ns)
/-! ### k09: what is no list of trains -/
inductive NoTr (H : Hp) : V → Prop
  | kind {v : V} {nm : String} (k : Kd H v nm) (n : nm ≠ "tuple") : NoTr H v
  | len {a : Addr} {xs : List V} (e : H a = some (.tup xs)) (n : xs.length ≠ 3) : NoTr H (.ref a)
  | num {a : Addr} {x y z : V} {n1 n2 n3 : String} (e : H a = some (.tup [x, y, z])) (k1 : Kd H x n1) (k2 : Kd H y n2) (k3 : Kd H z n3) (bad : ((isI x && decide (0 ≤ toI x)) && ((isI y && decide (1 ≤ toI y)) && (decide (z = .non) || (isI z && decide (1 ≤ toI z))))) = false) : NoTr H (.ref a)
def spIsTrN : Sp := fun vs H Q _ => ∃ x, vs = [x] ∧ NoTr H x ∧ Q (.bl false) H
namespace N
section
variable {P : Program} {w : World} {K : PySem.W.Frag} {mg : Str → Option Value} {base : Heap} {L : LA}
abbrev N_istrain : List Str := ["value", "start", "step", "count"]
theorem sc_istrain : FnScope N_istrain ["value"] (defScope st_is_train) := ⟨rfl, rfl, rfl, by decide +kernel, rfl, by decide +kernel, by decide +kernel⟩
theorem fn_istrain (T : LX K mg L) {fd : FuncData} (F : Fun K "is_train" "is_train" st_is_train L.f_is_train fd) : FnOk P w K mg base CX0 3 L.f_is_train fd ["value"] (spIsTrN) := by
  have G_isatleast := ok_isatleast (P := P) (w := w) (base := base) T
  have nd := sc_istrain.nd
  refine F.ok sc_istrain (fun vs H Q E h => ?_) (fun cdv A outer S H vs Q E hr h => ?_)
  · obtain ⟨x, rfl, _⟩ := h
    rfl
  · obtain ⟨x, rfl, nt, k⟩ := h
    refine ⟨_, (pss_cons (ps_if (PW.pt (pw_or (pt_not (pt_val (pe_callB call_isi (by rfl) T.b_isinstance (by decide +kernel) (pa_cons (pv 0) (pa_cons (pe_bltn (by rfl) T.b_tuple (by decide +kernel : bootBuiltins "tuple" = some (.type "tuple")) (v := .ty "tuple") rfl) pa_nil))))) (pw_or1 (pt_cmpR op_ne (pe_callB call_len_seq (by rfl) T.b_len PySem.boot_len (pa_cons (pv 0) pa_nil)) pe_int (nomark _))))) (pss_one (ps_ret pe_bl)) pss_nil)
       (pss_cons (ps_asg (pv 0) (pg_tup rfl (pgs_cons (pg_name (i := 1) nd rfl (Or.inl rfl)) (pgs_cons (pg_name (i := 2) nd rfl (Or.inl rfl)) (pgs_cons (pg_name (i := 3) nd rfl (Or.inl rfl)) pgs_nil)))))
       (pss_one (ps_ret (pe_and (pe_c G_isatleast (hr.mono (by decide)) rfl (pa_cons (pv 1) (pa_cons pe_int pa_nil))) (pe_and (pe_c G_isatleast (hr.mono (by decide)) rfl (pa_cons (pv 2) (pa_cons pe_int pa_nil))) (pe_one (pe_or (pe_cmp (pc_isN (pv 3))) (pe_one (pe_c G_isatleast (hr.mono (by decide)) rfl (pa_cons (pv 3) (pa_cons pe_int pa_nil)))))))))))), ?_⟩
    cases nt with
    | @kind _ nm kd n =>
      refine ⟨_, rfl, _, .ty "tuple", _, _, _, rfl, .ty "tuple", kd.ty, kd.kit "tuple" _ (.inr ⟨by decide, by decide, rfl⟩), _, rfl, ?_⟩
      rw [show (nm == "tuple") = false from beq_false_of_ne n]
      exact iteT (iteT k)
    | @len a xs e n =>
      refine ⟨_, rfl, _, .ty "tuple", _, _, _, rfl, .ty "tuple", (Kd.tup e).ty, (Kd.tup e).kit "tuple" _ (.inr ⟨by decide, by decide, rfl⟩), _, rfl, iteF ?_⟩
      refine ⟨_, rfl, a, _, rfl, .inr (SqT.of e), rfl, _, rfl, ?_⟩
      rw [show (!decide (V.int (xs.length : Int) = V.int 3)) = true by
        rw [decide_eq_false fun z => n (by have := V.int.inj z; omega)]
        rfl]
      exact iteT k
    | @num a x y z n1 n2 n3 e k1 k2 k3 bad =>
      refine ⟨_, rfl, _, .ty "tuple", _, _, _, rfl, .ty "tuple", (Kd.tup e).ty, (Kd.tup e).kit "tuple" _ (.inr ⟨by decide, by decide, rfl⟩), _, rfl, iteF ?_⟩
      refine ⟨_, rfl, a, _, rfl, .inr (SqT.of e), rfl, _, rfl, iteF ?_⟩
      refine ⟨_, rfl, a, _, rfl, SqT.of e, rfl, _, _, rfl, _, _, rfl, _, _, rfl, rfl, ?_⟩
      refine ⟨_, rfl, _, _, _, rfl, k1, _, rfl, ?_⟩
      cases b1 : (isI x && decide (0 ≤ toI x)) with
      | false => exact iteF k
      | true =>
        rw [b1, Bool.true_and] at bad
        refine iteT ⟨_, rfl, _, _, _, rfl, k2, _, rfl, ?_⟩
        cases b2 : (isI y && decide (1 ≤ toI y)) with
        | false => exact iteF k
        | true =>
          rw [b2, Bool.true_and] at bad
          have b3 := Bool.or_eq_false_iff.mp bad
          refine iteT ⟨_, rfl, ?_⟩
          refine ⟨_, rfl, ?_⟩
          rw [b3.1]
          refine iteF ⟨_, rfl, _, _, _, rfl, k3, ?_⟩
          rw [b3.2]
          exact k
theorem ok_istrain (T : LX K mg L) : Cal P w K mg base "is_train" 3 L.f_is_train ["value"] (spIsTrN) := T.d_is_train.cal fun fd F => fn_istrain T F
end
end N
/-- one def, two promises -/
theorem FnOk.or0 {P : Program} {w : World} {K : PySem.W.Frag} {mg : Str → Option Value} {base : Heap} {CX : CXT} {k : Nat} {f : Addr} {fd : FuncData} {ps : List Str} {sp1 sp2 : Sp} (F1 : FnOk P w K mg base CX k f fd ps sp1) (F2 : FnOk P w K mg base CX k f fd ps sp2) : FnOk P w K mg base CX k f fd ps (fun vs H Q E => sp1 vs H Q E ∨ sp2 vs H Q E) :=
  ⟨fun vs H Q E h => h.elim (F1.len vs H Q E) (F2.len vs H Q E), fun A outer s H args us vs Q E hr e0 hb hv h => h.elim (F1.run A outer s H args us vs Q E hr e0 hb hv) (F2.run A outer s H args us vs Q E hr e0 hb hv)⟩
theorem FnOk.orX {P : Program} {w : World} {K : PySem.W.Frag} {mg : Str → Option Value} {base : Heap} {k : Nat} {f : Addr} {fd : FuncData} {ps : List Str} {sp1 sp2 : Sp} (F1 : FnOk P w K mg base CX0 k f fd ps sp1) (F2 : FnOk P w K mg base (L2.CX P w) k f fd ps sp2) : FnOk P w K mg base (L2.CX P w) k f fd ps (fun vs H Q E => sp1 vs H Q E0 ∨ sp2 vs H Q E) := by
  refine ⟨fun vs H Q E h => h.elim (F1.len vs H Q E0) (F2.len vs H Q E), fun A outer s H args us vs Q E hr e0 hb hv h => ?_⟩
  rcases h with h | h
  · refine codeAny_mono (F1.run A outer s H args us vs Q E0 hr e0 hb hv h) fun r s' z => ?_
    cases r with
    | error e => exact z.elim
    | ok fl => cases fl <;> exact z
  · exact F2.run A outer s H args us vs Q E hr e0 hb hv h
def BadAt (H : Hp) (ts : List Trn) (x : V) : Prop := (∃ la, ts.getLast? = some la ∧ la.2.2 = none) ∨ NoTr H x ∨ ∃ t la c, TrAt H x t ∧ OkTr t ∧ ts.getLast? = some la ∧ la.2.2 = some c ∧ t.1 ≤ la.1 + (c - 1) * la.2.1
inductive TrBad (H : Hp) : V → Int → Prop
  | kind {v : V} {nm : String} (k : Kd H v nm) (n : nm ≠ "list") : TrBad H v (-1)
  | many {a : Addr} {xs : List V} (e : H a = some (.lst xs)) (m : 1000 < xs.length) : TrBad H (.ref a) (-1)
  | item {a : Addr} {pre post : List V} {x : V} {ts : List Trn} {n : Nat} (e : H a = some (.lst (pre ++ x :: post))) (hp : Trs H pre ts) (hs : Srt ts) (bt : ∀ t ∈ ts, BT n t) (hn : n < 5000) (ln : (pre ++ x :: post).length ≤ 1000) (bad : BadAt H ts x) : TrBad H (.ref a) pre.length
theorem NoTr.same {H H' : Hp} {v : V} (h : NoTr H v) (s : Same H H') : NoTr H' v := by
  have mk : ∀ {v : V} {nm : String}, Kd H v nm → Kd H' v nm := fun {v nm} k => by
    cases k with
    | non => exact .non
    | bl b => exact .bl b
    | int i => exact .int i
    | str x => exact .str x
    | lst e => exact .lst (s _ _ e)
    | tup e => exact .tup (s _ _ e)
    | dK e => exact .dK (s _ _ e)
  cases h with
  | kind k n => exact .kind (mk k) n
  | len e n => exact .len (s _ _ e) n
  | num e k1 k2 k3 bad => exact .num (s _ _ e) (mk k1) (mk k2) (mk k3) bad
def spCkX (L : LA) : Sp := fun vs H _ E => ∃ v i, vs = [v] ∧ TrBad H v i ∧ ∀ d H', H' d = some (.xd [("at", .int i)]) → Same H H' → E (.ref L.e_InvalidTrains) (some d) H'
def spInitX (L : LA) : Sp := fun vs H _ E => ∃ p v i, vs = [p, v] ∧ TrBad H v i ∧ ∀ d H', H' d = some (.xd [("at", .int i)]) → Same H H' → E (.ref L.e_InvalidTrains) (some d) H'
namespace EX
section
variable {P : Program} {w : World} {K : PySem.W.Frag} {mg : Str → Option Value} {base : Heap} {L : LA}
theorem ok_istrain (T : LX K mg L) : Cal P w K mg base "is_train" 3 L.f_is_train ["value"] (fun vs H Q E => spIsTr vs H Q E ∨ spIsTrN vs H Q E) := T.d_is_train.cal fun fd F => FnOk.or0 (fn_istrain T F) (N.fn_istrain T F)
theorem fn_checktrains (T : LX K mg L) {fd : FuncData} (F : Fun K "check_trains" "check_trains" st_check_trains L.f_check_trains fd) : FnOk P w K mg base (L2.CX P w) 4 L.f_check_trains fd ["trains"] (spCkX L) := by
  obtain ⟨tk_MOST_TRAINS, c_MOST_TRAINS⟩ := T.n_MOST_TRAINS
  have G_lasttime := ok_lasttime (P := P) (w := w) (base := base) T
  have G_istrain := ok_istrain (P := P) (w := w) (base := base) T
  have nd := sc_checktrains.nd
  refine F.okX sc_checktrains (fun vs H Q E h => ?_) (fun cdv A outer S H vs Q E hr h => ?_)
  · obtain ⟨v, i, rfl, _⟩ := h
    rfl
  · obtain ⟨v, i, rfl, bad, k⟩ := h
    refine ⟨_, (pss_cons (ps_if (PW.pt (pw_or (pt_not (pt_val (pe_callB call_isi (by rfl) T.b_isinstance (by decide +kernel) (pa_cons (pv 0) (pa_cons (pe_bltn (by rfl) T.b_list (by decide +kernel : bootBuiltins "list" = some (.type "list")) (v := .ty "list") rfl) pa_nil))))) (pw_or1 (pt_cmpR op_gt (pe_callB call_len_seq (by rfl) T.b_len PySem.boot_len (pa_cons (pv 0) pa_nil)) (pe_gI c_MOST_TRAINS) (nomark _))))) (pss_one (ps_raise rfl (takes_of rfl rfl rfl rfl) (mk_InvalidTrains T (hr.mono (by decide)) rfl (pa_cons (pe_un un_neg pe_int) pa_nil)))) pss_nil)
       (pss_cons (ps_set (i := 1) nd rfl (Or.inl rfl) (pe_un un_neg pe_int))
       (pss_one (ps_for (passes_of rfl) rfl (pi_enum (by rfl) T.b_enumerate (pa_cons (pv 0) pa_nil)) (pg_tup rfl (pgs_cons (pg_name (i := 2) nd rfl (Or.inl rfl)) (pgs_cons (pg_name (i := 3) nd rfl (Or.inl rfl)) pgs_nil))) (pss_cons (ps_if (PW.pt (pw_or (pt_cmp (pc_isN (pv 1))) (pw_or (pt_not (pt_val (pe_c G_istrain (hr.mono (by decide)) rfl (pa_cons (pv 3) pa_nil)))) (pw_or1 (pt_cmpR op_le (pe_ix (r := rIxT K) ix_tup (pv 3) pe_int (fun _ _ => rfl)) (pv 1) (nomark _)))))) (pss_one (ps_raise rfl (takes_of rfl rfl rfl rfl) (mk_InvalidTrains T (hr.mono (by decide)) rfl (pa_cons (pv 2) pa_nil)))) pss_nil)
       (pss_one (ps_set (i := 1) nd rfl (Or.inl rfl) (pe_c G_lasttime (hr.mono (by decide)) rfl (pa_cons (pv 3) pa_nil))))))))), ?_⟩
    cases bad with
    | @kind _ nm kd n =>
      refine ⟨_, rfl, _, .ty "list", _, _, _, rfl, .ty "list", kd.ty, kd.kit "list" _ (.inr ⟨by decide, by decide, rfl⟩), _, rfl, ?_⟩
      rw [show (nm == "list") = false from beq_false_of_ne n]
      exact iteT (iteT ⟨1, rfl, (by show 1 ≤ 1000; decide), fun e he => raise1 k e he⟩)
    | @many a xs e m =>
      refine ⟨_, rfl, _, .ty "list", _, _, _, rfl, .ty "list", (Kd.lst e).ty, (Kd.lst e).kit "list" _ (.inr ⟨by decide, by decide, rfl⟩), _, rfl, iteF ?_⟩
      refine ⟨_, rfl, a, _, rfl, .inl (SqL.of e), _, _, rfl, rfl, _, rfl, ?_⟩
      rw [decide_eq_true (show (1000 : Int) < (xs.length : Nat) by omega)]
      exact iteT ⟨1, rfl, (by show 1 ≤ 1000; decide), fun e he => raise1 k e he⟩
    | @item a pre post x ts n ha hx hs hb hn ln bad =>
      have hxl := hx.len
      obtain ⟨xs, hxs⟩ : ∃ xs, xs = pre ++ x :: post := ⟨_, rfl⟩
      rw [← hxs] at ha ln
      have hpl : pre.length < xs.length := by rw [hxs, List.length_append, List.length_cons]; omega
      refine ⟨_, rfl, _, .ty "list", _, _, _, rfl, .ty "list", (Kd.lst ha).ty, (Kd.lst ha).kit "list" _ (.inr ⟨by decide, by decide, rfl⟩), _, rfl, iteF ?_⟩
      refine ⟨_, rfl, a, _, rfl, .inl (SqL.of ha), _, _, rfl, rfl, _, rfl, ?_⟩
      rw [decide_eq_false (show ¬ ((1000 : Int) < (xs.length : Nat)) by omega)]
      refine iteF ⟨_, rfl, ?_⟩
      refine ⟨_, rfl, a, xs, rfl, SqL.of ha, for_enum (K := K) (a := a) (xs := xs) (fun i σ H2 => ∃ la v2 v3 : Option V, σ = [some (.ref a), la, v2, v3] ∧ Same H H2 ∧ i ≤ pre.length ∧ (i = 0 ∧ la = some (.int (-1)) ∨ ∃ j t, i = j + 1 ∧ ts[j]? = some t ∧ la = some (lastV t)))
        ⟨_, none, none, rfl, Same.refl H, Nat.zero_le _, .inl ⟨rfl, rfl⟩⟩ (fun i σ H2 _ ⟨_, _, _, _, s2, _⟩ => SqL.of (s2 _ _ ha)) ?_ ?_⟩
      · rintro i y T' σ H2 hyi ⟨la, v2, v3, rfl, s2, il, hla⟩ hT
        have s3 : Same H (upd H2 T' (.tup [.int (i : Nat), y])) := s2.trans (Same.upd hT)
        refine ⟨T', _, rfl, SqT.of upd_same, rfl, _, _, rfl, _, _, rfl, rfl, ?_⟩
        by_cases ie : i = pre.length
        · have hyx : y = x := by
            rw [hxs, ie, List.getElem?_append_right (Nat.le_refl _), Nat.sub_self] at hyi
            exact (Option.some.inj hyi).symm
          subst hyx
          subst ie
          have RS : ∀ e, (upd H2 T' (.tup [.int (pre.length : Nat), y])) e = none → spEI1 L.e_InvalidTrains "at" [.ref e, .int (pre.length : Nat)] (upd (upd H2 T' (.tup [.int (pre.length : Nat), y])) e (L2.exo e L.e_InvalidTrains none)) (fun x H3 => x = .non ∧ ∃ (d : Addr) (fs : List (Str × V)), H3 e = some (L2.exo e L.e_InvalidTrains (some d)) ∧ H3 d = some (L2.exd d fs) ∧ (upd H2 T' (.tup [.int (pre.length : Nat), y])) d = none ∧ E (.ref L.e_InvalidTrains) (some d) (upd (L2.del H3 e) d (.xd fs))) E := fun e he => raise1 (fun d H' hd s' => k d H' hd (s3.trans s')) e he
          have lz : ∀ {la' : Trn}, ts.getLast? = some la' → la = some (lastV la') := fun {la'} e1 => by
            rcases hla with ⟨z, _⟩ | ⟨j, t, z, ht, e⟩
            · rw [hxl] at z
              rw [List.eq_nil_of_length_eq_zero z] at e1
              cases e1
            · rw [List.getLast?_eq_getElem?, ← hxl, z, Nat.add_sub_cancel, ht] at e1
              cases e1
              exact e
          rcases bad with ⟨la', e1, e2⟩ | nt | ⟨t, la', c, tr, okt, e1, e2, le⟩
          · have e := lz e1
            unfold lastV at e
            rw [e2] at e
            subst e
            exact ⟨_, rfl, _, rfl, iteT ⟨_, rfl, (by show 1 ≤ 1000; decide), RS⟩⟩
          · obtain ⟨lv, rfl⟩ : ∃ lv, la = some lv := by
              rcases hla with ⟨_, e⟩ | ⟨_, _, _, _, e⟩
              · exact ⟨_, e⟩
              · exact ⟨_, e⟩
            refine ⟨_, rfl, _, rfl, ite2 (fun _ => ⟨_, rfl, (by show 1 ≤ 1000; decide), RS⟩) (fun _ => ⟨_, rfl, .inr ⟨y, rfl, nt.same s3, _, rfl, iteT ⟨_, rfl, (by show 1 ≤ 1000; decide), RS⟩⟩⟩)⟩
          · have e := lz e1
            unfold lastV at e
            rw [e2] at e
            subst e
            obtain ⟨b, rfl, hb3⟩ := tr.same s3
            refine ⟨_, rfl, _, rfl, iteF ⟨_, rfl, .inl ⟨.ref b, t, rfl, ⟨b, rfl, hb3⟩, okt, _, rfl, iteF ⟨_, rfl, b, _, 0, .int t.1, rfl, rfl, SqT.of hb3, rfl, _, rfl, _, _, rfl, rfl, _, rfl, ?_⟩⟩⟩⟩
            rw [decide_eq_true le]
            exact iteT ⟨_, rfl, (by show 1 ≤ 1000; decide), RS⟩
        · have hil : i < pre.length := by omega
          have hyi : pre[i]? = some y := by rwa [hxs, List.getElem?_append_left hil] at hyi
          obtain ⟨t, ht, hbr⟩ := hx.get hyi
          have htm := List.mem_of_getElem? ht
          have hbr3 := hbr.same s3
          obtain ⟨b, rfl, hb3⟩ := hbr3
          obtain ⟨l0, e0, hl0⟩ : ∃ l0 : Int, la = some (.int l0) ∧ l0 < t.1 := by
            rcases hla with ⟨_, e⟩ | ⟨j, u, rfl, hu, e⟩
            · exact ⟨-1, e, by have := (hs.1 t htm).1; omega⟩
            · have l : Lt u t := by
                have hj := (List.getElem?_eq_some_iff.mp hu)
                have hi := (List.getElem?_eq_some_iff.mp ht)
                obtain ⟨h1, rfl⟩ := hj
                obtain ⟨h2, rfl⟩ := hi
                exact (List.pairwise_iff_getElem.mp hs.2) j (j + 1) h1 h2 (Nat.lt_succ_self j)
              obtain ⟨c, hc, q⟩ := l
              refine ⟨u.1 + (c - 1) * u.2.1, ?_, q⟩
              rw [e]
              unfold lastV
              rw [hc]
          subst e0
          refine ⟨_, rfl, _, rfl, iteF ⟨_, rfl, .inl ⟨.ref b, t, rfl, ⟨b, rfl, hb3⟩, hs.1 t htm, _, rfl, iteF ⟨_, rfl, b, _, 0, .int t.1, rfl, rfl, SqT.of hb3, rfl, _, rfl, _, _, rfl, rfl, _, rfl, ?_⟩⟩⟩⟩
          rw [decide_eq_false (by omega)]
          refine iteF ⟨_, rfl, .ref b, t, rfl, ⟨b, rfl, hb3⟩, hs.1 t htm, (hb t htm).le (by omega), ?_⟩
          exact ⟨_, _, _, rfl, s3, hil, .inr ⟨i, t, rfl, ht, rfl⟩⟩
      · rintro σ H2 ⟨_, _, _, rfl, s2, il, _⟩
        exact absurd il (by omega)
theorem ok_checktrains (T : LX K mg L) : CalX P w K mg base "check_trains" 4 L.f_check_trains ["trains"] (spCkX L) := T.d_check_trains.calX fun fd F => fn_checktrains T F
theorem fn_Trainsinit (T : LX K mg L) {fd : FuncData} (F : Fun K "__init__" "Trains.__init__" st_Trains_init L.i_Trains fd) : FnOk P w K mg base (L2.CX P w) 5 L.i_Trains fd ["self", "trains"] (spInitX L) := by
  have G_checktrains := ok_checktrains (P := P) (w := w) (base := base) T
  have G_normalform := ok_normalform (P := P) (w := w) (base := base) T
  have G_countsahead := ok_countsahead (P := P) (w := w) (base := base) T
  have G_totalcount := ok_totalcount (P := P) (w := w) (base := base) T
  have nd := sc_Trainsinit.nd
  refine F.okX sc_Trainsinit (fun vs H Q E h => ?_) (fun cdv A outer S H vs Q E hr h => ?_)
  · obtain ⟨p, v, i, rfl, _⟩ := h
    rfl
  · obtain ⟨p, v, i, rfl, bad, k⟩ := h
    refine ⟨_, (pss_cons (ps_expr (pe_cX (EX.ok_checktrains (P := P) (w := w) (base := base) T) (hr.mono (by decide)) rfl (fun σ => passAt (takes_of rfl rfl rfl rfl) σ) (pa_cons (pv 1) pa_nil)))
       (pss_cons (ps_fld (pv 0) (pe_c G_normalform (hr.mono (by decide)) rfl (pa_cons (pv 1) pa_nil)) rfl)
       (pss_cons (ps_fld (pv 0) (pe_lc (own := [("run", 2)]) (g := gName 2) (tt := tYes) rfl nd (pi_list (pe_fld (pv 0) rfl)) (blkOk_by (own := [("run", 2)]) (N := N_Trainsinit) (sc := defScope st_Trains_init) (by decide +kernel)) (fun _ _ _ _ _ => pg_name (i := 2) nd rfl (Or.inl rfl)) (fun _ _ _ _ _ => pts_nil) (fun _ _ _ _ _ => (pe_ix (r := rIxT K) ix_tup (pv 2) pe_int (fun _ _ => rfl)))) rfl)
       (pss_cons (ps_fld (pv 0) (pe_c G_countsahead (hr.mono (by decide)) rfl (pa_cons (pe_fld (pv 0) rfl) pa_nil)) rfl)
       (pss_one (ps_fld (pv 0) (pe_c G_totalcount (hr.mono (by decide)) rfl (pa_cons (pe_fld (pv 0) rfl) pa_nil)) rfl)))))), ?_⟩
    exact ⟨_, rfl, v, i, rfl, bad, k⟩
end
end EX
/-! ### Trains(..) in a try, what the error finds being known at these variables -/
section
variable {X : Cx} {CX : CXT} {k : Nat} {f C : Addr} {fd : FuncData} {ps : List Str} {sp : Sp} {ds : List Value} {dvs : List V}
theorem run_mkS {E : XK} {pins : List (Addr × Obj)} {σ : L2.St} {H : Hp} {s : Shared} {Q : VK} {us : List Value} {vs : List V} (M : Mk X.K C f) (F : FnOk X.prog X.w X.K X.mg X.base CX k f fd ps sp) (hr : Room (k + 1) X.A) (hb : Binds X.K fd ps ds) (hd : Vals dvs ds) (hx : L2.PassesAt CX X σ E) (I : Inv X pins σ H s) (r : Vals vs us)
    (h : ∀ x dx, H x = none → H dx = none → dx ≠ x → sp (.ref x :: (vs ++ dvs)) (upd (upd H dx (.own x)) x (.ins C dx [])) (fun v H2 => v = .non ∧ Q (.ref x) H2) E) : wpAny (model X.prog X.w) X.A (call (.ref C) us) (EP X pins σ Q) X.xe s := by
  have q := h (s.heap.objs.size + 1) s.heap.objs.size (I.hok.fresh (Nat.le_succ _)) (I.hok.fresh (Nat.le_refl _)) (Nat.ne_of_lt (Nat.lt_succ_self _))
  have J := Inv.made (C := C) I
  have rz : Vals (V.ref (s.heap.objs.size + 1) :: (vs ++ dvs)) (Value.ref (s.heap.objs.size + 1) :: (us ++ ds)) := .cons rfl (r.append hd)
  have ln : (Value.ref (s.heap.objs.size + 1) :: us ++ ds).length = ps.length := rz.length.symm.trans (F.len _ _ _ _ q)
  refine wpAny_call (make_map (f := f) I.kIn M.makes M.init (beq_iff_eq.mp M.fn) (codeAny_mono (F.run _ X.stack _ _ ⟨Value.ref (s.heap.objs.size + 1) :: us, []⟩ (Value.ref (s.heap.objs.size + 1) :: (us ++ ds)) _ _ E (hr.make C us [])
    (J.env0.make C us []) (hb _ (Value.ref (s.heap.objs.size + 1) :: us) J.kIn ln) rz q) fun z s' hz => ?_))
  cases z with
  | error e => exact hx pins _ _ e s' J hz
  | ok fl =>
    cases fl with
    | ret u =>
      obtain ⟨v, H', I3, rv, ev, q3⟩ := J.after hz
      subst ev
      exact ⟨rv, ⟨V.ref (s.heap.objs.size + 1), H', I3, rfl, q3⟩⟩
    | next => exact hz.elim
    | brk => exact hz.elim
    | cont => exact hz.elim
open PySem.Spec PyProof.Rows in
theorem pe_mkS {E : L2.St → XK} {x : Str} {p pos : Pos} {e : Expr} {es : List Expr} {t : TA} (M : Mk X.K C f) (F : FnOk X.prog X.w X.K X.mg X.base CX k f fd ps sp) (hr : Room (k + 1) X.A) (hg : Gl X x) (hm : X.mg x = some (.ref C)) (hb : Binds X.K fd ps []) (hx : ∀ σ, L2.PassesAt CX X σ (E σ)) (ha : PA X (e :: es) t)
    (hdb : (x == ("__debug__" : Str)) = false := by decide) (he : starEach (e :: es) X.env = (false, eval e X.env) :: starEach es X.env := by rfl) (hpl : (backTo pos (starEach es X.env)).any (·.1) = false := by rfl) :
    PE X (.Call (.Name x p) (e :: es) [] pos) (fun σ H Q => tMake C sp [] (E σ) t σ H Q) := by
  refine ⟨fun pins s σ H Q I h => ?_⟩
  refine wpAny_Call_Name_kw (ld_glob I hg hm ?_ hdb)
  refine PySem.W.callWith_K (h₀ := X.base) I.ok.mod.kin M.kp (thn (ha.run pos pins s σ H _ I h) fun us s1 ⟨vs, H1, I1, r, q⟩ => ⟨I1.kIn, ?_⟩) he hpl
  exact run_mkS M F hr hb .nil (hx σ) I1 r q
end
def spInitU (L : LA) : Sp := fun vs H Q E => spInit L.c_Trains vs H Q E0 ∨ spInitX L vs H Q E
section
variable {X : Cx} {L : LA}
theorem pe_mkTS {E : L2.St → XK} (T : LX X.K X.mg L) (hx : ∀ σ, L2.PassesAt (L2.CX X.prog X.w) X σ (E σ)) (hr : Room 6 X.A) {p pos : Pos} {e : Expr} {es : List Expr} {t : TA} (hg : Gl X "Trains") (ha : PA X (e :: es) t)
    (he : starEach (e :: es) X.env = (false, eval e X.env) :: starEach es X.env := by rfl) (hpl : (backTo pos (starEach es X.env)).any (·.1) = false := by rfl) :
    PE X (.Call (.Name "Trains" p) (e :: es) [] pos) (fun σ H Q => tMake L.c_Trains (spInitU L) [] (E σ) t σ H Q) := by
  obtain ⟨fd, F, b⟩ := T.in_Trains
  exact pe_mkS T.mk_Trains (FnOk.orX (fn_Trainsinit T F) (EX.fn_Trainsinit T F)) hr hg T.gc_Trains b hx ha (by decide) he hpl
end
theorem Kd.sameK {H H' : Hp} {v : V} {nm : String} (k : Kd H v nm) (s : Same H H') : Kd H' v nm := by
  cases k with
  | non => exact .non
  | bl b => exact .bl b
  | int i => exact .int i
  | str x => exact .str x
  | lst e => exact .lst (s _ _ e)
  | tup e => exact .tup (s _ _ e)
  | dK e => exact .dK (s _ _ e)
theorem TrBad.same {H H' : Hp} {v : V} {i : Int} (h : TrBad H v i) (s : Same H H') : TrBad H' v i := by
  cases h with
  | kind k n => exact .kind (Kd.sameK k s) n
  | many e m => exact .many (s _ _ e) m
  | item e hp hs bt hn ln bad =>
    refine .item (s _ _ e) (hp.same s) hs bt hn ln ?_
    rcases bad with h | h | ⟨t, la, c, tr, r⟩
    · exact .inl h
    · exact .inr (.inl (h.same s))
    · exact .inr (.inr ⟨t, la, c, tr.same s, r⟩)
theorem spInit_mono {C : Addr} {vs : List V} {H : Hp} {Q Q' : VK} {E : XK} (h : spInit C vs H Q E) (m : ∀ v H', Q v H' → Q' v H') : spInit C vs H Q' E := by
  obtain ⟨p, a, xs, ts, n, dx, e, h1, h2, h3, h4, h5, h6, h7, k⟩ := h
  exact ⟨p, a, xs, ts, n, dx, e, h1, h2, h3, h4, h5, h6, h7, fun dx R F A zs H' a1 a2 a3 a4 a5 a6 a7 a8 a9 => m _ _ (k dx R F A zs H' a1 a2 a3 a4 a5 a6 a7 a8 a9)⟩
/-! ### _law_told -/
def spTold (L : LA) : Sp := fun vs H Q _ => ∃ v, vs = [v] ∧ (∀ g, ∃ z, ReprN g H v z) ∧ ((∃ a xs ts n, v = .ref a ∧ H a = some (.lst xs) ∧ Trs H xs ts ∧ Srt ts ∧ (∀ t ∈ ts, BT n t) ∧ n < 5000 ∧ ts.length ≤ 1000 ∧ ∀ H', Same H H' → Q (.str "none") H') ∨ ∃ i, TrBad H v i ∧ ∀ H', Same H H' → Q (.int i) H')
section
variable {P : Program} {w : World} {K : PySem.W.Frag} {mg : Str → Option Value} {base : Heap} {L : LA}
abbrev N_wtold : List Str := ["_law_value", "_law_found", "_law_kept", "error"]
theorem sc_wtold : FnScope N_wtold ["_law_value"] (defScope st__law_told) := ⟨rfl, rfl, rfl, by decide +kernel, rfl, by decide +kernel, by decide +kernel⟩
theorem ok_wtold (T : LX K mg L) : Cal P w K mg base "_law_told" 9 L.f__law_told ["_law_value"] (spTold L) := T.d__law_told.cal fun fd F => by
  have nd := sc_wtold.nd
  refine Toy.Fun.okG F sc_wtold (fun vs H Q E h => ?_) (fun cdv g0 A outer S H vs Q E hgd hr h => ?_)
  · obtain ⟨v, rfl, _⟩ := h
    rfl
  · obtain ⟨v, rfl, rp, alt⟩ := h
    obtain ⟨z, hz⟩ := rp g0
    refine ⟨_, (pss_cons (ps_par (i := 1) (j := 2) (by rfl) nd rfl rfl (by decide) rfl rfl (pa_cons pe_str (pa_cons (pe_callB (call_reprN (g := g0) (by exact hgd) (by exact hr.units)) (by rfl) T.b_repr (by decide +kernel) (pa_cons (pv 0) pa_nil)) pa_nil)) (by rfl))
       (pss_cons (ps_try_mix (Wout := fun _ _ _ _ => False) (tb := fun W D σ H => tMake L.c_Trains (spInitU L) [] (L2.WE W σ) (tCons (tVar 0) tNil) σ H fun _ H' => D.nx σ H') rfl rfl nd takes0 (fun W pn xe tk _ => pss_one (ps_expr (pe_mkTS T (fun σ => L2.passAt tk σ) (hr.mono (by decide)) rfl (pa_cons (pv 0) pa_nil))))
    (.named (i := 3) ⟨rfl, by decide, Or.inl T.ge_InvalidTrains⟩ rfl rfl (fun a oe cls d pn hz hf => by exact (pss_one (ps_set (i := 1) nd rfl (Or.inl rfl) (pe_ifExp (PW.pt (pw_or (pt_val (pe_callB (call_isZ (K := K) (by rfl) hz hf) (by rfl) T.b_isinstance (by decide +kernel) (pa_cons (pv 3) (pa_cons (pe_glob rfl T.ge_InvalidBound rr) pa_nil)))) (pw_or1 (pt_not (pt_val (pe_callB (call_isZ (K := K) (by rfl) hz hf) (by rfl) T.b_isinstance (by decide +kernel) (pa_cons (pv 3) (pa_cons (pe_bltn (by rfl) T.b_ArithmeticError (by decide +kernel : bootBuiltins "ArithmeticError" = some (.type "ArithmeticError")) (v := .ty "ArithmeticError") rfl) pa_nil)))))))) pe_str (pe_xfZ (K := K) (by rfl) hz hf (pv 3))))))
    (.plain ⟨rfl, by decide, Or.inl T.ge_BreakerError⟩ (fun a oe cls d pn hz hf => by exact (pss_one (ps_set (i := 1) nd rfl (Or.inl rfl) pe_str))) .nil)))
       (pss_one (ps_ret (pe_ifExp (pt_cmpR op_eq (pe_callB (call_reprN (g := g0) (by exact hgd) (by exact hr.units)) (by rfl) T.b_repr (by decide +kernel) (pa_cons (pv 0) pa_nil)) (pv 2) (nomark _)) (pv 1) pe_str))))), ?_⟩
    refine ⟨_, rfl, v, z, rfl, hz, ?_⟩
    refine ⟨_, _, rfl, ?_⟩
    refine ⟨_, rfl, fun x dx hx0 hd hne => ?_⟩
    have s0 : Same H (upd (upd H dx (.own x)) x (.ins L.c_Trains dx [])) := fun b o e => by
      rw [upd_ne (ne_of_none e hx0), upd_ne (ne_of_none e hd)]
      exact e
    rcases alt with ⟨a, xs, ts, n, rfl, ha, hx, hs, hb, hn, hl, k⟩ | ⟨i, bad, k⟩
    · refine .inl ?_
      refine spInit_mono (trains_made (Q := fun p H' => TO L.c_Trains H H' p (nfs ts) (n + 1) ∧ Same H H') ha hx hs hb hn hl (fun p H' TO s' => ⟨TO, s'⟩) x dx hx0 hd hne) fun v H' q => ⟨q.1, ?_⟩
      have s' := q.2.2
      have hz' := hz.mv s'
      refine ⟨_, rfl, _, z, rfl, hz', _, rfl, rfl, ?_⟩
      rw [decide_eq_true rfl]
      exact ⟨_, rfl, iteT ⟨_, rfl, k H' s'⟩⟩
    · refine .inr ⟨.ref x, v, i, rfl, bad.same s0, fun dd H' hdd s' => ?_⟩
      have s1 := s0.trans s'
      have hz' := hz.mv s1
      refine ⟨true, exm_of T.xe_InvalidTrains T.te_InvalidTrains T.se_InvalidTrains_InvalidTrains, fun _ a na => ?_, fun z => nomatch z⟩
      refine ⟨_, rfl, ⟨L.e_InvalidTrains, dd, rfl, rfl, T.is_InvalidTrains, .ref L.e_InvalidBound, _, false, _, rfl, hdd, (fun u hu => hu), kit_of T.xe_InvalidBound T.te_InvalidBound T.se_InvalidTrains_InvalidTrains T.se_InvalidTrains_InvalidBound, _, rfl, iteF ?_⟩⟩
      refine ⟨_, rfl, ⟨L.e_InvalidTrains, dd, rfl, rfl, T.is_InvalidTrains, .ty "ArithmeticError", _, true, _, rfl, hdd, (fun u hu => hu), kit_ar (x := "ArithmeticError") (by decide) T.sa_InvalidTrains, _, rfl, iteF ?_⟩⟩
      refine ⟨_, T.xe_InvalidTrains, T.ne_InvalidTrains_at, _, rfl, rfl, rfl, dd, _, _, rfl, hdd, rfl, ⟨_, rfl, _, z, rfl, hz', _, rfl, rfl, ?_⟩⟩
      rw [decide_eq_true rfl]
      exact ⟨_, rfl, iteT ⟨_, rfl, k H' s1⟩⟩
end
/-! ### items that are no trains -/
def trE (e : Int) : PyData := .tuple [.int e, .int 1, .int 1]
theorem shLf {d : PyData} (h : d.canLay0 = true) (hd : d.depth ≤ 3) : SeqAt.shaped d = true := Bool.and_eq_true_iff.mpr ⟨h, decide_eq_true (by omega)⟩
theorem shT {ds : List PyData} (h : PyData.canLayAll0 ds = true) (hd : PyData.depthAll ds ≤ 3) : SeqAt.shaped (.tuple ds) = true := by
  refine Bool.and_eq_true_iff.mpr ⟨?_, decide_eq_true ?_⟩
  · rw [PyData.canLay0]; exact h
  · rw [PyData.depth]; omega
theorem shL {ds : List PyData} (h : PyData.canLayAll0 ds = true) (hd : PyData.depthAll ds ≤ 3) : SeqAt.shaped (.list ds) = true := by
  refine Bool.and_eq_true_iff.mpr ⟨?_, decide_eq_true ?_⟩
  · rw [PyData.canLay0]; exact h
  · rw [PyData.depth]; omega
theorem okS : PyData.strOk "1" = true := by decide +kernel
theorem sqT_sm {K : PySem.W.Frag} {H H' : Hp} {a : Addr} {xs : List V} (s : Same H H') (h : SqT K H a xs) : SqT K H' a xs := h.imp (fun r => r.imp (s _ _) (fun ⟨o, e⟩ => ⟨o, s _ _ e⟩)) _root_.id
theorem sqL_sm {K : PySem.W.Frag} {H H' : Hp} {a : Addr} {xs : List V} (s : Same H H') (h : SqL K H a xs) : SqL K H' a xs := h.imp (fun r => r.imp (s _ _) (fun ⟨o, e⟩ => ⟨o, s _ _ e⟩)) _root_.id
mutual
theorem DpK.same {K : PySem.W.Frag} {H H' : Hp} (s : Same H H') : ∀ {v : V} {d : PyData}, Dp K H v d → Dp K H' v d
  | _, _, .non => .non
  | _, _, .bl b => .bl b
  | _, _, .int i => .int i
  | _, _, .str x => .str x
  | _, _, .lst h t => .lst (sqL_sm s h) (DpAK.same s t)
  | _, _, .tup h t => .tup (sqT_sm s h) (DpAK.same s t)
theorem DpAK.same {K : PySem.W.Frag} {H H' : Hp} (s : Same H H') : ∀ {vs : List V} {ds : List PyData}, DpAll K H vs ds → DpAll K H' vs ds
  | _, _, .nil => .nil
  | _, _, .cons h t => .cons (DpK.same s h) (DpAK.same s t)
end
/-- what repr shows, and shortly -/
def RpOk (H : Hp) (x : V) : Prop := ∀ g, ∃ z, ReprG g H x z ∧ z.length ≤ 6000
theorem len_ite {c : Bool} {a b : Str} {n : Nat} (ha : a.length ≤ n) (hb : b.length ≤ n) : (if c then a else b).length ≤ n := by
  cases c
  · exact hb
  · exact ha
def NeT (K : PySem.W.Frag) (early : Int) (H : Hp) (x : V) : Prop := (∃ d, Dp K H x d ∧ SeqAt.shaped d = true ∧ PyData.eqv d (trE early) = false) ∨ ∃ a, x = .ref a ∧ H a = some (.dK [])
inductive OddT (K : PySem.W.Frag) (early : Int) (H : Hp) : V → Prop
  | mk {x : V} (all : ∀ H', (∀ a o, x = .ref a → H a = some o → H' a = some o) → NoTr H' x ∧ RpOk H' x ∧ NeT K early H' x) : OddT K early H x
  | ear {b : Addr} (e : H b = some (.tup [.int early, .int 1, .int 1])) : OddT K early H (.ref b)
theorem OddT.mv {K : PySem.W.Frag} {early : Int} {H H' : Hp} {x : V} (h : OddT K early H x) (k : ∀ a o, x = .ref a → H a = some o → H' a = some o) : OddT K early H' x := by
  cases h with
  | mk all => exact .mk fun H2 k2 => all H2 fun a o e h => k2 a o e (k a o e h)
  | ear e => exact .ear (k _ _ rfl e)
theorem OddT.same {K : PySem.W.Frag} {early : Int} {H H' : Hp} {x : V} (h : OddT K early H x) (s : Same H H') : OddT K early H' x := h.mv fun a o _ e => s _ _ e
theorem OddT.kp {K : PySem.W.Frag} {early : Int} {H H' : Hp} {x : V} {s : Addr} (h : OddT K early H x) (n : x ≠ .ref s) (k : Kp s H H') : OddT K early H' x := h.mv fun a o e h => k _ _ (fun z => n (by rw [e, z])) h
def spOdd (K : PySem.W.Frag) : Sp := fun vs H Q _ => ∃ (s : Addr) (early : Int) (n : Nat), vs = [.ref s, .int early] ∧ 3 ≤ early ∧ Src H s n ∧ n ≤ 800000 ∧ ∀ x H', OddT K early H' x → x ≠ .ref s → Src H' s (n + 1101) → Kp s H H' → Q x H'
section
variable {P : Program} {w : World} {K : PySem.W.Frag} {mg : Str → Option Value} {base : Heap} {L : LA}
abbrev N_wodd : List Str := ["_law_source", "_law_early", "_law_some"]
theorem sc_wodd : FnScope N_wodd ["_law_source", "_law_early"] (defScope st__law_odd) := ⟨rfl, rfl, rfl, by decide +kernel, rfl, by decide +kernel, by decide +kernel⟩
theorem fn_wodd (T : LX K mg L) {fd : FuncData} (F : Fun K "_law_odd" "_law_odd" st__law_odd L.f__law_odd fd) : FnOk P w K mg base CX0 3 L.f__law_odd fd ["_law_source", "_law_early"] (spOdd K) := by
  have G_wchoice := ok_wchoice (P := P) (w := w) (base := base) T
  have nd := sc_wodd.nd
  refine F.ok sc_wodd (fun vs H Q E h => ?_) (fun cdv A outer S H vs Q E hr h => ?_)
  · obtain ⟨s, early, n, rfl, _⟩ := h
    rfl
  · obtain ⟨s, early, n, rfl, e3, src, hn, k⟩ := h
    refine ⟨_, (pss_cons (ps_set (i := 2) nd rfl (Or.inl rfl) (pe_lst (pa_cons pe_non (pa_cons pe_int (pa_cons pe_str (pa_cons (pe_tup pa_nil) (pa_cons (pe_tup (pa_cons pe_int (pa_cons pe_int pa_nil))) (pa_cons (pe_tup (pa_cons pe_int (pa_cons pe_int (pa_cons pe_int (pa_cons pe_int pa_nil))))) (pa_cons (pe_lst (pa_cons pe_int (pa_cons pe_int (pa_cons pe_int pa_nil)))) (pa_cons (pe_tup (pa_cons (pe_un un_neg pe_int) (pa_cons pe_int (pa_cons pe_int pa_nil)))) (pa_cons (pe_tup (pa_cons pe_int (pa_cons pe_int (pa_cons pe_int pa_nil)))) (pa_cons (pe_tup (pa_cons pe_int (pa_cons pe_int (pa_cons pe_int pa_nil)))) (pa_cons (pe_tup (pa_cons pe_int (pa_cons pe_int (pa_cons (pe_un un_neg pe_int) pa_nil)))) pa_nil)))))))))))))
       (pss_cons (ps_set (i := 2) nd rfl (Or.inl rfl) (pe_op op_cat (pv 2) (pe_lst (pa_cons (pe_tup (pa_cons pe_bl (pa_cons pe_int (pa_cons pe_int pa_nil)))) (pa_cons (pe_tup (pa_cons pe_int (pa_cons pe_bl (pa_cons pe_int pa_nil)))) (pa_cons (pe_tup (pa_cons pe_int (pa_cons pe_int (pa_cons pe_bl pa_nil)))) (pa_cons (pe_tup (pa_cons pe_str (pa_cons pe_int (pa_cons pe_int pa_nil)))) (pa_cons (pe_tup (pa_cons pe_int (pa_cons pe_non (pa_cons pe_int pa_nil)))) (pa_cons (pe_tup (pa_cons pe_non (pa_cons pe_int (pa_cons pe_int pa_nil)))) (pa_cons (pe_tup (pa_cons pe_int (pa_cons pe_int (pa_cons pe_str pa_nil)))) (pa_cons pe_dnewK pa_nil)))))))))))
       (pss_one (ps_ret (pe_c G_wchoice (hr.mono (by decide)) rfl (pa_cons (pv 0) (pa_cons (pe_op op_cat (pv 2) (pe_op op_rep (pe_lst (pa_cons (pe_tup (pa_cons (pv 1) (pa_cons pe_int (pa_cons pe_int pa_nil)))) pa_nil)) pe_int)) pa_nil))))))), ?_⟩
    obtain ⟨H0, hH0⟩ : ∃ H0, H0 = H := ⟨_, rfl⟩
    rw [← hH0] at src k ⊢
    obtain ⟨ys, hy⟩ := src.has
    have f1_0 : OddT K early H0 (.non : V) := OddT.mk (fun H' kp => ⟨.kind .non (by decide), fun g => ⟨_, .plain .non, by decide +kernel⟩, .inl ⟨_, .non, by exact shLf (by simp [PyData.canLay0]) (by simp [PyData.depth]), by simp [trE, PyData.eqv]⟩⟩)
    have f1_1 : OddT K early H0 (.int 5 : V) := OddT.mk (fun H' kp => ⟨.kind (.int _) (by decide), fun g => ⟨_, .plain (.int _ (by decide +kernel)), by decide +kernel⟩, .inl ⟨_, (.int _), by exact shLf (by simp [PyData.canLay0]) (by simp [PyData.depth]), by simp [trE, PyData.eqv]⟩⟩)
    have f1_2 : OddT K early H0 (.str "train" : V) := OddT.mk (fun H' kp => ⟨.kind (.str _) (by decide), fun g => ⟨_, .plain (.str _ (by decide +kernel)), by decide +kernel⟩, .inl ⟨_, (.str _), by exact shLf (by rw [PyData.canLay0]; decide +kernel) (by simp [PyData.depth]), by simp [trE, PyData.eqv]⟩⟩)
    refine ⟨(by show 0 ≤ sizeLine; decide), fun a1 n1 => ?_⟩
    have s1 := Same.upd (o := .tup []) n1
    have e1 : upd H0 a1 (.tup []) a1 = some (.tup []) := upd_same
    generalize upd H0 a1 (.tup []) = H1 at s1 e1 ⊢
    have q1 : a1 ≠ s := (ne_of_none hy n1).symm
    have hy := s1 _ _ hy
    have f1_0 := f1_0.same s1
    have f1_1 := f1_1.same s1
    have f1_2 := f1_2.same s1
    have f1_3 : OddT K early H1 (.ref a1 : V) := OddT.mk (fun H' kp => ⟨.len (kp _ _ rfl e1) (by decide), fun g => ⟨_, .tup (kp _ _ rfl e1) .nil (by decide +kernel), len_ite (by decide +kernel) (by decide +kernel)⟩, .inl ⟨_, (.tup (SqT.of (kp _ _ rfl e1)) .nil), shT (by simp [PyData.canLayAll0, PyData.canLay0]) (by simp [PyData.depthAll, PyData.depth]), by simp [trE, PyData.eqv, PyData.eqvAll]⟩⟩)
    refine ⟨(by show 2 ≤ sizeLine; decide), fun a2 n2 => ?_⟩
    have s2 := Same.upd (o := .tup [.int 1, .int 1]) n2
    have e2 : upd H1 a2 (.tup [.int 1, .int 1]) a2 = some (.tup [.int 1, .int 1]) := upd_same
    generalize upd H1 a2 (.tup [.int 1, .int 1]) = H2 at s2 e2 ⊢
    have q2 : a2 ≠ s := (ne_of_none hy n2).symm
    have hy := s2 _ _ hy
    have f1_0 := f1_0.same s2
    have f1_1 := f1_1.same s2
    have f1_2 := f1_2.same s2
    have f1_3 := f1_3.same s2
    have f1_4 : OddT K early H2 (.ref a2 : V) := OddT.mk (fun H' kp => ⟨.len (kp _ _ rfl e2) (by decide), fun g => ⟨_, .tup (kp _ _ rfl e2) (.cons (.int _ (by decide +kernel)) (.cons (.int _ (by decide +kernel)) .nil)) (by decide +kernel), len_ite (by decide +kernel) (by decide +kernel)⟩, .inl ⟨_, (.tup (SqT.of (kp _ _ rfl e2)) (.cons (.int _) (.cons (.int _) .nil))), shT (by simp [PyData.canLayAll0, PyData.canLay0]) (by simp [PyData.depthAll, PyData.depth]), by simp [trE, PyData.eqv, PyData.eqvAll] <;> omega⟩⟩)
    refine ⟨(by show 4 ≤ sizeLine; decide), fun a3 n3 => ?_⟩
    have s3 := Same.upd (o := .tup [.int 1, .int 1, .int 1, .int 1]) n3
    have e3 : upd H2 a3 (.tup [.int 1, .int 1, .int 1, .int 1]) a3 = some (.tup [.int 1, .int 1, .int 1, .int 1]) := upd_same
    generalize upd H2 a3 (.tup [.int 1, .int 1, .int 1, .int 1]) = H3 at s3 e3 ⊢
    have q3 : a3 ≠ s := (ne_of_none hy n3).symm
    have hy := s3 _ _ hy
    have f1_0 := f1_0.same s3
    have f1_1 := f1_1.same s3
    have f1_2 := f1_2.same s3
    have f1_3 := f1_3.same s3
    have f1_4 := f1_4.same s3
    have f1_5 : OddT K early H3 (.ref a3 : V) := OddT.mk (fun H' kp => ⟨.len (kp _ _ rfl e3) (by decide), fun g => ⟨_, .tup (kp _ _ rfl e3) (.cons (.int _ (by decide +kernel)) (.cons (.int _ (by decide +kernel)) (.cons (.int _ (by decide +kernel)) (.cons (.int _ (by decide +kernel)) .nil)))) (by decide +kernel), len_ite (by decide +kernel) (by decide +kernel)⟩, .inl ⟨_, (.tup (SqT.of (kp _ _ rfl e3)) (.cons (.int _) (.cons (.int _) (.cons (.int _) (.cons (.int _) .nil))))), shT (by simp [PyData.canLayAll0, PyData.canLay0]) (by simp [PyData.depthAll, PyData.depth]), by simp [trE, PyData.eqv, PyData.eqvAll] <;> omega⟩⟩)
    refine ⟨(by show 3 ≤ sizeLine; decide), fun a4 n4 => ?_⟩
    have s4 := Same.upd (o := .lst [.int 1, .int 1, .int 1]) n4
    have e4 : upd H3 a4 (.lst [.int 1, .int 1, .int 1]) a4 = some (.lst [.int 1, .int 1, .int 1]) := upd_same
    generalize upd H3 a4 (.lst [.int 1, .int 1, .int 1]) = H4 at s4 e4 ⊢
    have q4 : a4 ≠ s := (ne_of_none hy n4).symm
    have hy := s4 _ _ hy
    have f1_0 := f1_0.same s4
    have f1_1 := f1_1.same s4
    have f1_2 := f1_2.same s4
    have f1_3 := f1_3.same s4
    have f1_4 := f1_4.same s4
    have f1_5 := f1_5.same s4
    have f1_6 : OddT K early H4 (.ref a4 : V) := OddT.mk (fun H' kp => ⟨.kind (.lst (kp _ _ rfl e4)) (by decide), fun g => ⟨_, .lst (kp _ _ rfl e4) (.cons (.int _ (by decide +kernel)) (.cons (.int _ (by decide +kernel)) (.cons (.int _ (by decide +kernel)) .nil))) (by decide +kernel), len_ite (by decide +kernel) (by decide +kernel)⟩, .inl ⟨_, (.lst (SqL.of (kp _ _ rfl e4)) (.cons (.int _) (.cons (.int _) (.cons (.int _) .nil)))), shL (by simp [PyData.canLayAll0, PyData.canLay0]) (by simp [PyData.depthAll, PyData.depth]), by simp [trE, PyData.eqv]⟩⟩)
    refine ⟨1, rfl, (by show 3 ≤ sizeLine; decide), fun a5 n5 => ?_⟩
    have s5 := Same.upd (o := .tup [.int (-1), .int 1, .int 1]) n5
    have e5 : upd H4 a5 (.tup [.int (-1), .int 1, .int 1]) a5 = some (.tup [.int (-1), .int 1, .int 1]) := upd_same
    generalize upd H4 a5 (.tup [.int (-1), .int 1, .int 1]) = H5 at s5 e5 ⊢
    have q5 : a5 ≠ s := (ne_of_none hy n5).symm
    have hy := s5 _ _ hy
    have f1_0 := f1_0.same s5
    have f1_1 := f1_1.same s5
    have f1_2 := f1_2.same s5
    have f1_3 := f1_3.same s5
    have f1_4 := f1_4.same s5
    have f1_5 := f1_5.same s5
    have f1_6 := f1_6.same s5
    have f1_7 : OddT K early H5 (.ref a5 : V) := OddT.mk (fun H' kp => ⟨.num (kp _ _ rfl e5) (.int _) (.int _) (.int _) (by decide), fun g => ⟨_, .tup (kp _ _ rfl e5) (.cons (.int _ (by decide +kernel)) (.cons (.int _ (by decide +kernel)) (.cons (.int _ (by decide +kernel)) .nil))) (by decide +kernel), len_ite (by decide +kernel) (by decide +kernel)⟩, .inl ⟨_, (.tup (SqT.of (kp _ _ rfl e5)) (.cons (.int _) (.cons (.int _) (.cons (.int _) .nil)))), shT (by simp [PyData.canLayAll0, PyData.canLay0]) (by simp [PyData.depthAll, PyData.depth]), by simp [trE, PyData.eqv, PyData.eqvAll] <;> omega⟩⟩)
    refine ⟨(by show 3 ≤ sizeLine; decide), fun a6 n6 => ?_⟩
    have s6 := Same.upd (o := .tup [.int 1, .int 0, .int 1]) n6
    have e6 : upd H5 a6 (.tup [.int 1, .int 0, .int 1]) a6 = some (.tup [.int 1, .int 0, .int 1]) := upd_same
    generalize upd H5 a6 (.tup [.int 1, .int 0, .int 1]) = H6 at s6 e6 ⊢
    have q6 : a6 ≠ s := (ne_of_none hy n6).symm
    have hy := s6 _ _ hy
    have f1_0 := f1_0.same s6
    have f1_1 := f1_1.same s6
    have f1_2 := f1_2.same s6
    have f1_3 := f1_3.same s6
    have f1_4 := f1_4.same s6
    have f1_5 := f1_5.same s6
    have f1_6 := f1_6.same s6
    have f1_7 := f1_7.same s6
    have f1_8 : OddT K early H6 (.ref a6 : V) := OddT.mk (fun H' kp => ⟨.num (kp _ _ rfl e6) (.int _) (.int _) (.int _) (by decide), fun g => ⟨_, .tup (kp _ _ rfl e6) (.cons (.int _ (by decide +kernel)) (.cons (.int _ (by decide +kernel)) (.cons (.int _ (by decide +kernel)) .nil))) (by decide +kernel), len_ite (by decide +kernel) (by decide +kernel)⟩, .inl ⟨_, (.tup (SqT.of (kp _ _ rfl e6)) (.cons (.int _) (.cons (.int _) (.cons (.int _) .nil)))), shT (by simp [PyData.canLayAll0, PyData.canLay0]) (by simp [PyData.depthAll, PyData.depth]), by simp [trE, PyData.eqv, PyData.eqvAll] <;> omega⟩⟩)
    refine ⟨(by show 3 ≤ sizeLine; decide), fun a7 n7 => ?_⟩
    have s7 := Same.upd (o := .tup [.int 1, .int 1, .int 0]) n7
    have e7 : upd H6 a7 (.tup [.int 1, .int 1, .int 0]) a7 = some (.tup [.int 1, .int 1, .int 0]) := upd_same
    generalize upd H6 a7 (.tup [.int 1, .int 1, .int 0]) = H7 at s7 e7 ⊢
    have q7 : a7 ≠ s := (ne_of_none hy n7).symm
    have hy := s7 _ _ hy
    have f1_0 := f1_0.same s7
    have f1_1 := f1_1.same s7
    have f1_2 := f1_2.same s7
    have f1_3 := f1_3.same s7
    have f1_4 := f1_4.same s7
    have f1_5 := f1_5.same s7
    have f1_6 := f1_6.same s7
    have f1_7 := f1_7.same s7
    have f1_8 := f1_8.same s7
    have f1_9 : OddT K early H7 (.ref a7 : V) := OddT.mk (fun H' kp => ⟨.num (kp _ _ rfl e7) (.int _) (.int _) (.int _) (by decide), fun g => ⟨_, .tup (kp _ _ rfl e7) (.cons (.int _ (by decide +kernel)) (.cons (.int _ (by decide +kernel)) (.cons (.int _ (by decide +kernel)) .nil))) (by decide +kernel), len_ite (by decide +kernel) (by decide +kernel)⟩, .inl ⟨_, (.tup (SqT.of (kp _ _ rfl e7)) (.cons (.int _) (.cons (.int _) (.cons (.int _) .nil)))), shT (by simp [PyData.canLayAll0, PyData.canLay0]) (by simp [PyData.depthAll, PyData.depth]), by simp [trE, PyData.eqv, PyData.eqvAll] <;> omega⟩⟩)
    refine ⟨1, rfl, (by show 3 ≤ sizeLine; decide), fun a8 n8 => ?_⟩
    have s8 := Same.upd (o := .tup [.int 1, .int 1, .int (-1)]) n8
    have e8 : upd H7 a8 (.tup [.int 1, .int 1, .int (-1)]) a8 = some (.tup [.int 1, .int 1, .int (-1)]) := upd_same
    generalize upd H7 a8 (.tup [.int 1, .int 1, .int (-1)]) = H8 at s8 e8 ⊢
    have q8 : a8 ≠ s := (ne_of_none hy n8).symm
    have hy := s8 _ _ hy
    have f1_0 := f1_0.same s8
    have f1_1 := f1_1.same s8
    have f1_2 := f1_2.same s8
    have f1_3 := f1_3.same s8
    have f1_4 := f1_4.same s8
    have f1_5 := f1_5.same s8
    have f1_6 := f1_6.same s8
    have f1_7 := f1_7.same s8
    have f1_8 := f1_8.same s8
    have f1_9 := f1_9.same s8
    have f1_10 : OddT K early H8 (.ref a8 : V) := OddT.mk (fun H' kp => ⟨.num (kp _ _ rfl e8) (.int _) (.int _) (.int _) (by decide), fun g => ⟨_, .tup (kp _ _ rfl e8) (.cons (.int _ (by decide +kernel)) (.cons (.int _ (by decide +kernel)) (.cons (.int _ (by decide +kernel)) .nil))) (by decide +kernel), len_ite (by decide +kernel) (by decide +kernel)⟩, .inl ⟨_, (.tup (SqT.of (kp _ _ rfl e8)) (.cons (.int _) (.cons (.int _) (.cons (.int _) .nil)))), shT (by simp [PyData.canLayAll0, PyData.canLay0]) (by simp [PyData.depthAll, PyData.depth]), by simp [trE, PyData.eqv, PyData.eqvAll] <;> omega⟩⟩)
    refine ⟨(by show 11 ≤ sizeLine; decide), fun a9 n9 => ?_⟩
    have s9 := Same.upd (o := .lst [(.non : V), (.int 5 : V), (.str "train" : V), (.ref a1 : V), (.ref a2 : V), (.ref a3 : V), (.ref a4 : V), (.ref a5 : V), (.ref a6 : V), (.ref a7 : V), (.ref a8 : V)]) n9
    have e9 : upd H8 a9 (.lst [(.non : V), (.int 5 : V), (.str "train" : V), (.ref a1 : V), (.ref a2 : V), (.ref a3 : V), (.ref a4 : V), (.ref a5 : V), (.ref a6 : V), (.ref a7 : V), (.ref a8 : V)]) a9 = some (.lst [(.non : V), (.int 5 : V), (.str "train" : V), (.ref a1 : V), (.ref a2 : V), (.ref a3 : V), (.ref a4 : V), (.ref a5 : V), (.ref a6 : V), (.ref a7 : V), (.ref a8 : V)]) := upd_same
    generalize upd H8 a9 (.lst [(.non : V), (.int 5 : V), (.str "train" : V), (.ref a1 : V), (.ref a2 : V), (.ref a3 : V), (.ref a4 : V), (.ref a5 : V), (.ref a6 : V), (.ref a7 : V), (.ref a8 : V)]) = H9 at s9 e9 ⊢
    have q9 : a9 ≠ s := (ne_of_none hy n9).symm
    have hy := s9 _ _ hy
    have f1_0 := f1_0.same s9
    have f1_1 := f1_1.same s9
    have f1_2 := f1_2.same s9
    have f1_3 := f1_3.same s9
    have f1_4 := f1_4.same s9
    have f1_5 := f1_5.same s9
    have f1_6 := f1_6.same s9
    have f1_7 := f1_7.same s9
    have f1_8 := f1_8.same s9
    have f1_9 := f1_9.same s9
    have f1_10 := f1_10.same s9
    have g1 : ∀ x ∈ [(.non : V), (.int 5 : V), (.str "train" : V), (.ref a1 : V), (.ref a2 : V), (.ref a3 : V), (.ref a4 : V), (.ref a5 : V), (.ref a6 : V), (.ref a7 : V), (.ref a8 : V)], OddT K early H9 x ∧ x ≠ .ref s := fun x hx => by
      simp only [List.mem_cons, List.mem_nil_iff, or_false] at hx
      rcases hx with rfl | rfl | rfl | rfl | rfl | rfl | rfl | rfl | rfl | rfl | rfl
      · exact ⟨f1_0, (fun z => (nomatch z))⟩
      · exact ⟨f1_1, (fun z => (nomatch z))⟩
      · exact ⟨f1_2, (fun z => (nomatch z))⟩
      · exact ⟨f1_3, (fun z => q1 (V.ref.inj z))⟩
      · exact ⟨f1_4, (fun z => q2 (V.ref.inj z))⟩
      · exact ⟨f1_5, (fun z => q3 (V.ref.inj z))⟩
      · exact ⟨f1_6, (fun z => q4 (V.ref.inj z))⟩
      · exact ⟨f1_7, (fun z => q5 (V.ref.inj z))⟩
      · exact ⟨f1_8, (fun z => q6 (V.ref.inj z))⟩
      · exact ⟨f1_9, (fun z => q7 (V.ref.inj z))⟩
      · exact ⟨f1_10, (fun z => q8 (V.ref.inj z))⟩
    generalize hL1 : [(.non : V), (.int 5 : V), (.str "train" : V), (.ref a1 : V), (.ref a2 : V), (.ref a3 : V), (.ref a4 : V), (.ref a5 : V), (.ref a6 : V), (.ref a7 : V), (.ref a8 : V)] = L1 at e9 g1
    have l1 : L1.length = 11 := by rw [← hL1]; rfl
    refine ⟨_, rfl, ?_⟩
    refine ⟨(by show 3 ≤ sizeLine; decide), fun a10 n10 => ?_⟩
    have s10 := Same.upd (o := .tup [.bl true, .int 1, .int 1]) n10
    have e10 : upd H9 a10 (.tup [.bl true, .int 1, .int 1]) a10 = some (.tup [.bl true, .int 1, .int 1]) := upd_same
    generalize upd H9 a10 (.tup [.bl true, .int 1, .int 1]) = H10 at s10 e10 ⊢
    have q10 : a10 ≠ s := (ne_of_none hy n10).symm
    have hy := s10 _ _ hy
    have g1 := fun x hx => (⟨(g1 x hx).1.same s10, (g1 x hx).2⟩ : OddT K early H10 x ∧ x ≠ .ref s)
    have e9 := s10 _ _ e9
    have h0 : OddT K early H10 (.ref a10 : V) := OddT.mk (fun H' kp => ⟨.num (kp _ _ rfl e10) (.bl _) (.int _) (.int _) (by decide), fun g => ⟨_, .tup (kp _ _ rfl e10) (.cons (.bl _) (.cons (.int _ (by decide +kernel)) (.cons (.int _ (by decide +kernel)) .nil))) (by decide +kernel), len_ite (by decide +kernel) (by decide +kernel)⟩, .inl ⟨_, (.tup (SqT.of (kp _ _ rfl e10)) (.cons (.bl _) (.cons (.int _) (.cons (.int _) .nil)))), shT (by simp [PyData.canLayAll0, PyData.canLay0]) (by simp [PyData.depthAll, PyData.depth]), by simp [trE, PyData.eqv, PyData.eqvAll] <;> omega⟩⟩)
    refine ⟨(by show 3 ≤ sizeLine; decide), fun a11 n11 => ?_⟩
    have s11 := Same.upd (o := .tup [.int 1, .bl true, .int 1]) n11
    have e11 : upd H10 a11 (.tup [.int 1, .bl true, .int 1]) a11 = some (.tup [.int 1, .bl true, .int 1]) := upd_same
    generalize upd H10 a11 (.tup [.int 1, .bl true, .int 1]) = H11 at s11 e11 ⊢
    have q11 : a11 ≠ s := (ne_of_none hy n11).symm
    have hy := s11 _ _ hy
    have g1 := fun x hx => (⟨(g1 x hx).1.same s11, (g1 x hx).2⟩ : OddT K early H11 x ∧ x ≠ .ref s)
    have e9 := s11 _ _ e9
    have h0 := h0.same s11
    have h1 : OddT K early H11 (.ref a11 : V) := OddT.mk (fun H' kp => ⟨.num (kp _ _ rfl e11) (.int _) (.bl _) (.int _) (by decide), fun g => ⟨_, .tup (kp _ _ rfl e11) (.cons (.int _ (by decide +kernel)) (.cons (.bl _) (.cons (.int _ (by decide +kernel)) .nil))) (by decide +kernel), len_ite (by decide +kernel) (by decide +kernel)⟩, .inl ⟨_, (.tup (SqT.of (kp _ _ rfl e11)) (.cons (.int _) (.cons (.bl _) (.cons (.int _) .nil)))), shT (by simp [PyData.canLayAll0, PyData.canLay0]) (by simp [PyData.depthAll, PyData.depth]), by simp [trE, PyData.eqv, PyData.eqvAll] <;> omega⟩⟩)
    refine ⟨(by show 3 ≤ sizeLine; decide), fun a12 n12 => ?_⟩
    have s12 := Same.upd (o := .tup [.int 1, .int 1, .bl true]) n12
    have e12 : upd H11 a12 (.tup [.int 1, .int 1, .bl true]) a12 = some (.tup [.int 1, .int 1, .bl true]) := upd_same
    generalize upd H11 a12 (.tup [.int 1, .int 1, .bl true]) = H12 at s12 e12 ⊢
    have q12 : a12 ≠ s := (ne_of_none hy n12).symm
    have hy := s12 _ _ hy
    have g1 := fun x hx => (⟨(g1 x hx).1.same s12, (g1 x hx).2⟩ : OddT K early H12 x ∧ x ≠ .ref s)
    have e9 := s12 _ _ e9
    have h0 := h0.same s12
    have h1 := h1.same s12
    have h2 : OddT K early H12 (.ref a12 : V) := OddT.mk (fun H' kp => ⟨.num (kp _ _ rfl e12) (.int _) (.int _) (.bl _) (by decide), fun g => ⟨_, .tup (kp _ _ rfl e12) (.cons (.int _ (by decide +kernel)) (.cons (.int _ (by decide +kernel)) (.cons (.bl _) .nil))) (by decide +kernel), len_ite (by decide +kernel) (by decide +kernel)⟩, .inl ⟨_, (.tup (SqT.of (kp _ _ rfl e12)) (.cons (.int _) (.cons (.int _) (.cons (.bl _) .nil)))), shT (by simp [PyData.canLayAll0, PyData.canLay0]) (by simp [PyData.depthAll, PyData.depth]), by simp [trE, PyData.eqv, PyData.eqvAll] <;> omega⟩⟩)
    refine ⟨(by show 3 ≤ sizeLine; decide), fun a13 n13 => ?_⟩
    have s13 := Same.upd (o := .tup [.str "1", .int 1, .int 1]) n13
    have e13 : upd H12 a13 (.tup [.str "1", .int 1, .int 1]) a13 = some (.tup [.str "1", .int 1, .int 1]) := upd_same
    generalize upd H12 a13 (.tup [.str "1", .int 1, .int 1]) = H13 at s13 e13 ⊢
    have q13 : a13 ≠ s := (ne_of_none hy n13).symm
    have hy := s13 _ _ hy
    have g1 := fun x hx => (⟨(g1 x hx).1.same s13, (g1 x hx).2⟩ : OddT K early H13 x ∧ x ≠ .ref s)
    have e9 := s13 _ _ e9
    have h0 := h0.same s13
    have h1 := h1.same s13
    have h2 := h2.same s13
    have h3 : OddT K early H13 (.ref a13 : V) := OddT.mk (fun H' kp => ⟨.num (kp _ _ rfl e13) (.str _) (.int _) (.int _) (by decide), fun g => ⟨_, .tup (kp _ _ rfl e13) (.cons (.str _ (by decide +kernel)) (.cons (.int _ (by decide +kernel)) (.cons (.int _ (by decide +kernel)) .nil))) (by decide +kernel), len_ite (by decide +kernel) (by decide +kernel)⟩, .inl ⟨_, (.tup (SqT.of (kp _ _ rfl e13)) (.cons (.str _) (.cons (.int _) (.cons (.int _) .nil)))), shT (by simp [PyData.canLayAll0, PyData.canLay0, okS]) (by simp [PyData.depthAll, PyData.depth]), by simp [trE, PyData.eqv, PyData.eqvAll]⟩⟩)
    refine ⟨(by show 3 ≤ sizeLine; decide), fun a14 n14 => ?_⟩
    have s14 := Same.upd (o := .tup [.int 1, .non, .int 1]) n14
    have e14 : upd H13 a14 (.tup [.int 1, .non, .int 1]) a14 = some (.tup [.int 1, .non, .int 1]) := upd_same
    generalize upd H13 a14 (.tup [.int 1, .non, .int 1]) = H14 at s14 e14 ⊢
    have q14 : a14 ≠ s := (ne_of_none hy n14).symm
    have hy := s14 _ _ hy
    have g1 := fun x hx => (⟨(g1 x hx).1.same s14, (g1 x hx).2⟩ : OddT K early H14 x ∧ x ≠ .ref s)
    have e9 := s14 _ _ e9
    have h0 := h0.same s14
    have h1 := h1.same s14
    have h2 := h2.same s14
    have h3 := h3.same s14
    have h4 : OddT K early H14 (.ref a14 : V) := OddT.mk (fun H' kp => ⟨.num (kp _ _ rfl e14) (.int _) .non (.int _) (by decide), fun g => ⟨_, .tup (kp _ _ rfl e14) (.cons (.int _ (by decide +kernel)) (.cons .non (.cons (.int _ (by decide +kernel)) .nil))) (by decide +kernel), len_ite (by decide +kernel) (by decide +kernel)⟩, .inl ⟨_, (.tup (SqT.of (kp _ _ rfl e14)) (.cons (.int _) (.cons .non (.cons (.int _) .nil)))), shT (by simp [PyData.canLayAll0, PyData.canLay0]) (by simp [PyData.depthAll, PyData.depth]), by simp [trE, PyData.eqv, PyData.eqvAll] <;> omega⟩⟩)
    refine ⟨(by show 3 ≤ sizeLine; decide), fun a15 n15 => ?_⟩
    have s15 := Same.upd (o := .tup [.non, .int 1, .int 1]) n15
    have e15 : upd H14 a15 (.tup [.non, .int 1, .int 1]) a15 = some (.tup [.non, .int 1, .int 1]) := upd_same
    generalize upd H14 a15 (.tup [.non, .int 1, .int 1]) = H15 at s15 e15 ⊢
    have q15 : a15 ≠ s := (ne_of_none hy n15).symm
    have hy := s15 _ _ hy
    have g1 := fun x hx => (⟨(g1 x hx).1.same s15, (g1 x hx).2⟩ : OddT K early H15 x ∧ x ≠ .ref s)
    have e9 := s15 _ _ e9
    have h0 := h0.same s15
    have h1 := h1.same s15
    have h2 := h2.same s15
    have h3 := h3.same s15
    have h4 := h4.same s15
    have h5 : OddT K early H15 (.ref a15 : V) := OddT.mk (fun H' kp => ⟨.num (kp _ _ rfl e15) .non (.int _) (.int _) (by decide), fun g => ⟨_, .tup (kp _ _ rfl e15) (.cons .non (.cons (.int _ (by decide +kernel)) (.cons (.int _ (by decide +kernel)) .nil))) (by decide +kernel), len_ite (by decide +kernel) (by decide +kernel)⟩, .inl ⟨_, (.tup (SqT.of (kp _ _ rfl e15)) (.cons .non (.cons (.int _) (.cons (.int _) .nil)))), shT (by simp [PyData.canLayAll0, PyData.canLay0]) (by simp [PyData.depthAll, PyData.depth]), by simp [trE, PyData.eqv, PyData.eqvAll]⟩⟩)
    refine ⟨(by show 3 ≤ sizeLine; decide), fun a16 n16 => ?_⟩
    have s16 := Same.upd (o := .tup [.int 1, .int 1, .str "1"]) n16
    have e16 : upd H15 a16 (.tup [.int 1, .int 1, .str "1"]) a16 = some (.tup [.int 1, .int 1, .str "1"]) := upd_same
    generalize upd H15 a16 (.tup [.int 1, .int 1, .str "1"]) = H16 at s16 e16 ⊢
    have q16 : a16 ≠ s := (ne_of_none hy n16).symm
    have hy := s16 _ _ hy
    have g1 := fun x hx => (⟨(g1 x hx).1.same s16, (g1 x hx).2⟩ : OddT K early H16 x ∧ x ≠ .ref s)
    have e9 := s16 _ _ e9
    have h0 := h0.same s16
    have h1 := h1.same s16
    have h2 := h2.same s16
    have h3 := h3.same s16
    have h4 := h4.same s16
    have h5 := h5.same s16
    have h6 : OddT K early H16 (.ref a16 : V) := OddT.mk (fun H' kp => ⟨.num (kp _ _ rfl e16) (.int _) (.int _) (.str _) (by decide), fun g => ⟨_, .tup (kp _ _ rfl e16) (.cons (.int _ (by decide +kernel)) (.cons (.int _ (by decide +kernel)) (.cons (.str _ (by decide +kernel)) .nil))) (by decide +kernel), len_ite (by decide +kernel) (by decide +kernel)⟩, .inl ⟨_, (.tup (SqT.of (kp _ _ rfl e16)) (.cons (.int _) (.cons (.int _) (.cons (.str _) .nil)))), shT (by simp [PyData.canLayAll0, PyData.canLay0, okS]) (by simp [PyData.depthAll, PyData.depth]), by simp [trE, PyData.eqv, PyData.eqvAll] <;> omega⟩⟩)
    refine fun a17 n17 => ?_
    have s17 := Same.upd (o := .dK []) n17
    have e17 : upd H16 a17 (.dK []) a17 = some (.dK []) := upd_same
    generalize upd H16 a17 (.dK []) = H17 at s17 e17 ⊢
    have q17 : a17 ≠ s := (ne_of_none hy n17).symm
    have hy := s17 _ _ hy
    have g1 := fun x hx => (⟨(g1 x hx).1.same s17, (g1 x hx).2⟩ : OddT K early H17 x ∧ x ≠ .ref s)
    have e9 := s17 _ _ e9
    have h0 := h0.same s17
    have h1 := h1.same s17
    have h2 := h2.same s17
    have h3 := h3.same s17
    have h4 := h4.same s17
    have h5 := h5.same s17
    have h6 := h6.same s17
    have h7 : OddT K early H17 (.ref a17 : V) := OddT.mk (fun H' kp => ⟨.kind (.dK (kp _ _ rfl e17)) (by decide), fun g => ⟨_, .dic (kp _ _ rfl e17), len_ite (by decide +kernel) (by decide +kernel)⟩, .inr ⟨_, rfl, kp _ _ rfl e17⟩⟩)
    refine ⟨(by show 8 ≤ sizeLine; decide), fun a18 n18 => ?_⟩
    have s18 := Same.upd (o := .lst [(.ref a10 : V), (.ref a11 : V), (.ref a12 : V), (.ref a13 : V), (.ref a14 : V), (.ref a15 : V), (.ref a16 : V), (.ref a17 : V)]) n18
    have e18 : upd H17 a18 (.lst [(.ref a10 : V), (.ref a11 : V), (.ref a12 : V), (.ref a13 : V), (.ref a14 : V), (.ref a15 : V), (.ref a16 : V), (.ref a17 : V)]) a18 = some (.lst [(.ref a10 : V), (.ref a11 : V), (.ref a12 : V), (.ref a13 : V), (.ref a14 : V), (.ref a15 : V), (.ref a16 : V), (.ref a17 : V)]) := upd_same
    generalize upd H17 a18 (.lst [(.ref a10 : V), (.ref a11 : V), (.ref a12 : V), (.ref a13 : V), (.ref a14 : V), (.ref a15 : V), (.ref a16 : V), (.ref a17 : V)]) = H18 at s18 e18 ⊢
    have q18 : a18 ≠ s := (ne_of_none hy n18).symm
    have hy := s18 _ _ hy
    have g1 := fun x hx => (⟨(g1 x hx).1.same s18, (g1 x hx).2⟩ : OddT K early H18 x ∧ x ≠ .ref s)
    have e9 := s18 _ _ e9
    have h0 := h0.same s18
    have h1 := h1.same s18
    have h2 := h2.same s18
    have h3 := h3.same s18
    have h4 := h4.same s18
    have h5 := h5.same s18
    have h6 := h6.same s18
    have h7 := h7.same s18
    have g2 : ∀ x ∈ [(.ref a10 : V), (.ref a11 : V), (.ref a12 : V), (.ref a13 : V), (.ref a14 : V), (.ref a15 : V), (.ref a16 : V), (.ref a17 : V)], OddT K early H18 x ∧ x ≠ .ref s := fun x hx => by
      simp only [List.mem_cons, List.mem_nil_iff, or_false] at hx
      rcases hx with rfl | rfl | rfl | rfl | rfl | rfl | rfl | rfl
      · exact ⟨h0, (fun z => q10 (V.ref.inj z))⟩
      · exact ⟨h1, (fun z => q11 (V.ref.inj z))⟩
      · exact ⟨h2, (fun z => q12 (V.ref.inj z))⟩
      · exact ⟨h3, (fun z => q13 (V.ref.inj z))⟩
      · exact ⟨h4, (fun z => q14 (V.ref.inj z))⟩
      · exact ⟨h5, (fun z => q15 (V.ref.inj z))⟩
      · exact ⟨h6, (fun z => q16 (V.ref.inj z))⟩
      · exact ⟨h7, (fun z => q17 (V.ref.inj z))⟩
    generalize hL2 : [(.ref a10 : V), (.ref a11 : V), (.ref a12 : V), (.ref a13 : V), (.ref a14 : V), (.ref a15 : V), (.ref a16 : V), (.ref a17 : V)] = L2 at e18 g2
    have l2 : L2.length = 8 := by rw [← hL2]; rfl
    refine ⟨a9, a18, L1, L2, rfl, rfl, e9, e18, small2 (by rw [l1, l2]; decide), fun lc nlc => ?_⟩
    have sc := Same.upd (o := .lst (L1 ++ L2)) nlc
    have g3 : ∀ x ∈ L1 ++ L2, OddT K early H18 x ∧ x ≠ .ref s := fun x hx => (List.mem_append.mp hx).elim (g1 x) (g2 x)
    have hz := hy
    obtain ⟨HB, hHB⟩ : ∃ HB, HB = H18 := ⟨_, rfl⟩
    rw [← hHB] at g3 sc hz nlc ⊢
    have sAll : Same H0 HB := hHB ▸ (((((((((((((((((s1.trans s2).trans s3).trans s4).trans s5).trans s6).trans s7).trans s8).trans s9).trans s10).trans s11).trans s12).trans s13).trans s14).trans s15).trans s16).trans s17).trans s18)
    have hC : upd HB lc (.lst (L1 ++ L2)) lc = some (.lst (L1 ++ L2)) := upd_same
    generalize upd HB lc (.lst (L1 ++ L2)) = HC at sc hC ⊢
    refine ⟨_, rfl, _, rfl, _, rfl, (by show 3 ≤ sizeLine; decide), fun tb ntb => ⟨(by show 1 ≤ sizeLine; decide), fun tl ntl => ?_⟩⟩
    have u1 := Same.upd (o := .tup [.int early, .int 1, .int 1]) ntb
    have u2 := Same.upd (o := .lst [.ref tb]) ntl
    have et := u2 _ _ (upd_same (a := tb) (o := .tup [.int early, .int 1, .int 1]) (H := HC))
    have el : upd (upd HC tb (.tup [.int early, .int 1, .int 1])) tl (.lst [.ref tb]) tl = some (.lst [.ref tb]) := upd_same
    have u12 := u1.trans u2
    generalize upd (upd HC tb (.tup [.int early, .int 1, .int 1])) tl (.lst [.ref tb]) = HD at et el u12 ⊢
    refine ⟨tl, 6, [.ref tb], rfl, rfl, el, by decide, by decide, (by show 1 * 6 ≤ sizeLine; decide), fun tr ntr => ?_⟩
    have u3 := Same.upd (o := .lst (List.replicate (6 : Int).toNat [V.ref tb]).flatten) ntr
    have er : upd HD tr (.lst (List.replicate (6 : Int).toNat [V.ref tb]).flatten) tr = some (.lst (List.replicate (6 : Int).toNat [V.ref tb]).flatten) := upd_same
    generalize upd HD tr (.lst (List.replicate (6 : Int).toNat [V.ref tb]).flatten) = HE at u3 er ⊢
    have uCE := u12.trans u3
    refine ⟨lc, tr, L1 ++ L2, _, rfl, rfl, uCE _ _ hC, er, small2 (by rw [List.length_append, l1, l2]; show 11 + 8 + 6 ≤ 100000; decide), fun lf nlf => ?_⟩
    have u4 := Same.upd (o := .lst ((L1 ++ L2) ++ (List.replicate (6 : Int).toNat [V.ref tb]).flatten)) nlf
    have ef : upd HE lf (.lst ((L1 ++ L2) ++ (List.replicate (6 : Int).toNat [V.ref tb]).flatten)) lf = some (.lst ((L1 ++ L2) ++ (List.replicate (6 : Int).toNat [V.ref tb]).flatten)) := upd_same
    generalize upd HE lf (.lst ((L1 ++ L2) ++ (List.replicate (6 : Int).toNat [V.ref tb]).flatten)) = HF at u4 ef ⊢
    have uBF := (sc.trans uCE).trans u4
    have hyF := uBF _ _ hz
    have g4 : ∀ x ∈ (L1 ++ L2) ++ (List.replicate (6 : Int).toNat [V.ref tb]).flatten, OddT K early HF x ∧ x ≠ .ref s := fun x hx => by
      rcases List.mem_append.mp hx with hx | hx
      · exact ⟨(g3 x hx).1.same uBF, (g3 x hx).2⟩
      · have hx : x ∈ [V.ref tb, V.ref tb, V.ref tb, V.ref tb, V.ref tb, V.ref tb] := hx
        have e : x = .ref tb := by
          simp only [List.mem_cons, List.mem_nil_iff, or_false, or_self] at hx
          exact hx
        subst e
        refine ⟨.ear (u4 _ _ (u3 _ _ et)), fun z => ?_⟩
        have z := V.ref.inj z
        have := sc _ _ hz
        rw [← z, ntb] at this
        cases this
    have nsl : s ≠ lf := fun z => by
      have := uCE _ _ (sc _ _ hz)
      rw [z, nlf] at this
      cases this
    refine ⟨s, lf, _, n, rfl, nsl, ef, (by rw [List.length_append, List.length_append, l1, l2]; show 0 < 11 + 8 + 6; decide), (by rw [List.length_append, List.length_append, l1, l2]; show 11 + 8 + 6 ≤ 100000; decide), (src.same sAll).same uBF, by omega, fun v H' hv src' kp => ?_⟩
    exact k v H' ((g4 v hv).1.kp (g4 v hv).2 kp) (g4 v hv).2 src' ((Kp.of (sAll.trans uBF)).trans kp)
theorem ok_wodd (T : LX K mg L) : Cal P w K mg base "_law_odd" 3 L.f__law_odd ["_law_source", "_law_early"] (spOdd K) := T.d__law_odd.cal fun fd F => fn_wodd T F
end
/-! ### k09: what repr shows of the law's lists -/
theorem ReprG.ex {g : List Code} {H : Hp} {b : Addr} {z : Str} (h : ReprG g H (.ref b) z) : H b ≠ none := by
  intro n
  cases h with
  | plain h => cases h
  | lst e => rw [n] at e; cases e
  | tup e => rw [n] at e; cases e
  | dic e => rw [n] at e; cases e
theorem RpOk.same {H H' : Hp} {x : V} (h : RpOk H x) (s : Same H H') : RpOk H' x := fun g => by
  obtain ⟨z, hz, hl⟩ := h g
  exact ⟨z, hz.mv fun a o _ e _ => s _ _ e, hl⟩
theorem rp_pair {g : List Code} {H : Hp} : ∀ {xs : List V}, (∀ x ∈ xs, RpOk H x) → ∃ zs, Paired (ReprG g H) xs zs ∧ (zs.map (·.length)).sum ≤ 6000 * xs.length
  | [], _ => ⟨[], .nil, Nat.le_refl _⟩
  | x :: xs, h => by
    obtain ⟨z, hz, hl⟩ := h x (List.mem_cons_self ..) g
    obtain ⟨zs, hp, hs⟩ := rp_pair (xs := xs) fun y hy => h y (List.mem_cons_of_mem _ hy)
    refine ⟨z :: zs, .cons hz hp, ?_⟩
    rw [List.map_cons, List.sum_cons, List.length_cons]
    omega
theorem rp_out {H0 H : Hp} {a : Addr} {xs : List V} (na : H0 a = none) (h : ∀ x ∈ xs, RpOk H0 x) : V.ref a ∉ xs := fun m => by
  obtain ⟨z, hz, _⟩ := h _ m []
  exact hz.ex na
theorem rp_lst {H0 H : Hp} {a : Addr} {xs : List V} (na : H0 a = none) (s : Same H0 H) (e : H a = some (.lst xs)) (ne : xs ≠ []) (ln : xs.length ≤ 2000) (h : ∀ x ∈ xs, RpOk H0 x) : ∀ g, ∃ z, ReprN g H (.ref a) z := fun g => by
  obtain ⟨zs, hp, hs⟩ := rp_pair (g := g) fun x m => (h x m).same s
  have l1 := listText_len_le zs
  have l2 := paired_len hp
  have sz : 6002 * 2000 + 3 ≤ sizeLine := by decide
  cases xs with
  | nil => exact absurd rfl ne
  | cons x r => exact ⟨_, .lst e hp (rp_out (H := H) na h) (by omega)⟩
theorem rp_tup {H0 H : Hp} {a : Addr} {xs : List V} (na : H0 a = none) (s : Same H0 H) (e : H a = some (.tup xs)) (ln : xs.length ≤ 2000) (h : ∀ x ∈ xs, RpOk H0 x) : ∀ g, ∃ z, ReprN g H (.ref a) z := fun g => by
  obtain ⟨zs, hp, hs⟩ := rp_pair (g := g) fun x m => (h x m).same s
  have l1 := tupleText_len_le zs
  have l2 := paired_len hp
  have sz : 6002 * 2000 + 3 ≤ sizeLine := by decide
  exact ⟨_, .tup e hp (rp_out (H := H) na h) (by omega)⟩
theorem rp_int {i : Int} {n : Nat} (h : i.natAbs < 2 ^ n) (hn : n ≤ 1900) (n0 : 0 < n) : i.natAbs.log2 < 1900 := by
  by_cases z : i.natAbs = 0
  · rw [z]; decide
  · exact Nat.lt_of_lt_of_le ((Nat.log2_lt z).mpr h) hn
theorem rp_tr3 {H : Hp} {b : Addr} {x y : Int} {c : Option Int} (e : H b = some (.tup [.int x, .int y, cV c])) (hx : x.natAbs.log2 < 1900) (hy : y.natAbs.log2 < 1900) (hc : ∀ k, c = some k → k.natAbs.log2 < 1900) : RpOk H (.ref b) := fun g => by
  have li : ∀ {i : Int}, i.natAbs.log2 < 1900 → (((toString i : String) : Str)).length ≤ 1901 := fun {i} h => by
    show (Str.ofString (toString i)).length ≤ 1901
    rw [ofString_length]
    exact int_text_length_le (by decide) h
  have lx := li hx
  have ly := li hy
  have fin : ∀ {tc : Str} {v : V}, ReprV v tc → tc.length ≤ 1901 → H b = some (.tup [.int x, .int y, v]) → ∃ z, ReprG g H (.ref b) z ∧ z.length ≤ 6000 := fun {tc v} hv hl e => by
    have l := tupleText_len_le [(toString x : String), (toString y : String), tc]
    have l' : (tupleText [((toString x : String) : Str), ((toString y : String) : Str), tc]).length ≤ 6000 := by
      refine Nat.le_trans l ?_
      simp only [List.map_cons, List.map_nil, List.sum_cons, List.sum_nil, List.length_cons, List.length_nil]
      omega
    exact ⟨_, .tup e (.cons (.int x (by omega)) (.cons (.int y (by omega)) (.cons hv .nil))) (Nat.le_trans l' (by decide)), len_ite (by decide +kernel) l'⟩
  cases c with
  | none => exact fin .non (by decide +kernel) e
  | some k => exact fin (.int k (by have := hc k rfl; omega)) (li (hc k rfl)) e
theorem rp_tr {H : Hp} {x : V} {t : Trn} (h : TrAt H x t) (ok : OkTr t) (bt : BT 900 t) : RpOk H x := by
  obtain ⟨b, rfl, e⟩ := h
  have p1 := ok.2.1
  refine rp_tr3 e (rp_int (n := 901) (PB_abs (n := 900) ok.1 bt.s) (by decide) (by decide)) (rp_int (n := 901) (PB_abs (n := 900) (by omega) bt.p) (by decide) (by decide)) fun k hk => ?_
  have c1 := ok.2.2 k hk
  have := bt.cnt ok hk
  have e9 : PB 901 = PB 900 + PB 900 := PB_succ 900
  have := PB_pos 900
  exact rp_int (n := 902) (PB_abs (n := 901) (by omega) (by omega)) (by decide) (by decide)
/-! ### a dict against a tuple -/
theorem dict_ne_tup {l b : Addr} {items2 : Array Value} {es : Array DictEntry} {n n2 : Nat} {dd dd2 : Option Addr} {sl sl2 : Array (Option Value)} :
    Meets (Builtin.«dict.__ne__» ⟨[.ref l, .ref b], []⟩) (fun _ R s => s.heap.get? l = some { cls := .type "dict", dict := dd, data := .dict es n, slots := sl } ∧ s.heap.get? b = some { cls := .type "tuple", dict := dd2, data := .seq items2 n2, slots := sl2 } ∧ R (.ok (.ret .notImplemented)) s) :=
  .of_wp fun prog w A R s h => by obtain ⟨hp, g, d, tk, os⟩ := s; obtain ⟨hl, hb, h⟩ := h; have f1 := F.sub_tuple_dict; wp_walk using wpAny_loadPart' hl, wpAny_loadPart' hb; exact ⟨_, rfl, h⟩
theorem tup_ne_dict {l b : Addr} {items : Array Value} {es : Array DictEntry} {n n2 : Nat} {dd dd2 : Option Addr} {sl sl2 : Array (Option Value)} :
    Meets (Builtin.«tuple.__ne__» ⟨[.ref l, .ref b], []⟩) (fun _ R s => s.heap.get? l = some { cls := .type "tuple", dict := dd, data := .seq items n, slots := sl } ∧ s.heap.get? b = some { cls := .type "dict", dict := dd2, data := .dict es n2, slots := sl2 } ∧ R (.ok (.ret .notImplemented)) s) :=
  .of_wp fun prog w A R s h => by obtain ⟨hp, g, d, tk, os⟩ := s; obtain ⟨hl, hb, h⟩ := h; have f1 := F.sub_dict_tuple; wp_walk using wpAny_loadPart' hl, wpAny_loadPart' hb; exact ⟨_, rfl, h⟩
def rNe09 (K : PySem.W.Frag) : R2 := fun x y H Q => rNeD K x y H Q ∨ ∃ a b xs, x = .ref a ∧ y = .ref b ∧ H a = some (.dK []) ∧ H b = some (.tup xs) ∧ Q (.bl true) H
theorem op_ne09 {X : Cx} (hu : X.A.units + 64 < cLine) : OpR X (compareOp .NotEq) (rNe09 X.K) := by
  intro pins s σ H x y v u Q I rx ry h
  rcases h with h | ⟨a, b, xs, rfl, rfl, ha, hb, q⟩
  · exact op_neD hu pins s σ H x y v u Q I rx ry h
  · cases rx
    cases ry
    have hne : a ≠ b := fun e => by
      rw [e, hb] at ha
      cases ha
    obtain ⟨_, hsys, kvs, kv, ⟨dc, ddd, dda, dsl⟩, es, ep, ho, ex, hd, _⟩ := I.hok a _ ha
    obtain ⟨_, its, rv, ⟨tc, tdd, tda, tsl⟩, hto, htc, n, htd⟩ := I.hok b _ hb
    have hdc := ex.1
    dsimp only at hdc hd htc htd
    subst hdc hd htc htd
    show wpAny _ _ (richCompare .NotEq (.ref a) (.ref b)) _ _ s
    exact PySem.SeqAt.rc_ne_decline_or (k := false) ⟨_, ho, rfl⟩ ⟨_, hto, rfl⟩ (by decide) F.sub_tuple_dict F.slot_dict_ne F.slot_tuple_ne_refl
      (fun _ hq => call_meets F.slot_dict_ne ⟨_, ho, rfl⟩ F.entry_dict_ne (F.args_dict_ne_2 _ _) dict_ne_tup ⟨ho, hto, hq⟩)
      (fun _ hq => call_meets F.slot_tuple_ne_refl ⟨_, hto, rfl⟩ F.entry_tuple_ne (F.args_tuple_ne_2 _ _) tup_ne_dict ⟨hto, ho, hq⟩)
      (fun _ hq => wpAny_isSame_ref_other hne ho hto (by simp) hq) (.inr (by omega)) ⟨.bl true, H, I, rfl, q⟩
section
variable {X : Cx} {L : LA}
/-- Trains(trains=..) -/
theorem pe_mkTrains_trains (T : LX X.K X.mg L) (hr : Room 6 X.A) {p pos : Pos} {kws : List Keyword} {tk : TA} (hg : Gl X "Trains") (hkw : PK X kws tk)
    (hall : (backToKw pos (keywordEach kws X.env)).all (·.1.isSome) = true := by rfl) (hks : (backToKw pos (keywordEach kws X.env)).filterMap (·.1) = (["trains"] : List Str) := by rfl)
    (hpl : ((backTo pos (starEach [] X.env)).any (·.1) || (backToKw pos (keywordEach kws X.env)).any (·.1.isNone)) = false := by rfl) :
    PE X (.Call (.Name "Trains" p) [] kws pos) (tMakeK L.c_Trains 0 1 (spInit L.c_Trains) (fun us ws => us ++ ws) E0 tNil tk) := by
  obtain ⟨fd, F, _⟩ := T.in_Trains
  have hb : KBn X.K fd ["self", "trains"] 1 ["trains"] (fun us ws => us ++ ws) (fun us ws => us ++ ws) := by
    have F2 := F
    refine ⟨fun s us ws hX h1 h2 => ?_, fun r1 r2 => r1.append r2⟩
    obtain ⟨oc, od, kV, doc, pm, an, cdv, ct, osl, rfl, lk, hcd⟩ := F2.ex
    match us, ws, h1, h2 with
    | [u], [v], _, _ => exact .of_eq rfl
  exact pe_makeK0 T.mk_Trains (fn_Trainsinit T F) hr hg T.gc_Trains hb pass0 hkw hall hks (by decide) hpl
end
/-! ### near rows -/
theorem PB4 : PB 4 = 16 := by unfold PB; decide
theorem rows_small {ts : List Trn} (R : RowsOk 13 8 ts) : (∀ t ∈ ts, BT 810 t) ∧ ts.length ≤ 8 ∧ (∀ t ∈ ts, t.1 ≤ 1477 ∧ t.2.1 ≤ 13) ∧ ∀ t ∈ ts, ∀ c, t.2.2 = some c → c ≤ 13 ∧ t.1 + (c - 1) * t.2.1 ≤ 1646 := by
  have h4 : PB 4 ≤ PB 401 := PB_le (by decide)
  have h5 := PB4
  have hl := R.ln
  have bd := R.bd
  have e : (13 : Int) + 8 * gF 13 = 1477 := by decide
  rw [e] at bd
  refine ⟨R.bt (by decide) (by omega), by omega, fun t ht => ⟨(bd t ht).1, (bd t ht).2.1⟩, fun t ht c hc => ?_⟩
  have h1 := bd t ht
  have ok := R.srt.1 t ht
  have c1 := ok.2.2 c hc
  have c2 := h1.2.2 c hc
  have p1 := ok.2.1
  have : (c - 1) * t.2.1 ≤ 12 * 13 := Int.mul_le_mul (by omega) h1.2.1 (by omega) (by decide)
  exact ⟨c2, by omega⟩
theorem steps_le {d p : Int} (hp : 0 < p) : stepsUp d p ≤ if 0 < d then d else 0 := by
  rw [stepsUp_cl]
  have h : cl d p ≤ (if 0 < d then d else 0) := (cl_le hp).mpr (by
    split
    · have : d * 1 ≤ d * p := Int.mul_le_mul_of_nonneg_left (by omega) (by omega)
      omega
    · omega)
  split <;> (try split) <;> (try split at h) <;> omega
theorem tms_fit {ts : List Trn} (R : RowsOk 13 8 ts) {B : Int} (hB : B ≤ PB 899) (hn : ∀ t ∈ ts, t.2.2 = none → B ≤ t.1 + 1000) : (∀ t ∈ ts, nbT t B ≤ 1000) ∧ ∀ t ∈ ts, stepsUp (B - t.1) t.2.1 ≤ PB 5000 := by
  obtain ⟨_, _, h3, h4⟩ := rows_small R
  refine ⟨fun t ht => ?_, fun t ht => ?_⟩
  · have ok := R.srt.1 t ht
    have p1 := ok.2.1
    cases hk : t.2.2 with
    | some c =>
      have := nbT_le (x := B) hk
      have := (h4 t ht c hk).1
      omega
    | none =>
      have := hn t ht hk
      have := steps_le (d := B - t.1) (p := t.2.1) (by omega)
      unfold nbT
      rw [hk]
      show stepsUp (B - t.1) t.2.1 ≤ 1000
      split at this <;> omega
  · have ok := R.srt.1 t ht
    have p1 := ok.2.1
    have s0 := ok.1
    have := steps_le (d := B - t.1) (p := t.2.1) (by omega)
    have e1 : PB 899 ≤ PB 5000 := PB_le (by decide)
    have e2 := PB_pos 5000
    split at this <;> omega
theorem tms_sizeN {ts : List Trn} {B : Int} {m : Nat} (h : ∀ t ∈ ts, OkTr t) (hb : ∀ t ∈ ts, nbT t B ≤ m) : (tms ts B).length ≤ m * ts.length := by
  induction ts with
  | nil => exact Nat.le_refl _
  | cons t ts ih =>
    have h1 := tmT_len (h t (List.mem_cons_self ..)) B
    have h2 := hb t (List.mem_cons_self ..)
    have h3 := ih (fun u hu => h u (List.mem_cons_of_mem _ hu)) fun u hu => hb u (List.mem_cons_of_mem _ hu)
    show (tmT t B ++ tms ts B).length ≤ m * (ts.length + 1)
    rw [List.length_append, Nat.mul_add]
    omega
/-! ### k09: the law -/
def sh9 (t : Trn) : Trn := (t.1 + 9, t.2.1, t.2.2)
def t312 : Trn := (3, 1, some 2)
theorem sh9_ok {ts : List Trn} (R : RowsOk 14 6 ts) : Srt (t312 :: ts.map sh9) ∧ (∀ t ∈ t312 :: ts.map sh9, BT 811 t) ∧ (t312 :: ts.map sh9).length ≤ 7 := by
  have bt := R.bt (by decide) (Int.le_trans (show (14 : Int) ≤ 16 by decide) (by rw [← PB4]; exact PB_le (by decide)))
  have ln := R.ln
  have e1 : PB 811 = PB 810 + PB 810 := PB_succ 810
  have e2 : PB 4 ≤ PB 810 := PB_le (by decide)
  have e3 := PB4
  refine ⟨⟨fun t ht => ?_, List.pairwise_cons.mpr ⟨fun u hu => ?_, ?_⟩⟩, fun t ht => ?_, by rw [List.length_cons, List.length_map]; omega⟩
  · rcases List.mem_cons.mp ht with rfl | ht
    · exact ⟨by decide, by decide, fun c hc => by cases hc; decide⟩
    · obtain ⟨u, hu, rfl⟩ := List.mem_map.mp ht
      obtain ⟨h1, h2, h3⟩ := R.srt.1 u hu
      exact ⟨by show 0 ≤ u.1 + 9; omega, h2, h3⟩
  · obtain ⟨v, hv, rfl⟩ := List.mem_map.mp hu
    obtain ⟨h1, h2, h3⟩ := R.srt.1 v hv
    exact ⟨2, rfl, by show (3 : Int) + (2 - 1) * 1 < v.1 + 9; omega⟩
  · refine List.pairwise_map.mpr (R.srt.2.imp fun {a b} h => ?_)
    obtain ⟨c, h1, h2⟩ := h
    exact ⟨c, h1, by show a.1 + 9 + (c - 1) * a.2.1 < b.1 + 9; omega⟩
  · rcases List.mem_cons.mp ht with rfl | ht
    · exact ⟨by show (3 : Int) ≤ PB 811; omega, by show (1 : Int) ≤ PB 811; omega, fun c hc => by cases hc; show (3 : Int) + (2 - 1) * 1 ≤ PB 811; omega⟩
    · obtain ⟨u, hu, rfl⟩ := List.mem_map.mp ht
      have b := bt u hu
      refine ⟨by show u.1 + 9 ≤ PB 811; have := b.s; omega, by show u.2.1 ≤ PB 811; have := b.p; omega, fun c hc => ?_⟩
      have := b.c c hc
      show u.1 + 9 + (c - 1) * u.2.1 ≤ PB 811
      omega
theorem cut_pre {xs : List V} {k : Nat} (h : k ≤ xs.length) : cutV xs none (some (k : Int)) = xs.take k := by
  have h1 : HT.sIx xs.length 0 none = 0 := rfl
  have h2 : HT.sIx xs.length xs.length (some (k : Int)) = k := by
    rw [HT.sIx_nat]
    exact Nat.min_eq_left h
  unfold cutV
  rw [h1, h2, List.drop_zero, Nat.sub_zero]
theorem cut_suf {xs : List V} {k : Nat} (h : k ≤ xs.length) : cutV xs (some (k : Int)) none = xs.drop k := by
  have h1 : HT.sIx xs.length 0 (some (k : Int)) = k := by
    rw [HT.sIx_nat]
    exact Nat.min_eq_left h
  have h2 : HT.sIx xs.length xs.length none = xs.length := rfl
  unfold cutV
  rw [h1, h2, List.take_of_length_le (by rw [List.length_drop]; exact Nat.le_refl _)]
theorem tIf_of {tA : TT} {ta tb : TE} {σ : L2.St} {H : Hp} {Q : VK} {d : Bool} {v : V} (hA : ∀ R : Bool → Hp → Prop, R d H → tA σ H R) (h1 : d = true → ∀ R : VK, R v H → ta σ H R) (h2 : d = false → ∀ R : VK, R v H → tb σ H R) (q : Q v H) : tIf tA ta tb σ H Q := by
  refine hA _ ?_
  cases d with
  | true => exact h1 rfl _ q
  | false => exact h2 rfl _ q
/-- what Trains(..) refuses as a whole -/
def OddL (H : Hp) (v : V) : Prop := (∀ g, ∃ z, ReprN g H v z) ∧ TrBad H v (-1)
theorem OddL.same {H H' : Hp} {v : V} (h : OddL H v) (s : Same H H') : OddL H' v := ⟨fun g => by
  obtain ⟨z, hz⟩ := h.1 g
  exact ⟨z, hz.mv s⟩, h.2.same s⟩
def oneT (f : Nat → Int) (n : Nat) : List Trn := (List.range n).map fun i => (f i, 1, some 1)
theorem oneT_succ (f : Nat → Int) (n : Nat) : oneT f (n + 1) = oneT f n ++ [(f n, 1, some 1)] := by
  unfold oneT
  rw [List.range_succ, List.map_append]
  rfl
theorem oneT_len (f : Nat → Int) (n : Nat) : (oneT f n).length = n := by
  unfold oneT
  rw [List.length_map, List.length_range]
theorem oneT_mem {f : Nat → Int} {n : Nat} {t : Trn} (h : t ∈ oneT f n) : ∃ i, i < n ∧ t = (f i, 1, some 1) := by
  obtain ⟨i, hi, e⟩ := List.mem_map.mp h
  exact ⟨i, List.mem_range.mp hi, e.symm⟩
theorem rp_one {H : Hp} {f : Nat → Int} {n : Nat} {ws : List V} (h : Trs H ws (oneT f n)) (b : ∀ i, i < n → 0 ≤ f i ∧ f i ≤ 3000) : ∀ x ∈ ws, RpOk H x := fun x hx => by
  obtain ⟨j, hj⟩ := List.getElem?_of_mem hx
  obtain ⟨t, ht, hb⟩ := h.get hj
  obtain ⟨i, hi, rfl⟩ := oneT_mem (List.mem_of_getElem? ht)
  obtain ⟨bb, rfl, e⟩ := hb
  have := b i hi
  exact rp_tr3 (c := some 1) e (rp_int (n := 20) (by omega) (by decide) (by decide)) (by show (1 : Int).natAbs.log2 < 1900; decide) fun k hk => by cases hk; decide
theorem rp_trs {H : Hp} {a : Addr} {ws : List V} {ts : List Trn} (e : H a = some (.lst ws)) (hw : Trs H ws ts) (ne : ws ≠ []) (ln : ws.length ≤ 2000) (h : ∀ x ∈ ws, RpOk H x) : ∀ g, ∃ z, ReprN g H (.ref a) z := fun g => by
  obtain ⟨zs, hp, hs⟩ := rp_pair (g := g) h
  have l1 := listText_len_le zs
  have l2 := paired_len hp
  have sz : 6002 * 2000 + 3 ≤ sizeLine := by decide
  have out : V.ref a ∉ ws := fun m => by
    obtain ⟨j, hj⟩ := List.getElem?_of_mem m
    obtain ⟨t, ht, b, eb, hb⟩ := hw.get hj
    rw [← V.ref.inj eb, e] at hb
    cases hb
  cases ws with
  | nil => exact absurd rfl ne
  | cons x r => exact ⟨_, .lst e hp out (by omega)⟩
theorem trE_dp {K : PySem.W.Frag} {H : Hp} {b : Addr} {e : Int} (h : H b = some (.tup [.int e, .int 1, .int 1])) : Dp K H (.ref b) (trE e) := .tup (SqT.of h) (.cons (.int _) (.cons (.int _) (.cons (.int _) .nil)))
theorem trE_sh (e : Int) : SeqAt.shaped (trE e) = true := shT (by simp [PyData.canLayAll0, PyData.canLay0]) (by simp [PyData.depthAll, PyData.depth])
theorem trE_eq (e : Int) : PyData.eqv (trE e) (trE e) = true := by simp [trE, PyData.eqv, PyData.eqvAll]
def spLaw (K : PySem.W.Frag) : Sp := fun vs H Q _ => ∃ (a : Addr) (ns : List Int), vs = [.ref a] ∧ SqL K H a (ns.map V.int) ∧ ns.length ≤ 63 ∧ ∀ H', Q (.bl true) H'
section
variable {P : Program} {w : World} {K : PySem.W.Frag} {mg : Str → Option Value} {base : Heap} {L : LA}
abbrev N_law : List Str := ["_law_script", "_law_cell", "_law_source", "_law_start", "_law_step", "_law_count", "_law_rows_here", "_law_repeat", "_law_at", "_law_early", "_law_bent", "_law_odd_here"]
theorem sc_law : FnScope N_law ["_law_script"] (defScope st_law) := ⟨rfl, rfl, rfl, by decide +kernel, rfl, by decide +kernel, by decide +kernel⟩
theorem ok_law {aLaw : Addr} {fd : FuncData} (F : Fun K "law" "law" st_law aLaw fd) (T : LX K mg L) : FnOk P w K mg base CX0 10 aLaw fd ["_law_script"] (spLaw K) := by
  have G_wsourceof := ok_wsourceof (P := P) (w := w) (base := base) T
  have G_Trainseq := ok_Trainseq (P := P) (w := w) (base := base) T
  have G_wcellat := ok_wcellat (P := P) (w := w) (base := base) T
  have G_wtold := ok_wtold (P := P) (w := w) (base := base) T
  have G_wdraw := ok_wdraw (P := P) (w := w) (base := base) T
  have G_wrows := ok_wrows (P := P) (w := w) (base := base) T
  have G_wodd := ok_wodd (P := P) (w := w) (base := base) T
  have nd := sc_law.nd
  refine F.ok sc_law (fun vs H Q E h => ?_) (fun cdv A outer S H vs Q E hr h => ?_)
  · obtain ⟨a, ns, rfl, _⟩ := h
    rfl
  · obtain ⟨a, ns, rfl, hS, hnl, k⟩ := h
    refine ⟨_, (pss_cons (ps_for PassesOwn.never rfl (pi_list (pe_op op_cat (pe_lst (pa_cons (pe_c G_wcellat (hr.mono (by decide)) rfl (pa_cons (pv 0) (pa_cons pe_int pa_nil))) pa_nil)) (pe_slice (r := rSlL K) sl_list (pv 0) (po_some pe_int) (po_some pe_int)))) (pg_name (i := 1) nd rfl (Or.inl rfl)) (pss_cons (ps_set (i := 2) nd rfl (Or.inl rfl) (pe_c G_wsourceof (hr.mono (by decide)) rfl (pa_cons (pv 1) pa_nil)))
       (pss_cons (ps_set (i := 6) nd rfl (Or.inl rfl) (pe_op op_cat (pe_lst (pa_cons (pe_tup (pa_cons pe_int (pa_cons pe_int (pa_cons pe_int pa_nil)))) pa_nil)) (pe_lc (own := [("_law_start", 3), ("_law_step", 4), ("_law_count", 5)]) (g := gTup K 3 (gCons (gName 3) (gCons (gName 4) (gCons (gName 5) (gNil))))) (tt := tYes) rfl nd (pi_list (pe_c G_wrows (hr.mono (by decide)) rfl (pa_cons (pv 2) (pa_cons pe_int (pa_cons pe_int pa_nil))))) (blkOk_by (own := [("_law_start", 3), ("_law_step", 4), ("_law_count", 5)]) (N := N_law) (sc := defScope st_law) (by decide +kernel)) (fun _ _ _ _ _ => pg_tup rfl (pgs_cons (pg_name (i := 3) nd rfl (Or.inl rfl)) (pgs_cons (pg_name (i := 4) nd rfl (Or.inl rfl)) (pgs_cons (pg_name (i := 5) nd rfl (Or.inl rfl)) pgs_nil)))) (fun _ _ _ _ _ => pts_nil) (fun _ _ _ _ _ => (pe_tup (pa_cons (pe_op op_add (pv 3) pe_int) (pa_cons (pv 4) (pa_cons (pv 5) pa_nil))))))))
       (pss_cons (ps_if (PW.pt (pw_or (pt_cmpR op_ne (pe_c G_wtold (hr.mono (by decide)) rfl (pa_cons (pv 6) pa_nil)) pe_str (nomark _)) (pw_or1 (pt_cmpR (G_Trainseq.op_ne (hr.mono (by decide)) T.cf_Trains.om T.cf_Trains.ne) (pe_mkTrains_trains T (hr.mono (by decide)) rfl  (pk_cons (pv 6) pk_nil)) (pe_mkTrains T (hr.mono (by decide)) rfl (pa_cons (pv 6) pa_nil)) (nomark _))))) (pss_one (ps_ret pe_bl)) pss_nil)
       (pss_cons (ps_for PassesOwn.never rfl (pi_range1 rfl T.b_range (pa_cons pe_int pa_nil)) (pg_name (i := 7) nd rfl (Or.inl rfl)) (pss_cons (ps_set (i := 8) nd rfl (Or.inl rfl) (pe_op op_add pe_int (pe_c G_wdraw (hr.mono (by decide)) rfl (pa_cons (pv 2) (pa_cons (pe_callB call_len_seq (by rfl) T.b_len PySem.boot_len (pa_cons (pv 6) pa_nil)) pa_nil)))))
       (pss_cons (ps_asg (pe_ix (r := rIxL K) ix_list (pv 6) (pe_op op_sub (pv 8) pe_int) (fun _ _ => rfl)) (pg_tup rfl (pgs_cons (pg_name (i := 3) nd rfl (Or.inl rfl)) (pgs_cons (pg_name (i := 4) nd rfl (Or.inl rfl)) (pgs_cons (pg_name (i := 5) nd rfl (Or.inl rfl)) pgs_nil)))))
       (pss_cons (ps_set (i := 9) nd rfl (Or.inl rfl) (pe_op op_add (pv 3) (pe_op op_mulW (pv 4) (pe_c G_wdraw (hr.mono (by decide)) rfl (pa_cons (pv 2) (pa_cons (pe_ifExp (pt_cmp (pc_isN (pv 5))) pe_int (pv 5)) pa_nil))))))
       (pss_cons (ps_set (i := 10) nd rfl (Or.inl rfl) (pe_op op_cat (pe_op op_cat (pe_slice (r := rSlL K) sl_list (pv 6) po_none (po_some (pv 8))) (pe_lst (pa_cons (pe_c G_wodd (hr.mono (by decide)) rfl (pa_cons (pv 2) (pa_cons (pv 9) pa_nil))) pa_nil))) (pe_slice (r := rSlL K) sl_list (pv 6) (po_some (pv 8)) po_none)))
       (pss_one (ps_if (PW.pt (pw_or (pt_cmpR op_ne (pe_c G_wtold (hr.mono (by decide)) rfl (pa_cons (pv 10) pa_nil)) (pv 8) (nomark _)) (pw_or1 (pt_cmpR op_ne (pe_c G_wtold (hr.mono (by decide)) rfl (pa_cons (pe_op op_cat (pe_op op_rep (pe_lst (pa_cons (pe_ix (r := rIxL K) ix_list (pv 10) (pv 8) (fun _ _ => rfl)) pa_nil)) (pe_callTy call_int1 (by rfl) T.b_int (by decide +kernel) (pa_cons (pe_cmpR (op_ne09 hr.units) (pe_ix (r := rIxL K) ix_list (pv 10) (pv 8) (fun _ _ => rfl)) (pe_tup (pa_cons (pv 9) (pa_cons pe_int (pa_cons pe_int pa_nil)))) (nomark _)) pa_nil))) (pe_lst (pa_cons pe_non pa_nil))) pa_nil)) pe_int (nomark _))))) (pss_one (ps_ret pe_bl)) pss_nil)))))))
       (pss_cons (ps_for PassesOwn.never rfl (pi_tup (pe_tup (pa_cons pe_non (pa_cons pe_int (pa_cons pe_str (pa_cons (pe_tup pa_nil) (pa_cons (pe_callTy call_tuple_of (by rfl) T.b_tuple (by decide +kernel) (pa_cons (pv 6) pa_nil)) (pa_cons pe_dnewK (pa_cons pe_bl (pa_cons (pe_lc (own := [("_law_at", 8)]) (g := gName 8) (tt := tYes) rfl nd (pi_range1 rfl T.b_range (pa_cons pe_int pa_nil)) (blkOk_by (own := [("_law_at", 8)]) (N := N_law) (sc := defScope st_law) (by decide +kernel)) (fun _ _ _ _ _ => pg_name (i := 8) nd rfl (Or.inl rfl)) (fun _ _ _ _ _ => pts_nil) (fun _ _ _ _ _ => (pe_tup (pa_cons (pv 8) (pa_cons pe_int (pa_cons pe_int pa_nil)))))) pa_nil)))))))))) (pg_name (i := 11) nd rfl (Or.inl rfl)) (pss_one (ps_if (pt_cmpR op_ne (pe_c G_wtold (hr.mono (by decide)) rfl (pa_cons (pv 11) pa_nil)) (pe_un un_neg pe_int) (nomark _)) (pss_one (ps_ret pe_bl)) pss_nil)))
       (pss_one (ps_if (pt_cmpR op_ne (pe_c G_wtold (hr.mono (by decide)) rfl (pa_cons (pe_lc (own := [("_law_at", 8)]) (g := gName 8) (tt := tYes) rfl nd (pi_range1 rfl T.b_range (pa_cons pe_int pa_nil)) (blkOk_by (own := [("_law_at", 8)]) (N := N_law) (sc := defScope st_law) (by decide +kernel)) (fun _ _ _ _ _ => pg_name (i := 8) nd rfl (Or.inl rfl)) (fun _ _ _ _ _ => pts_nil) (fun _ _ _ _ _ => (pe_tup (pa_cons (pe_op op_mulW pe_int (pv 8)) (pa_cons pe_int (pa_cons pe_int pa_nil)))))) pa_nil)) pe_str (nomark _)) (pss_one (ps_ret pe_bl)) pss_nil))))))))
       (pss_one (ps_ret pe_bl))), ?_⟩
    refine ⟨_, rfl, a, ns, 0, rfl, hS, Int.le_refl _, fun z => ⟨(by show 1 ≤ sizeLine; decide), fun l1 hl1 => ?_⟩⟩
    have z1 : Same H (upd H l1 (.lst [.int z])) := Same.upd hl1
    refine ⟨_, rfl, 1, rfl, 6, rfl, a, ns.map V.int, rfl, z1.seq hS, fun l2 hl2 => ?_⟩
    refine ⟨l1, l2, _, _, rfl, rfl, (Same.upd hl2) _ _ upd_same, upd_same, small2 (by have := cutV_length (ns.map V.int) (some 1) (some 6); rw [List.length_map] at this; show 1 + _ ≤ 100000; omega), fun l3 hl3 => ?_⟩
    have items : ∀ v ∈ [V.int z] ++ cutV (ns.map V.int) (some 1) (some 6), ∃ c, v = .int c := fun v hv => by
      rcases List.mem_append.mp hv with hv | hv
      · exact ⟨z, by simpa using hv⟩
      · obtain ⟨c, _, e⟩ := List.mem_map.mp (List.mem_of_mem_drop (List.mem_of_mem_take hv))
        exact ⟨c, e.symm⟩
    generalize hit : [V.int z] ++ cutV (ns.map V.int) (some 1) (some 6) = its at items
    refine ⟨l3, rfl, ⟨_, SqL.of upd_same⟩, ?_⟩
    refine for_list (K := K) (a := l3) (xs := its) (fun i σ H2 => ∃ v1 v2 v3 v4 v5 v6 v7 v8 v9 v10 v11 : Option V, σ = [some (.ref a), v1, v2, v3, v4, v5, v6, v7, v8, v9, v10, v11] ∧ H2 l3 = some (.lst its))
      ⟨none, none, none, none, none, none, none, none, none, none, none, rfl, by rw [upd_same]⟩ (fun i σ H2 _ ⟨_, _, _, _, _, _, _, _, _, _, _, _, e⟩ => SqL.of e) ?_ ?_
    rotate_left
    · rintro σ H2 ⟨_, _, _, _, _, _, _, _, _, _, _, rfl, _⟩
      exact k H2
    rintro i v σ H0 hi ⟨v1, v2, v3, v4, v5, v6, v7, v8, v9, v10, v11, rfl, hL⟩
    obtain ⟨cc, rfl⟩ := items v (List.mem_of_getElem? hi)
    refine ⟨_, rfl, cc, rfl, fun s H1 hs0 y1 src1 => ?_⟩
    have nls : l3 ≠ s := ne_of_none hL hs0
    have hL1 := y1 _ _ hL
    obtain ⟨y1', hy1⟩ := src1.has
    refine ⟨(by show 3 ≤ sizeLine; decide), fun t0 nt0 => ⟨(by show 1 ≤ sizeLine; decide), fun l0 nl0 => ?_⟩⟩
    have u1 := Same.upd (o := .tup [.int 3, .int 1, .int 2]) nt0
    have u2 := Same.upd (o := .lst [.ref t0]) nl0
    have et0 := u2 _ _ (upd_same (a := t0) (o := .tup [.int 3, .int 1, .int 2]) (H := H1))
    have el0 : upd (upd H1 t0 (.tup [.int 3, .int 1, .int 2])) l0 (.lst [.ref t0]) l0 = some (.lst [.ref t0]) := upd_same
    have u12 := u1.trans u2
    generalize upd (upd H1 t0 (.tup [.int 3, .int 1, .int 2])) l0 (.lst [.ref t0]) = H2 at et0 el0 u12 ⊢
    have src2 := src1.same u12
    have hL2 := u12 _ _ hL1
    have l0s : l0 ≠ s := fun e => by
      have := (u1 _ _ hy1)
      rw [← e, nl0] at this
      cases this
    have p49 : (9 : Int) ≤ PB 400 := Int.le_trans (show (9 : Int) ≤ 16 by decide) (by rw [← PB4]; exact PB_le (by decide))
    refine ⟨_, rfl, s, 9, 6, 0, rfl, by decide, p49, by decide, by decide, src2, by decide, fun l xs ts H3 hl hx R0 src3 k3 nl => ?_⟩
    have R : RowsOk 14 6 ts := R0
    obtain ⟨rs, rb, rl⟩ := sh9_ok R
    have hxl := hx.len
    have hL3 := k3 _ _ nls hL2
    have el3 := k3 _ _ l0s el0
    obtain ⟨y2', hy2⟩ := src2.has
    have et3 : H3 t0 = some (.tup [.int 3, .int 1, .int 2]) := (Kp.nl k3 hy2) _ _ et0 fun _ z => nomatch z
    refine ⟨l, rfl, ⟨_, SqL.of hl⟩, fun D1 hD1 => ?_⟩
    refine lc_list (K := K) (a := l) (xs := xs) (fun j Hx => ∃ ws, Hx D1 = some (.lst ws) ∧ Trs Hx ws ((ts.take j).map sh9) ∧ Same H3 Hx) ⟨[], upd_same, .nil, Same.upd hD1⟩ (fun j Hx _ ⟨_, _, _, s⟩ => SqL.of (s _ _ hl)) ?_ ?_
    · rintro j x Hx hj ⟨ws, hD, hw, sx⟩
      obtain ⟨t, ht, b, rfl, hb⟩ := hx.get hj
      refine ⟨b, _, rfl, SqT.of (sx _ _ hb), rfl, _, _, rfl, _, _, rfl, _, _, rfl, rfl, rfl, tYes_of ⟨_, rfl, _, _, rfl, rfl, _, rfl, _, rfl, (by show 3 ≤ sizeLine; decide), fun nt hnt => ?_⟩⟩
      have sn := Same.upd (o := .tup (TrV (sh9 t))) hnt
      have hen : upd Hx nt (.tup (TrV (sh9 t))) nt = some (.tup (TrV (sh9 t))) := upd_same
      have wl := hw.len
      have hDy := sn _ _ hD
      refine ⟨ws, hDy, small1 (by rw [wl, List.length_map, List.length_take]; have := R.ln; omega), ws ++ [.ref nt], upd_same, ?_, fun bb o e => ?_⟩
      · rw [List.take_add_one, ht, List.map_append]
        exact Trs.nl (NL.upd hDy) ((hw.same sn).app (Trs.one ⟨nt, rfl, hen⟩))
      · rw [upd_ne (ne_of_none e hD1)]
        exact sn _ _ (sx _ _ e)
    rintro H4 ⟨ws, hD4, hw4, s4⟩
    rw [hxl, List.take_length] at hw4
    have wl := hw4.len
    rw [List.length_map] at wl
    have s4' := s4
    refine ⟨l0, D1, _, _, rfl, rfl, s4 _ _ el3, hD4, small2 (by show 1 + _ ≤ 100000; have := R.ln; omega), fun lr nlr => ?_⟩
    -- the rows
    obtain ⟨us, hus⟩ : ∃ us, us = t312 :: ts.map sh9 := ⟨_, rfl⟩
    rw [← hus] at rs rb rl
    obtain ⟨ys, hys⟩ : ∃ ys, ys = [V.ref t0] ++ ws := ⟨_, rfl⟩
    rw [← hys]
    have hyt4 : Trs H4 ys us := by
      rw [hys, hus]
      exact .cons ⟨t0, rfl, s4 _ _ et3⟩ hw4
    have s5 := Same.upd (o := .lst ys) nlr
    have hr5 : upd H4 lr (.lst ys) lr = some (.lst ys) := upd_same
    have src4 := src3.same s4
    have hL4 := s4 _ _ hL3
    obtain ⟨y4', hy4⟩ := src4.has
    have lrs : lr ≠ s := fun e => by rw [e, hy4] at nlr; cases nlr
    generalize upd H4 lr (.lst ys) = H5 at s5 hr5 ⊢
    have hy5 := hyt4.same s5
    have src5 := src4.same s5
    have hL5 := s5 _ _ hL4
    have yl := hyt4.len
    have ny : ys ≠ [] := by rw [hys]; exact fun e => nomatch e
    have bt900 : ∀ t ∈ us, BT 900 t := fun t ht => (rb t ht).le (by decide)
    have rpI : ∀ {Hq : Hp}, Trs Hq ys us → ∀ x ∈ ys, RpOk Hq x := fun {Hq} h x hx => by
      obtain ⟨j, hj⟩ := List.getElem?_of_mem hx
      obtain ⟨t, ht, hb⟩ := h.get hj
      have htm := List.mem_of_getElem? ht
      exact rp_tr hb (rs.1 t htm) (bt900 t htm)
    refine ⟨_, rfl, .ref lr, rfl, rp_lst nlr s5 hr5 ny (by omega) (rpI hyt4), .inl ⟨lr, ys, us, 811, rfl, hr5, hy5, rs, rb, by decide, by omega, fun H6 s6 => ?_⟩⟩
    refine ⟨rfl, _, rfl, ite2 (fun c => (by simp at c)) (fun _ => ?_)⟩
    have hr6 := s6 _ _ hr5
    have hy6 := hy5.same s6
    have src6 := src5.same s6
    have hL6 := s6 _ _ hL5
    refine ⟨_, rfl, rfl, rfl, ?_⟩
    refine trains_made (a := lr) (xs := ys) (ts := us) (n := 811) hr6 hy6 rs rb (by decide) (by omega) fun o1 H7 TO7 s7 => ?_
    have hr7 := s7 _ _ hr6
    have hy7 := hy6.same s7
    refine ⟨_, rfl, ?_⟩
    refine trains_made (a := lr) (xs := ys) (ts := us) (n := 811) hr7 hy7 rs rb (by decide) (by omega) fun o2 H8 TO8 s8 => ?_
    have TO78 := TO7.same s8
    obtain ⟨dx7, fs7, ho7⟩ := TO78.has
    have eqr := EqT.row (C := L.c_Trains) (H := H8) (ts := nfs us) TO8
    obtain ⟨ty, hty⟩ := eqr.tyN
    refine ⟨o1, dx7, fs7, ty, rfl, ho7, hty, o1, nfs us, _, _, _, _, rfl, TO78, eqr, _, rfl, ?_⟩
    rw [decide_eq_true rfl]
    refine ⟨_, rfl, iteF ?_⟩
    have s58 := (s6.trans s7).trans s8
    have hr8 := s58 _ _ hr5
    have hy8 := hy5.same s58
    have src8 := src5.same s58
    have hL8 := s58 _ _ hL5
    refine ⟨6, rfl, by decide, by decide, ?_⟩
    refine for_range (lo := 0) (n := (6 : Int).toNat) (fun j σ Hx => ∃ v3 v4 v5 v7 v8 v9 v10 : Option V, σ = [some (.ref a), some (.int cc), some (.ref s), v3, v4, v5, some (.ref lr), v7, v8, v9, v10, v11] ∧ Kp s H8 Hx ∧ Src Hx s (60000 + 3400 * j))
      ⟨_, _, _, _, _, _, _, rfl, Kp.refl, src8.mono (by omega)⟩ ?_ ?_
    · rintro j σ Hx hj ⟨v3, v4, v5, v7, v8, v9, v10, rfl, kx, srcx⟩
      have hj6 : j < 6 := hj
      obtain ⟨y8, hy8'⟩ := src8.has
      have hrx := kx _ _ lrs hr8
      have hyx := hy8.nl (Kp.nl kx hy8')
      have ylI : (ys.length : Int) ≤ 7 := by omega
      have yp : 0 < ys.length := List.length_pos_iff.mpr ny
      refine ⟨_, rfl, _, rfl, lr, _, rfl, .inl (SqL.of hrx), ?_⟩
      refine ⟨s, (ys.length : Int), 60000 + 3400 * j, rfl, by omega, Nat.lt_of_le_of_lt (show ((ys.length : Nat) : Int).natAbs ≤ 7 by omega) (by decide), srcx, by omega, fun d Hy d0 d1 srcy ky => ⟨_, _, rfl, rfl, ?_⟩⟩
      obtain ⟨dn, hdn⟩ : ∃ dn : Nat, d = (dn : Int) := ⟨d.toNat, by omega⟩
      have dl : dn < ys.length := by omega
      have hry := ky _ _ lrs hrx
      have hyy := hyx.nl (Kp.nl ky (srcx.has).choose_spec)
      have hxd := List.getElem?_eq_getElem dl
      obtain ⟨t, ht, b, hbx, hb⟩ := hyy.get hxd
      have htm := List.mem_of_getElem? ht
      have okt := rs.1 t htm
      have btt := rb t htm
      have p1 := okt.2.1
      have t3 : 3 ≤ t.1 := by
        rw [hus] at htm
        rcases List.mem_cons.mp htm with rfl | hm
        · decide
        · obtain ⟨u, hu, rfl⟩ := List.mem_map.mp hm
          have := (R.srt.1 u hu).1
          show 3 ≤ u.1 + 9
          omega
      refine ⟨_, rfl, _, rfl, _, _, rfl, rfl, lr, _, 1 + d - 1, .ref b, rfl, rfl, SqL.of hry, ?_, b, _, rfl, SqT.of hb, rfl, _, _, rfl, _, _, rfl, _, _, rfl, rfl, ?_⟩
      · rw [show (1 : Int) + d - 1 = (dn : Int) by omega]
        exact atI_nat (by rw [hxd, hbx])
      refine ⟨_, rfl, _, rfl, _, rfl, ?_⟩
      have rch : ∃ m : Int, 1 ≤ m ∧ m ≤ PB 812 ∧ (t.2.2 = none → m = 9) ∧ ∀ c, t.2.2 = some c → m = c := by
        have e8 : PB 4 ≤ PB 812 := PB_le (by decide)
        have e9 := PB4
        cases hk : t.2.2 with
        | none => exact ⟨9, by decide, by omega, fun _ => rfl, fun c hc => by cases hc⟩
        | some c =>
          have c1 := okt.2.2 c hk
          have := btt.cnt okt hk
          have e : PB 812 = PB 811 + PB 811 := PB_succ 811
          have := PB_pos 811
          exact ⟨c, by omega, by omega, fun q => (by cases q), fun c' hc' => (by cases hc'; rfl)⟩
      obtain ⟨m, m0, m1, m2, m3⟩ := rch
      refine tIf_of (d := decide (t.2.2 = none)) (v := .int m) (fun R h => ⟨_, rfl, ?_⟩) (fun e R h => ?_) (fun e R h => ?_) ?_
      · have e : decide (cV t.2.2 = V.non) = decide (t.2.2 = none) := by
          cases t.2.2 with
          | none => rfl
          | some c => rfl
        refine ⟨_, rfl, ?_⟩
        rw [e]
        exact h
      · rw [m2 (of_decide_eq_true e)] at h
        exact h
      · cases hk : t.2.2 with
        | none => rw [hk] at e; cases e
        | some c =>
          rw [m3 c hk] at h
          exact ⟨_, rfl, h⟩
      have hmb : m.natAbs < 2 ^ 1100 := Nat.lt_of_lt_of_le (PB_abs (n := 812) (i := m) (by omega) m1) (Nat.pow_le_pow_right (by decide) (by decide))
      refine ⟨s, m, _, rfl, by omega, hmb, srcy, by omega, fun r Hz r0 r1 srcz kz => ?_⟩
      have cm : CMulW t.2.1 r := wide_mul (PB_abs (n := 811) (by omega) btt.p) (PB_abs (n := 812) r0 (by omega)) (by decide) (by decide) (by decide)
      refine ⟨_, _, rfl, rfl, cm, _, _, rfl, rfl, ?_⟩
      have mr0 : 0 ≤ t.2.1 * r := Int.mul_nonneg (by omega) r0
      have hrz := kz _ _ lrs hry
      have hyz := hyy.nl (Kp.nl kz (srcy.has).choose_spec)
      refine ⟨_, rfl, _, rfl, 1 + d, rfl, lr, ys, rfl, SqL.of hrz, fun l5 h5 => ?_⟩
      have s5z := Same.upd (o := .lst (cutV ys none (some (1 + d)))) h5
      have e5 : upd Hz l5 (.lst (cutV ys none (some (1 + d)))) l5 = some (.lst (cutV ys none (some (1 + d)))) := upd_same
      have l5s : l5 ≠ s := fun e => by
        obtain ⟨yz, hyz'⟩ := srcz.has
        rw [e, hyz'] at h5
        cases h5
      have ecut : cutV ys none (some (1 + d)) = ys.take (dn + 1) := by
        rw [show (1 : Int) + d = ((dn + 1 : Nat) : Int) by omega]
        exact cut_pre (by omega)
      generalize upd Hz l5 (.lst (cutV ys none (some (1 + d)))) = HA at s5z e5 ⊢
      rw [ecut] at e5
      have srcA := srcz.same s5z
      refine ⟨_, rfl, _, rfl, s, t.1 + t.2.1 * r, _, rfl, by omega, srcA, by omega, fun x HB od nx srcB kB => ⟨(by show 1 ≤ sizeLine; decide), fun l6 h6 => ?_⟩⟩
      have hrB := kB _ _ lrs (s5z _ _ hrz)
      have hyB := (hyz.same s5z).nl (Kp.nl kB (srcA.has).choose_spec)
      have e5B := kB _ _ l5s e5
      have s6z := Same.upd (o := .lst [x]) h6
      have e6 : upd HB l6 (.lst [x]) l6 = some (.lst [x]) := upd_same
      generalize upd HB l6 (.lst [x]) = HC at s6z e6 ⊢
      refine ⟨l5, l6, _, _, rfl, rfl, s6z _ _ e5B, e6, small2 (by rw [List.length_take]; show _ + 1 ≤ 100000; omega), fun l7 h7 => ?_⟩
      have s7z := Same.upd (o := .lst (ys.take (dn + 1) ++ [x])) h7
      have e7 : upd HC l7 (.lst (ys.take (dn + 1) ++ [x])) l7 = some (.lst (ys.take (dn + 1) ++ [x])) := upd_same
      generalize upd HC l7 (.lst (ys.take (dn + 1) ++ [x])) = HD at s7z e7 ⊢
      have sBD := s6z.trans s7z
      refine ⟨_, rfl, _, rfl, 1 + d, rfl, lr, ys, rfl, SqL.of (sBD _ _ hrB), fun l8 h8 => ?_⟩
      have s8z := Same.upd (o := .lst (cutV ys (some (1 + d)) none)) h8
      have e8 : upd HD l8 (.lst (cutV ys (some (1 + d)) none)) l8 = some (.lst (cutV ys (some (1 + d)) none)) := upd_same
      have ecut2 : cutV ys (some (1 + d)) none = ys.drop (dn + 1) := by
        rw [show (1 : Int) + d = ((dn + 1 : Nat) : Int) by omega]
        exact cut_suf (by omega)
      generalize upd HD l8 (.lst (cutV ys (some (1 + d)) none)) = HE at s8z e8 ⊢
      rw [ecut2] at e8
      refine ⟨l7, l8, _, _, rfl, rfl, s8z _ _ e7, e8, small2 (by rw [List.length_append, List.length_take, List.length_drop]; show _ + 1 + _ ≤ 100000; omega), fun l9 h9 => ?_⟩
      have s9z := Same.upd (o := .lst ((ys.take (dn + 1) ++ [x]) ++ ys.drop (dn + 1))) h9
      have e9 : upd HE l9 (.lst ((ys.take (dn + 1) ++ [x]) ++ ys.drop (dn + 1))) l9 = some (.lst ((ys.take (dn + 1) ++ [x]) ++ ys.drop (dn + 1))) := upd_same
      generalize upd HE l9 (.lst ((ys.take (dn + 1) ++ [x]) ++ ys.drop (dn + 1))) = HF at s9z e9 ⊢
      have sBE := sBD.trans s8z
      have sBF := sBE.trans s9z
      have ebent : (ys.take (dn + 1) ++ [x]) ++ ys.drop (dn + 1) = ys.take (dn + 1) ++ x :: ys.drop (dn + 1) := by rw [List.append_assoc]; rfl
      rw [ebent] at e9
      have odE := od.same sBE
      have odF := od.same sBF
      have hyE := hyB.same sBE
      have hyF := hyB.same sBF
      have tk : (ys.take (dn + 1)).length = dn + 1 := by rw [List.length_take]; omega
      have rpx : ∀ {Hq : Hp}, OddT K (t.1 + t.2.1 * r) Hq x → RpOk Hq x := fun {Hq} o => by
        cases o with
        | mk all => exact (all Hq fun _ _ _ h => h).2.1
        | ear e =>
          have q1 := PB_mul (i := t.2.1) (j := r) (n := 811) (m := 812) (by omega) btt.p r0 (by omega)
          have q2 : PB (811 + 812) = PB 1623 := rfl
          have q3 : PB 811 ≤ PB 1623 := PB_le (by decide)
          have q4 : PB 1624 = PB 1623 + PB 1623 := PB_succ 1623
          have q5 := btt.s
          exact rp_tr3 (c := some 1) e (rp_int (n := 1625) (PB_abs (n := 1624) (by omega) (by omega)) (by decide) (by decide)) (by decide) fun k hk => by cases hk; decide
      have hlast : (us.take (dn + 1)).getLast? = some t := by
        rw [List.getLast?_take, if_neg (by omega), Nat.add_sub_cancel, ht]
        rfl
      refine ⟨_, rfl, .ref l9, rfl, rp_lst h9 s9z e9 (fun e => by simp at e) (by rw [List.length_append, List.length_cons, tk, List.length_drop]; omega) (fun y hy => ?_), .inr ⟨((ys.take (dn + 1)).length : Nat), .item (ts := us.take (dn + 1)) (n := 811) e9 (hyF.take _) ⟨fun u hu => rs.1 u (List.mem_of_mem_take hu), rs.2.sublist (List.take_sublist _ _)⟩ (fun u hu => rb u (List.mem_of_mem_take hu)) (by decide) (by rw [List.length_append, List.length_cons, tk, List.length_drop]; omega) ?_, fun HG sG => ?_⟩⟩
      · rcases List.mem_append.mp hy with hy | hy
        · exact rpI hyE y (List.mem_of_mem_take hy)
        · rcases List.mem_cons.mp hy with rfl | hy
          · exact rpx odE
          · exact rpI hyE y (List.mem_of_mem_drop hy)
      · cases odF with
        | mk all => exact .inr (.inl (all HF fun _ _ _ h => h).1)
        | @ear bb e =>
          cases hk : t.2.2 with
          | none => exact .inl ⟨t, hlast, hk⟩
          | some c =>
            refine .inr (.inr ⟨(t.1 + t.2.1 * r, 1, some 1), t, c, ⟨bb, rfl, e⟩, ⟨by show 0 ≤ t.1 + t.2.1 * r; omega, (by show (1 : Int) ≤ 1; decide), fun c hc => by cases hc; decide⟩, hlast, hk, ?_⟩)
            have hc := m3 c hk
            have : t.2.1 * r ≤ t.2.1 * (c - 1) := Int.mul_le_mul_of_nonneg_left (by omega) (by omega)
            rw [Int.mul_comm (c - 1)]
            show t.1 + t.2.1 * r ≤ t.1 + t.2.1 * (c - 1)
            omega
      refine ⟨_, rfl, rfl, _, rfl, ite2 (fun c => ?_) (fun _ => ?_)⟩
      · have e : V.int (((ys.take (dn + 1)).length : Nat) : Int) = V.int (1 + d) := by
          rw [tk]
          congr 1
          omega
        have c : (!decide (V.int (((ys.take (dn + 1)).length : Nat) : Int) = V.int (1 + d))) = true := c
        rw [decide_eq_true e] at c
        cases c
      have neq : ∃ q : Bool, (∀ (Hq : Hp) (te : Addr), Same HE Hq → Hq te = some (.tup [.int (t.1 + t.2.1 * r), .int 1, .int 1]) → ∀ Rq : VK, Rq (.bl q) Hq → rNe09 K x (.ref te) Hq Rq) ∧ (q = true → NoTr HE x) := by
        cases odE with
        | mk all =>
          obtain ⟨no, rp, ne⟩ := all HE fun _ _ _ h => h
          rcases ne with ⟨dd, h1, h2, h3⟩ | ⟨ad, rfl, h⟩
          · exact ⟨true, fun Hq te sq et Rq rq => .inl ⟨dd, trE _, DpK.same sq h1, trE_dp et, h2, trE_sh _, by rw [h3]; exact rq⟩, fun _ => no⟩
          · exact ⟨true, fun Hq te sq et Rq rq => .inr ⟨ad, te, _, rfl, rfl, sq _ _ h, et, rq⟩, fun _ => no⟩
        | ear e => exact ⟨false, fun Hq te sq et Rq rq => .inl ⟨trE _, trE _, trE_dp (sq _ _ e), trE_dp et, trE_sh _, trE_sh _, by rw [trE_eq]; exact rq⟩, fun z => nomatch z⟩
      obtain ⟨q, nq, qn⟩ := neq
      have sEG := s9z.trans sG
      have e9G := sG _ _ e9
      have hax : atI (ys.take (dn + 1) ++ x :: ys.drop (dn + 1)) (1 + d) = some x := by
        rw [show (1 : Int) + d = ((dn + 1 : Nat) : Int) by omega]
        exact atI_nat (by rw [List.getElem?_append_right (by omega), tk, Nat.sub_self]; rfl)
      refine ⟨_, rfl, _, rfl, l9, _, 1 + d, x, rfl, rfl, SqL.of e9G, hax, (by show 1 ≤ sizeLine; decide), fun p1 hp1 => ?_⟩
      have w1 := Same.upd (o := .lst [x]) hp1
      have ep1 : upd HG p1 (.lst [x]) p1 = some (.lst [x]) := upd_same
      generalize upd HG p1 (.lst [x]) = J1 at w1 ep1 ⊢
      refine ⟨_, rfl, _, rfl, l9, _, 1 + d, x, rfl, rfl, SqL.of (w1 _ _ e9G), hax, _, rfl, (by show 3 ≤ sizeLine; decide), fun te hte => ?_⟩
      have w2 := Same.upd (o := .tup [.int (t.1 + t.2.1 * r), .int 1, .int 1]) hte
      have ete : upd J1 te (.tup [.int (t.1 + t.2.1 * r), .int 1, .int 1]) te = some (.tup [.int (t.1 + t.2.1 * r), .int 1, .int 1]) := upd_same
      show rNe09 _ x (.ref te) (upd J1 te (.tup [.int (t.1 + t.2.1 * r), .int 1, .int 1])) _
      generalize upd J1 te (.tup [.int (t.1 + t.2.1 * r), .int 1, .int 1]) = J2 at w2 ete ⊢
      refine nq J2 te (sEG.trans (w1.trans w2)) ete _ (.inr ⟨q, rfl, ?_⟩)
      refine ⟨p1, (if q = true then 1 else 0), [x], rfl, rfl, w2 _ _ ep1, by cases q <;> decide, by cases q <;> decide, ?_, fun p2 hp2 => ?_⟩
      · cases q
        · exact Nat.zero_le _
        · show 1 * 1 ≤ sizeLine
          decide
      obtain ⟨fl, hfl⟩ : ∃ fl, fl = (List.replicate (if q = true then (1 : Int) else 0).toNat [x]).flatten := ⟨_, rfl⟩
      rw [← hfl]
      have shape : ∃ y post, fl ++ [V.non] = y :: post ∧ NoTr HE y ∧ post.length ≤ 1 ∧ ∀ v ∈ y :: post, RpOk HE v := by
        have rn : RpOk HE .non := fun g => ⟨_, .plain .non, by decide +kernel⟩
        cases q with
        | false => exact ⟨.non, [], by rw [hfl]; rfl, .kind .non (by decide), by decide, fun v hv => by rw [List.mem_singleton.mp hv]; exact rn⟩
        | true =>
          refine ⟨x, [.non], by rw [hfl]; rfl, qn rfl, by decide, fun v hv => ?_⟩
          rcases List.mem_cons.mp hv with rfl | hv
          · exact rpx odE
          · rw [List.mem_singleton.mp hv]
            exact rn
      have w3 := Same.upd (o := .lst fl) hp2
      have ep2 : upd J2 p2 (.lst fl) p2 = some (.lst fl) := upd_same
      generalize upd J2 p2 (.lst fl) = J3 at w3 ep2 ⊢
      refine ⟨(by show 1 ≤ sizeLine; decide), fun p3 hp3 => ?_⟩
      have w4 := Same.upd (o := .lst [.non]) hp3
      have ep3 : upd J3 p3 (.lst [.non]) p3 = some (.lst [.non]) := upd_same
      generalize upd J3 p3 (.lst [.non]) = J4 at w4 ep3 ⊢
      obtain ⟨y, post, hyp, noy, pl1, rpy⟩ := shape
      refine ⟨p2, p3, _, _, rfl, rfl, w4 _ _ ep2, ep3, small2 (by rw [← List.length_append, hyp, List.length_cons]; omega), fun p4 hp4 => ?_⟩
      rw [hyp]
      have w5 := Same.upd (o := .lst (y :: post)) hp4
      have ep4 : upd J4 p4 (.lst (y :: post)) p4 = some (.lst (y :: post)) := upd_same
      generalize upd J4 p4 (.lst (y :: post)) = J5 at w5 ep4 ⊢
      have sEJ := sEG.trans (((w1.trans w2).trans w3).trans w4)
      refine ⟨.ref p4, rfl, rp_lst hp4 w5 ep4 (fun z => nomatch z) (by rw [List.length_cons]; omega) (fun v hv => (rpy v hv).same sEJ), .inr ⟨_, .item (pre := []) (ts := []) (n := 0) ep4 .nil ⟨fun u hu => by simp at hu, List.Pairwise.nil⟩ (fun u hu => by simp at hu) (by decide) (by rw [List.nil_append, List.length_cons]; omega) (.inr (.inl ((noy.same sEJ).same w5))), fun J6 w6 => ?_⟩⟩
      refine ⟨rfl, _, rfl, ite2 (fun c => (by simp at c)) (fun _ => ?_)⟩
      have sBJ : Same HB J6 := ((sBE.trans sEJ).trans w5).trans w6
      refine ⟨_, _, _, _, _, _, _, rfl, ?_, (srcB.same sBJ).mono (by omega)⟩
      exact (((((kx.trans ky).trans kz).trans (Kp.of s5z)).trans kB).trans (Kp.of sBJ))
    rintro σ H9 ⟨v3', v4', v5', v7', v8', v9', v10', rfl, k9, src9⟩
    obtain ⟨y8, hy8'⟩ := src8.has
    have hr9 := k9 _ _ lrs hr8
    have hy9 := hy8.nl (Kp.nl k9 hy8')
    have hL9 := k9 _ _ nls hL8
    refine ⟨(by show 0 ≤ sizeLine; decide), fun q1 hq1 => ?_⟩
    have w1 := Same.upd (o := .tup []) hq1
    have eq1 : upd H9 q1 (.tup []) q1 = some (.tup []) := upd_same
    generalize upd H9 q1 (.tup []) = J1 at w1 eq1 ⊢
    refine ⟨_, rfl, lr, ys, rfl, .inl ⟨SqL.of (w1 _ _ hr9), fun q2 hq2 => ?_⟩⟩
    have w2 := Same.upd (o := .tup ys) hq2
    have eq2 : upd J1 q2 (.tup ys) q2 = some (.tup ys) := upd_same
    have rp2 := rp_tup hq2 w2 eq2 (by omega) (rpI (hy9.same w1))
    generalize upd J1 q2 (.tup ys) = J2 at w2 eq2 rp2 ⊢
    refine fun q3 hq3 => ?_
    have w3 := Same.upd (o := .dK []) hq3
    have eq3 : upd J2 q3 (.dK []) q3 = some (.dK []) := upd_same
    generalize upd J2 q3 (.dK []) = J3 at w3 eq3 ⊢
    refine ⟨1001, rfl, by decide, by decide, fun D2 hD2 => ?_⟩
    refine lc_range (lo := 0) (n := (1001 : Int).toNat) (fun j Hx => ∃ ws, Hx D2 = some (.lst ws) ∧ Trs Hx ws (oneT (fun i => (i : Int)) j) ∧ Same J3 Hx) ⟨[], upd_same, .nil, Same.upd hD2⟩ ?_ ?_
    · rintro j Hx hj ⟨ws, hD, hw, sx⟩
      have hj' : j < 1001 := hj
      refine ⟨rfl, tYes_of ⟨_, rfl, (by show 3 ≤ sizeLine; decide), fun nt hnt => ?_⟩⟩
      have sn := Same.upd (o := .tup [.int (0 + (j : Int)), .int 1, .int 1]) hnt
      have wl := hw.len
      rw [oneT_len] at wl
      have hDy := sn _ _ hD
      refine ⟨ws, hDy, small1 (by omega), ws ++ [.ref nt], upd_same, ?_, fun bb o e => ?_⟩
      · rw [oneT_succ]
        exact Trs.nl (NL.upd hDy) ((hw.same sn).app (Trs.one ⟨nt, rfl, by rw [upd_same, Int.zero_add]; rfl⟩))
      · rw [upd_ne (ne_of_none e hD2)]
        exact sn _ _ (sx _ _ e)
    rintro J4 ⟨wa, hDa, hwa, w4⟩
    have wal := hwa.len
    rw [oneT_len] at wal
    refine ⟨(by show 8 ≤ sizeLine; decide), fun tq htq => ?_⟩
    have w5 := Same.upd (o := .tup [.non, .int 5, .str "[]", .ref q1, .ref q2, .ref q3, .bl true, .ref D2]) htq
    have etq : upd J4 tq (.tup [.non, .int 5, .str "[]", .ref q1, .ref q2, .ref q3, .bl true, .ref D2]) tq = some (.tup [.non, .int 5, .str "[]", .ref q1, .ref q2, .ref q3, .bl true, .ref D2]) := upd_same
    generalize upd J4 tq (.tup [.non, .int 5, .str "[]", .ref q1, .ref q2, .ref q3, .bl true, .ref D2]) = J5 at w5 etq ⊢
    have w35 := w4.trans w5
    have w25 := w3.trans w35
    have w15 := w2.trans w25
    have odd : ∀ v ∈ ([.non, .int 5, .str "[]", .ref q1, .ref q2, .ref q3, .bl true, .ref D2] : List V), OddL J5 v := by
      intro v hv
      simp only [List.mem_cons, List.mem_nil_iff, or_false] at hv
      rcases hv with rfl | rfl | rfl | rfl | rfl | rfl | rfl | rfl
      · exact ⟨fun g => ⟨_, .flat (.plain .non)⟩, .kind .non (by decide)⟩
      · exact ⟨fun g => ⟨_, .flat (.plain (.int _ (by decide +kernel)))⟩, .kind (.int _) (by decide)⟩
      · exact ⟨fun g => ⟨_, .flat (.plain (.str _ (by decide +kernel)))⟩, .kind (.str _) (by decide)⟩
      · exact ⟨fun g => ⟨_, .flat (.tup (w15 _ _ eq1) .nil (by decide +kernel))⟩, .kind (.tup (w15 _ _ eq1)) (by decide)⟩
      · exact ⟨fun g => (rp2 g).imp fun z h => h.mv w25, .kind (.tup (w25 _ _ eq2)) (by decide)⟩
      · exact ⟨fun g => ⟨_, .flat (.dic (w35 _ _ eq3))⟩, .kind (.dK (w35 _ _ eq3)) (by decide)⟩
      · exact ⟨fun g => ⟨_, .flat (.plain (.bl _))⟩, .kind (.bl _) (by decide)⟩
      · have wal' : wa.length = 1001 := wal
        exact OddL.same ⟨rp_trs hDa hwa (fun z => by rw [z] at wal'; cases wal') (by omega) (rp_one hwa fun i hi => by
          have : i < 1001 := hi
          omega), .many hDa (by omega)⟩ w5
    generalize ([.non, .int 5, .str "[]", .ref q1, .ref q2, .ref q3, .bl true, .ref D2] : List V) = its8 at etq odd ⊢
    refine ⟨tq, rfl, ⟨_, SqT.of etq⟩, ?_⟩
    refine for_tup (K := K) (a := tq) (xs := its8) (fun i σ Hx => ∃ v11' : Option V, σ = [some (.ref a), some (.int cc), some (.ref s), v3', v4', v5', some (.ref lr), v7', v8', v9', v10', v11'] ∧ Same J5 Hx) ⟨_, rfl, Same.refl _⟩ (fun i σ Hx _ ⟨_, _, e⟩ => SqT.of (e _ _ etq)) ?_ ?_
    · rintro i v σ Hx hi ⟨v11', rfl, ex⟩
      obtain ⟨rpv, bad⟩ := (odd v (List.mem_of_getElem? hi)).same ex
      refine ⟨_, rfl, v, rfl, rpv, .inr ⟨_, bad, fun H' s' => ⟨1, rfl, rfl, _, rfl, ite2 (fun c => (by simp at c)) (fun _ => ⟨_, rfl, ex.trans s'⟩)⟩⟩⟩
    rintro σ J6 ⟨v11', rfl, w6⟩
    have hL6' := w6 _ _ (w15 _ _ (w1 _ _ hL9))
    refine ⟨1000, rfl, by decide, by decide, fun D3 hD3 => ?_⟩
    refine lc_range (lo := 0) (n := (1000 : Int).toNat) (fun j Hx => ∃ ws, Hx D3 = some (.lst ws) ∧ Trs Hx ws (oneT (fun i => 2 * (i : Int)) j) ∧ Same J6 Hx) ⟨[], upd_same, .nil, Same.upd hD3⟩ ?_ ?_
    · rintro j Hx hj ⟨ws, hD, hw, sx⟩
      have hj' : j < 1000 := hj
      refine ⟨rfl, tYes_of ⟨_, rfl, _, _, rfl, rfl, wide_mul (a := 10) (b := 10) (by decide) (by show (0 + (j : Int)).natAbs < 1024; omega) (by decide) (by decide) (by decide), (by show 3 ≤ sizeLine; decide), fun nt hnt => ?_⟩⟩
      have sn := Same.upd (o := .tup [.int (2 * (0 + (j : Int))), .int 1, .int 1]) hnt
      have wl := hw.len
      rw [oneT_len] at wl
      have hDy := sn _ _ hD
      refine ⟨ws, hDy, small1 (by omega), ws ++ [.ref nt], upd_same, ?_, fun bb o e => ?_⟩
      · rw [oneT_succ]
        exact Trs.nl (NL.upd hDy) ((hw.same sn).app (Trs.one ⟨nt, rfl, by
          show upd Hx nt (.tup [.int (2 * (0 + (j : Int))), .int 1, .int 1]) nt = _
          rw [upd_same, Int.zero_add]
          rfl⟩))
      · rw [upd_ne (ne_of_none e hD3)]
        exact sn _ _ (sx _ _ e)
    rintro J7 ⟨wb, hDb, hwb, w7⟩
    have wbl : wb.length = 1000 := by
      have := hwb.len
      rw [oneT_len] at this
      exact this
    have sb : Srt (oneT (fun i => 2 * (i : Int)) 1000) := by
      refine ⟨fun t ht => ?_, List.pairwise_map.mpr (List.pairwise_lt_range.imp fun {x y} h => ⟨1, rfl, ?_⟩)⟩
      · obtain ⟨i, _, rfl⟩ := oneT_mem ht
        exact ⟨by show 0 ≤ 2 * (i : Int); omega, (by show (1 : Int) ≤ 1; decide), fun c hc => by cases hc; decide⟩
      · show 2 * (x : Int) + (1 - 1) * 1 < 2 * (y : Int)
        omega
    have bb : ∀ t ∈ oneT (fun i => 2 * (i : Int)) 1000, BT 11 t := fun t ht => by
      obtain ⟨i, hi, rfl⟩ := oneT_mem ht
      have e : PB 11 = 2048 := by unfold PB; decide
      refine ⟨by show 2 * (i : Int) ≤ PB 11; omega, by show (1 : Int) ≤ PB 11; omega, fun c hc => ?_⟩
      cases hc
      show 2 * (i : Int) + (1 - 1) * 1 ≤ PB 11
      omega
    refine ⟨.ref D3, rfl, rp_trs hDb hwb (fun z => by rw [z] at wbl; cases wbl) (by omega) (rp_one hwb fun i hi => by
      have : i < 1000 := hi
      omega), .inl ⟨D3, wb, _, 11, rfl, hDb, hwb, sb, bb, by decide, by rw [oneT_len]; decide, fun J8 w8 => ?_⟩⟩
    refine ⟨rfl, _, rfl, ite2 (fun c => (by simp at c)) (fun _ => ?_)⟩
    exact ⟨_, _, _, _, _, _, _, _, _, _, _, rfl, w8 _ _ (w7 _ _ hL6')⟩
end
/-! ### the end -/
theorem bn_q0 (kV doc pm : Value) (an : Option Addr) (cdv ct : Value) (us : List Value) (hl : us.length = (["k"] : List Str).length) : bindArgs (PySem.W.fnOf "_wall" "_wall" (defArgs st__wall) (defBody st__wall) (defScope st__wall) .none kV doc pm an cdv ct) ⟨us, []⟩ = pure ((["k"] : List Str).zip us) :=
  match us, hl with | [_], _ => rfl
theorem bn_q1 (kV doc pm : Value) (an : Option Addr) (cdv ct : Value) (us : List Value) (hl : us.length = (["value"] : List Str).length) : bindArgs (PySem.W.fnOf "is_integer" "is_integer" (defArgs st_is_integer) (defBody st_is_integer) (defScope st_is_integer) .none kV doc pm an cdv ct) ⟨us, []⟩ = pure ((["value"] : List Str).zip us) :=
  match us, hl with | [_], _ => rfl
theorem bn_q2 (kV doc pm : Value) (an : Option Addr) (cdv ct : Value) (us : List Value) (hl : us.length = (["value", "least"] : List Str).length) : bindArgs (PySem.W.fnOf "is_at_least" "is_at_least" (defArgs st_is_at_least) (defBody st_is_at_least) (defScope st_is_at_least) .none kV doc pm an cdv ct) ⟨us, []⟩ = pure ((["value", "least"] : List Str).zip us) :=
  match us, hl with | [_, _], _ => rfl
theorem bn_q3 (kV doc pm : Value) (an : Option Addr) (cdv ct : Value) (us : List Value) (hl : us.length = (["distance", "step"] : List Str).length) : bindArgs (PySem.W.fnOf "steps_to" "steps_to" (defArgs st_steps_to) (defBody st_steps_to) (defScope st_steps_to) .none kV doc pm an cdv ct) ⟨us, []⟩ = pure ((["distance", "step"] : List Str).zip us) :=
  match us, hl with | [_, _], _ => rfl
theorem bn_q4 (kV doc pm : Value) (an : Option Addr) (cdv ct : Value) (us : List Value) (hl : us.length = (["numbers", "bound"] : List Str).length) : bindArgs (PySem.W.fnOf "count_below" "count_below" (defArgs st_count_below) (defBody st_count_below) (defScope st_count_below) .none kV doc pm an cdv ct) ⟨us, []⟩ = pure ((["numbers", "bound"] : List Str).zip us) :=
  match us, hl with | [_, _], _ => rfl
theorem bn_q5 (kV doc pm : Value) (an : Option Addr) (cdv ct : Value) (us : List Value) (hl : us.length = (["value"] : List Str).length) : bindArgs (PySem.W.fnOf "is_train" "is_train" (defArgs st_is_train) (defBody st_is_train) (defScope st_is_train) .none kV doc pm an cdv ct) ⟨us, []⟩ = pure ((["value"] : List Str).zip us) :=
  match us, hl with | [_], _ => rfl
theorem bn_q6 (kV doc pm : Value) (an : Option Addr) (cdv ct : Value) (us : List Value) (hl : us.length = (["train"] : List Str).length) : bindArgs (PySem.W.fnOf "last_time" "last_time" (defArgs st_last_time) (defBody st_last_time) (defScope st_last_time) .none kV doc pm an cdv ct) ⟨us, []⟩ = pure ((["train"] : List Str).zip us) :=
  match us, hl with | [_], _ => rfl
theorem bn_q7 (kV doc pm : Value) (an : Option Addr) (cdv ct : Value) (us : List Value) (hl : us.length = (["train", "time"] : List Str).length) : bindArgs (PySem.W.fnOf "times_before" "times_before" (defArgs st_times_before) (defBody st_times_before) (defScope st_times_before) .none kV doc pm an cdv ct) ⟨us, []⟩ = pure ((["train", "time"] : List Str).zip us) :=
  match us, hl with | [_, _], _ => rfl
theorem bn_q8 (kV doc pm : Value) (an : Option Addr) (cdv ct : Value) (us : List Value) (hl : us.length = (["train", "low", "high"] : List Str).length) : bindArgs (PySem.W.fnOf "part_of" "part_of" (defArgs st_part_of) (defBody st_part_of) (defScope st_part_of) .none kV doc pm an cdv ct) ⟨us, []⟩ = pure ((["train", "low", "high"] : List Str).zip us) :=
  match us, hl with | [_, _, _], _ => rfl
theorem bn_q9 (kV doc pm : Value) (an : Option Addr) (cdv ct : Value) (us : List Value) (hl : us.length = (["train", "following"] : List Str).length) : bindArgs (PySem.W.fnOf "joined" "joined" (defArgs st_joined) (defBody st_joined) (defScope st_joined) .none kV doc pm an cdv ct) ⟨us, []⟩ = pure ((["train", "following"] : List Str).zip us) :=
  match us, hl with | [_, _], _ => rfl
theorem bn_q10 (kV doc pm : Value) (an : Option Addr) (cdv ct : Value) (us : List Value) (hl : us.length = (["trains"] : List Str).length) : bindArgs (PySem.W.fnOf "normal_form" "normal_form" (defArgs st_normal_form) (defBody st_normal_form) (defScope st_normal_form) .none kV doc pm an cdv ct) ⟨us, []⟩ = pure ((["trains"] : List Str).zip us) :=
  match us, hl with | [_], _ => rfl
theorem bn_q11 (kV doc pm : Value) (an : Option Addr) (cdv ct : Value) (us : List Value) (hl : us.length = (["train"] : List Str).length) : bindArgs (PySem.W.fnOf "with_plain_step" "with_plain_step" (defArgs st_with_plain_step) (defBody st_with_plain_step) (defScope st_with_plain_step) .none kV doc pm an cdv ct) ⟨us, []⟩ = pure ((["train"] : List Str).zip us) :=
  match us, hl with | [_], _ => rfl
theorem bn_q12 (kV doc pm : Value) (an : Option Addr) (cdv ct : Value) (us : List Value) (hl : us.length = (["trains"] : List Str).length) : bindArgs (PySem.W.fnOf "counts_ahead" "counts_ahead" (defArgs st_counts_ahead) (defBody st_counts_ahead) (defScope st_counts_ahead) .none kV doc pm an cdv ct) ⟨us, []⟩ = pure ((["trains"] : List Str).zip us) :=
  match us, hl with | [_], _ => rfl
theorem bn_q13 (kV doc pm : Value) (an : Option Addr) (cdv ct : Value) (us : List Value) (hl : us.length = (["trains"] : List Str).length) : bindArgs (PySem.W.fnOf "total_count" "total_count" (defArgs st_total_count) (defBody st_total_count) (defScope st_total_count) .none kV doc pm an cdv ct) ⟨us, []⟩ = pure ((["trains"] : List Str).zip us) :=
  match us, hl with | [_], _ => rfl
theorem bn_q14 (kV doc pm : Value) (an : Option Addr) (cdv ct : Value) (us : List Value) (hl : us.length = (["trains"] : List Str).length) : bindArgs (PySem.W.fnOf "check_trains" "check_trains" (defArgs st_check_trains) (defBody st_check_trains) (defScope st_check_trains) .none kV doc pm an cdv ct) ⟨us, []⟩ = pure ((["trains"] : List Str).zip us) :=
  match us, hl with | [_], _ => rfl
theorem bn_q15 (kV doc pm : Value) (an : Option Addr) (cdv ct : Value) (us : List Value) (hl : us.length = (["one", "other"] : List Str).length) : bindArgs (PySem.W.fnOf "is_behind" "is_behind" (defArgs st_is_behind) (defBody st_is_behind) (defScope st_is_behind) .none kV doc pm an cdv ct) ⟨us, []⟩ = pure ((["one", "other"] : List Str).zip us) :=
  match us, hl with | [_, _], _ => rfl
theorem bn_q16 (kV doc pm : Value) (an : Option Addr) (cdv ct : Value) (us : List Value) (hl : us.length = (["runs"] : List Str).length) : bindArgs (PySem.W.fnOf "trains_of" "trains_of" (defArgs st_trains_of) (defBody st_trains_of) (defScope st_trains_of) .none kV doc pm an cdv ct) ⟨us, []⟩ = pure ((["runs"] : List Str).zip us) :=
  match us, hl with | [_], _ => rfl
theorem bn_q17 (kV doc pm : Value) (an : Option Addr) (cdv ct : Value) (us : List Value) (hl : us.length = (["trains", "time"] : List Str).length) : bindArgs (PySem.W.fnOf "count_before" "count_before" (defArgs st_count_before) (defBody st_count_before) (defScope st_count_before) .none kV doc pm an cdv ct) ⟨us, []⟩ = pure ((["trains", "time"] : List Str).zip us) :=
  match us, hl with | [_, _], _ => rfl
theorem bn_q18 (kV doc pm : Value) (an : Option Addr) (cdv ct : Value) (us : List Value) (hl : us.length = (["_law_script", "_law_place"] : List Str).length) : bindArgs (PySem.W.fnOf "_law_cell_at" "_law_cell_at" (defArgs st__law_cell_at) (defBody st__law_cell_at) (defScope st__law_cell_at) .none kV doc pm an cdv ct) ⟨us, []⟩ = pure ((["_law_script", "_law_place"] : List Str).zip us) :=
  match us, hl with | [_, _], _ => rfl
theorem bn_q19 (kV doc pm : Value) (an : Option Addr) (cdv ct : Value) (us : List Value) (hl : us.length = (["_law_cell"] : List Str).length) : bindArgs (PySem.W.fnOf "_law_source_of" "_law_source_of" (defArgs st__law_source_of) (defBody st__law_source_of) (defScope st__law_source_of) .none kV doc pm an cdv ct) ⟨us, []⟩ = pure ((["_law_cell"] : List Str).zip us) :=
  match us, hl with | [_], _ => rfl
theorem bn_q20 (kV doc pm : Value) (an : Option Addr) (cdv ct : Value) (us : List Value) (hl : us.length = (["_law_source", "_law_bound"] : List Str).length) : bindArgs (PySem.W.fnOf "_law_draw" "_law_draw" (defArgs st__law_draw) (defBody st__law_draw) (defScope st__law_draw) .none kV doc pm an cdv ct) ⟨us, []⟩ = pure ((["_law_source", "_law_bound"] : List Str).zip us) :=
  match us, hl with | [_, _], _ => rfl
theorem bn_q21 (kV doc pm : Value) (an : Option Addr) (cdv ct : Value) (us : List Value) (hl : us.length = (["_law_source", "_law_options"] : List Str).length) : bindArgs (PySem.W.fnOf "_law_choice" "_law_choice" (defArgs st__law_choice) (defBody st__law_choice) (defScope st__law_choice) .none kV doc pm an cdv ct) ⟨us, []⟩ = pure ((["_law_source", "_law_options"] : List Str).zip us) :=
  match us, hl with | [_, _], _ => rfl
theorem bn_q22 (kV doc pm : Value) (an : Option Addr) (cdv ct : Value) (us : List Value) (hl : us.length = (["_law_source", "_law_far", "_law_most"] : List Str).length) : bindArgs (PySem.W.fnOf "_law_rows" "_law_rows" (defArgs st__law_rows) (defBody st__law_rows) (defScope st__law_rows) .none kV doc pm an cdv ct) ⟨us, []⟩ = pure ((["_law_source", "_law_far", "_law_most"] : List Str).zip us) :=
  match us, hl with | [_, _, _], _ => rfl
theorem bn_q23 (kV doc pm : Value) (an : Option Addr) (cdv ct : Value) (us : List Value) (hl : us.length = (["_law_value"] : List Str).length) : bindArgs (PySem.W.fnOf "_law_told" "_law_told" (defArgs st__law_told) (defBody st__law_told) (defScope st__law_told) .none kV doc pm an cdv ct) ⟨us, []⟩ = pure ((["_law_value"] : List Str).zip us) :=
  match us, hl with | [_], _ => rfl
theorem bn_q24 (kV doc pm : Value) (an : Option Addr) (cdv ct : Value) (us : List Value) (hl : us.length = (["_law_source", "_law_early"] : List Str).length) : bindArgs (PySem.W.fnOf "_law_odd" "_law_odd" (defArgs st__law_odd) (defBody st__law_odd) (defScope st__law_odd) .none kV doc pm an cdv ct) ⟨us, []⟩ = pure ((["_law_source", "_law_early"] : List Str).zip us) :=
  match us, hl with | [_, _], _ => rfl
theorem bn_NTrains (kV doc pm : Value) (an : Option Addr) (cdv ct : Value) (us : List Value) (hl : us.length = (["self", "trains"] : List Str).length) : bindArgs (PySem.W.fnOf "__init__" "Trains.__init__" (defArgs st_Trains_init) (defBody st_Trains_init) (defScope st_Trains_init) .none kV doc pm an cdv ct) ⟨us, []⟩ = pure ((["self", "trains"] : List Str).zip us) :=
  match us, hl with | [_, _], _ => rfl
theorem bn_q25 (kV doc pm : Value) (an : Option Addr) (cdv ct : Value) (us : List Value) (hl : us.length = (["self"] : List Str).length) : bindArgs (PySem.W.fnOf "train_list" "Trains.train_list" (defArgs st_Trains_train_list) (defBody st_Trains_train_list) (defScope st_Trains_train_list) .none kV doc pm an cdv ct) ⟨us, []⟩ = pure ((["self"] : List Str).zip us) :=
  match us, hl with | [_], _ => rfl
theorem bn_q26 (kV doc pm : Value) (an : Option Addr) (cdv ct : Value) (us : List Value) (hl : us.length = (["self"] : List Str).length) : bindArgs (PySem.W.fnOf "__len__" "Trains.__len__" (defArgs st_Trains_len) (defBody st_Trains_len) (defScope st_Trains_len) .none kV doc pm an cdv ct) ⟨us, []⟩ = pure ((["self"] : List Str).zip us) :=
  match us, hl with | [_], _ => rfl
theorem bn_q27 (kV doc pm : Value) (an : Option Addr) (cdv ct : Value) (us : List Value) (hl : us.length = (["self", "x"] : List Str).length) : bindArgs (PySem.W.fnOf "__contains__" "Trains.__contains__" (defArgs st_Trains_contains) (defBody st_Trains_contains) (defScope st_Trains_contains) .none kV doc pm an cdv ct) ⟨us, []⟩ = pure ((["self", "x"] : List Str).zip us) :=
  match us, hl with | [_, _], _ => rfl
theorem bn_q28 (kV doc pm : Value) (an : Option Addr) (cdv ct : Value) (us : List Value) (hl : us.length = (["self", "at"] : List Str).length) : bindArgs (PySem.W.fnOf "__getitem__" "Trains.__getitem__" (defArgs st_Trains_getitem) (defBody st_Trains_getitem) (defScope st_Trains_getitem) .none kV doc pm an cdv ct) ⟨us, []⟩ = pure ((["self", "at"] : List Str).zip us) :=
  match us, hl with | [_, _], _ => rfl
theorem bn_q29 (kV doc pm : Value) (an : Option Addr) (cdv ct : Value) (us : List Value) (hl : us.length = (["self", "other"] : List Str).length) : bindArgs (PySem.W.fnOf "__add__" "Trains.__add__" (defArgs st_Trains_add) (defBody st_Trains_add) (defScope st_Trains_add) .none kV doc pm an cdv ct) ⟨us, []⟩ = pure ((["self", "other"] : List Str).zip us) :=
  match us, hl with | [_, _], _ => rfl
theorem bn_q30 (kV doc pm : Value) (an : Option Addr) (cdv ct : Value) (us : List Value) (hl : us.length = (["self", "other"] : List Str).length) : bindArgs (PySem.W.fnOf "__eq__" "Trains.__eq__" (defArgs st_Trains_eq) (defBody st_Trains_eq) (defScope st_Trains_eq) .none kV doc pm an cdv ct) ⟨us, []⟩ = pure ((["self", "other"] : List Str).zip us) :=
  match us, hl with | [_, _], _ => rfl
theorem bn_NInvalidTrains (kV doc pm : Value) (an : Option Addr) (cdv ct : Value) (us : List Value) (hl : us.length = (["self", "at"] : List Str).length) : bindArgs (PySem.W.fnOf "__init__" "InvalidTrains.__init__" (defArgs st_InvalidTrains_init) (defBody st_InvalidTrains_init) (defScope st_InvalidTrains_init) .none kV doc pm an cdv ct) ⟨us, []⟩ = pure ((["self", "at"] : List Str).zip us) :=
  match us, hl with | [_, _], _ => rfl
theorem mk_dfn {K : PySem.W.Frag} {h : Heap} {mg : Str → Option Value} {x : Str} {st : Stmt} {f : Addr} {ps : List Str} {oc : Value} {od an : Option Addr} {sl : Array (Option Value)} {kV dc pm cd ct : Value} (X : K.In h) (G : h.Ns mainGlobals mg) (a : PySem.W.nsIn K mainGlobals x = some (some (.ref f)))
    (l : K.lookup f = some ⟨oc, od, .func (PySem.W.fnOf x x (defArgs st) (defBody st) (defScope st) .none kV dc pm an cd ct), sl⟩) (c : PySem.W.codeIn K cd x = true) (k : PySem.W.keepIn K (.ref f) = true)
    (hb : ∀ (kV doc pm : Value) (an : Option Addr) (cdv ct : Value) (us : List Value), us.length = ps.length → bindArgs (PySem.W.fnOf x x (defArgs st) (defBody st) (defScope st) .none kV doc pm an cdv ct) ⟨us, []⟩ = pure (ps.zip us)) : Dfn K mg x st f ps :=
  ⟨⟨_, fun_mk l c k, (fun_mk l c k).binds hb⟩, PySem.W.mg_of X G a⟩
theorem mk_mth {K : PySem.W.Frag} {C : Addr} {x q : Str} {st : Stmt} {f : Addr} {ps : List Str} {oc : Value} {od an : Option Addr} {sl : Array (Option Value)} {kV dc pm cd ct : Value} (a : PySem.W.findIn K (.ref C) x = some (some (.ref f))) (i : PySem.W.isFn K (.ref f) = true) (fk : PySem.W.fnIn K f = true)
    (l : K.lookup f = some ⟨oc, od, .func (PySem.W.fnOf x q (defArgs st) (defBody st) (defScope st) .none kV dc pm an cd ct), sl⟩) (c : PySem.W.codeIn K cd q = true) (k : PySem.W.keepIn K (.ref f) = true)
    (hb : ∀ (kV doc pm : Value) (an : Option Addr) (cdv ct : Value) (us : List Value), us.length = ps.length → bindArgs (PySem.W.fnOf x q (defArgs st) (defBody st) (defScope st) .none kV doc pm an cdv ct) ⟨us, []⟩ = pure (ps.zip us)) : Mth K C x q st f ps :=
  ⟨⟨_, fun_mk l c k, (fun_mk l c k).binds hb⟩, a, i, fk⟩
set_option maxHeartbeats 16000000 in
theorem all_mk {P : Program} {w : World} {K : PySem.W.Frag} {h : Heap} {mg : Str → Option Value} {lv : List (Str × PySem.W.WData)} {fa aLaw fq0 fq1 fq2 fq3 fq4 fq5 fq6 fq7 fq8 fq9 fq10 fq11 fq12 fq13 fq14 fq15 fq16 fq17 fq18 fq19 fq20 fq21 fq22 fq23 fq24 CTrains aITrains fq25 fq26 fq27 fq28 fq29 fq30 EBreakerError EInvalidTime EInvalidTrains EInvalidIndex EInvalidBound ELimitExceeded aIInvalidTrains : Addr} {nmInvalidTrains qnInvalidTrains : Str} {nnInvalidTrains : Addr} {bsInvalidTrains sbInvalidTrains : List Value} {snInvalidTrains : List Str} {abInvalidTrains : Bool} {coInvalidTrains : Option Bool} {ddInvalidTrains : Option Addr} {u0InvalidTrains u1InvalidTrains u2InvalidTrains u3InvalidTrains u5InvalidTrains : Option Value} {tNMOST_TRAINS : Tok} {odq0 anq0 odq1 anq1 odq2 anq2 odq3 anq3 odq4 anq4 odq5 anq5 odq6 anq6 odq7 anq7 odq8 anq8 odq9 anq9 odq10 anq10 odq11 anq11 odq12 anq12 odq13 anq13 odq14 anq14 odq15 anq15 odq16 anq16 odq17 anq17 odq18 anq18 odq19 anq19 odq20 anq20 odq21 anq21 odq22 anq22 odq23 anq23 odq24 anq24 odq25 anq25 odq26 anq26 odq27 anq27 odq28 anq28 odq29 anq29 odq30 anq30 odY anY odNTrains anNTrains odNInvalidTrains anNInvalidTrains : Option Addr} {slq0 slq1 slq2 slq3 slq4 slq5 slq6 slq7 slq8 slq9 slq10 slq11 slq12 slq13 slq14 slq15 slq16 slq17 slq18 slq19 slq20 slq21 slq22 slq23 slq24 slq25 slq26 slq27 slq28 slq29 slq30 slY slNTrains slNInvalidTrains : Array (Option Value)} {ocq0 kVq0 dcq0 pmq0 cdq0 ctq0 ocq1 kVq1 dcq1 pmq1 cdq1 ctq1 ocq2 kVq2 dcq2 pmq2 cdq2 ctq2 ocq3 kVq3 dcq3 pmq3 cdq3 ctq3 ocq4 kVq4 dcq4 pmq4 cdq4 ctq4 ocq5 kVq5 dcq5 pmq5 cdq5 ctq5 ocq6 kVq6 dcq6 pmq6 cdq6 ctq6 ocq7 kVq7 dcq7 pmq7 cdq7 ctq7 ocq8 kVq8 dcq8 pmq8 cdq8 ctq8 ocq9 kVq9 dcq9 pmq9 cdq9 ctq9 ocq10 kVq10 dcq10 pmq10 cdq10 ctq10 ocq11 kVq11 dcq11 pmq11 cdq11 ctq11 ocq12 kVq12 dcq12 pmq12 cdq12 ctq12 ocq13 kVq13 dcq13 pmq13 cdq13 ctq13 ocq14 kVq14 dcq14 pmq14 cdq14 ctq14 ocq15 kVq15 dcq15 pmq15 cdq15 ctq15 ocq16 kVq16 dcq16 pmq16 cdq16 ctq16 ocq17 kVq17 dcq17 pmq17 cdq17 ctq17 ocq18 kVq18 dcq18 pmq18 cdq18 ctq18 ocq19 kVq19 dcq19 pmq19 cdq19 ctq19 ocq20 kVq20 dcq20 pmq20 cdq20 ctq20 ocq21 kVq21 dcq21 pmq21 cdq21 ctq21 ocq22 kVq22 dcq22 pmq22 cdq22 ctq22 ocq23 kVq23 dcq23 pmq23 cdq23 ctq23 ocq24 kVq24 dcq24 pmq24 cdq24 ctq24 ocq25 kVq25 dcq25 pmq25 cdq25 ctq25 ocq26 kVq26 dcq26 pmq26 cdq26 ctq26 ocq27 kVq27 dcq27 pmq27 cdq27 ctq27 ocq28 kVq28 dcq28 pmq28 cdq28 ctq28 ocq29 kVq29 dcq29 pmq29 cdq29 ctq29 ocq30 kVq30 dcq30 pmq30 cdq30 ctq30 ocY kVY dcY pmY cdY ctY ocNTrains dcNTrains pmNTrains cdNTrains ctNTrains kVNTrains ocNInvalidTrains kVNInvalidTrains dcNInvalidTrains pmNInvalidTrains cdNInvalidTrains ctNInvalidTrains : Value}
    (X : K.In h) (G : h.Ns mainGlobals mg) (LL : PySem.W.LooseAre lv mg h)  (hfa : mg "law" = some (.ref fa))
    (aq0 : PySem.W.nsIn K mainGlobals "_wall" = some (some (.ref fq0)))
    (lq0 : K.lookup fq0 = some ⟨ocq0, odq0, .func (PySem.W.fnOf "_wall" "_wall" (defArgs st__wall) (defBody st__wall) (defScope st__wall) .none kVq0 dcq0 pmq0 anq0 cdq0 ctq0), slq0⟩)
    (cq0 : PySem.W.codeIn K cdq0 "_wall" = true)
    (kq0 : PySem.W.keepIn K (.ref fq0) = true)
    (aq1 : PySem.W.nsIn K mainGlobals "is_integer" = some (some (.ref fq1)))
    (lq1 : K.lookup fq1 = some ⟨ocq1, odq1, .func (PySem.W.fnOf "is_integer" "is_integer" (defArgs st_is_integer) (defBody st_is_integer) (defScope st_is_integer) .none kVq1 dcq1 pmq1 anq1 cdq1 ctq1), slq1⟩)
    (cq1 : PySem.W.codeIn K cdq1 "is_integer" = true)
    (kq1 : PySem.W.keepIn K (.ref fq1) = true)
    (aq2 : PySem.W.nsIn K mainGlobals "is_at_least" = some (some (.ref fq2)))
    (lq2 : K.lookup fq2 = some ⟨ocq2, odq2, .func (PySem.W.fnOf "is_at_least" "is_at_least" (defArgs st_is_at_least) (defBody st_is_at_least) (defScope st_is_at_least) .none kVq2 dcq2 pmq2 anq2 cdq2 ctq2), slq2⟩)
    (cq2 : PySem.W.codeIn K cdq2 "is_at_least" = true)
    (kq2 : PySem.W.keepIn K (.ref fq2) = true)
    (aq3 : PySem.W.nsIn K mainGlobals "steps_to" = some (some (.ref fq3)))
    (lq3 : K.lookup fq3 = some ⟨ocq3, odq3, .func (PySem.W.fnOf "steps_to" "steps_to" (defArgs st_steps_to) (defBody st_steps_to) (defScope st_steps_to) .none kVq3 dcq3 pmq3 anq3 cdq3 ctq3), slq3⟩)
    (cq3 : PySem.W.codeIn K cdq3 "steps_to" = true)
    (kq3 : PySem.W.keepIn K (.ref fq3) = true)
    (aq4 : PySem.W.nsIn K mainGlobals "count_below" = some (some (.ref fq4)))
    (lq4 : K.lookup fq4 = some ⟨ocq4, odq4, .func (PySem.W.fnOf "count_below" "count_below" (defArgs st_count_below) (defBody st_count_below) (defScope st_count_below) .none kVq4 dcq4 pmq4 anq4 cdq4 ctq4), slq4⟩)
    (cq4 : PySem.W.codeIn K cdq4 "count_below" = true)
    (kq4 : PySem.W.keepIn K (.ref fq4) = true)
    (aq5 : PySem.W.nsIn K mainGlobals "is_train" = some (some (.ref fq5)))
    (lq5 : K.lookup fq5 = some ⟨ocq5, odq5, .func (PySem.W.fnOf "is_train" "is_train" (defArgs st_is_train) (defBody st_is_train) (defScope st_is_train) .none kVq5 dcq5 pmq5 anq5 cdq5 ctq5), slq5⟩)
    (cq5 : PySem.W.codeIn K cdq5 "is_train" = true)
    (kq5 : PySem.W.keepIn K (.ref fq5) = true)
    (aq6 : PySem.W.nsIn K mainGlobals "last_time" = some (some (.ref fq6)))
    (lq6 : K.lookup fq6 = some ⟨ocq6, odq6, .func (PySem.W.fnOf "last_time" "last_time" (defArgs st_last_time) (defBody st_last_time) (defScope st_last_time) .none kVq6 dcq6 pmq6 anq6 cdq6 ctq6), slq6⟩)
    (cq6 : PySem.W.codeIn K cdq6 "last_time" = true)
    (kq6 : PySem.W.keepIn K (.ref fq6) = true)
    (aq7 : PySem.W.nsIn K mainGlobals "times_before" = some (some (.ref fq7)))
    (lq7 : K.lookup fq7 = some ⟨ocq7, odq7, .func (PySem.W.fnOf "times_before" "times_before" (defArgs st_times_before) (defBody st_times_before) (defScope st_times_before) .none kVq7 dcq7 pmq7 anq7 cdq7 ctq7), slq7⟩)
    (cq7 : PySem.W.codeIn K cdq7 "times_before" = true)
    (kq7 : PySem.W.keepIn K (.ref fq7) = true)
    (aq8 : PySem.W.nsIn K mainGlobals "part_of" = some (some (.ref fq8)))
    (lq8 : K.lookup fq8 = some ⟨ocq8, odq8, .func (PySem.W.fnOf "part_of" "part_of" (defArgs st_part_of) (defBody st_part_of) (defScope st_part_of) .none kVq8 dcq8 pmq8 anq8 cdq8 ctq8), slq8⟩)
    (cq8 : PySem.W.codeIn K cdq8 "part_of" = true)
    (kq8 : PySem.W.keepIn K (.ref fq8) = true)
    (aq9 : PySem.W.nsIn K mainGlobals "joined" = some (some (.ref fq9)))
    (lq9 : K.lookup fq9 = some ⟨ocq9, odq9, .func (PySem.W.fnOf "joined" "joined" (defArgs st_joined) (defBody st_joined) (defScope st_joined) .none kVq9 dcq9 pmq9 anq9 cdq9 ctq9), slq9⟩)
    (cq9 : PySem.W.codeIn K cdq9 "joined" = true)
    (kq9 : PySem.W.keepIn K (.ref fq9) = true)
    (aq10 : PySem.W.nsIn K mainGlobals "normal_form" = some (some (.ref fq10)))
    (lq10 : K.lookup fq10 = some ⟨ocq10, odq10, .func (PySem.W.fnOf "normal_form" "normal_form" (defArgs st_normal_form) (defBody st_normal_form) (defScope st_normal_form) .none kVq10 dcq10 pmq10 anq10 cdq10 ctq10), slq10⟩)
    (cq10 : PySem.W.codeIn K cdq10 "normal_form" = true)
    (kq10 : PySem.W.keepIn K (.ref fq10) = true)
    (aq11 : PySem.W.nsIn K mainGlobals "with_plain_step" = some (some (.ref fq11)))
    (lq11 : K.lookup fq11 = some ⟨ocq11, odq11, .func (PySem.W.fnOf "with_plain_step" "with_plain_step" (defArgs st_with_plain_step) (defBody st_with_plain_step) (defScope st_with_plain_step) .none kVq11 dcq11 pmq11 anq11 cdq11 ctq11), slq11⟩)
    (cq11 : PySem.W.codeIn K cdq11 "with_plain_step" = true)
    (kq11 : PySem.W.keepIn K (.ref fq11) = true)
    (aq12 : PySem.W.nsIn K mainGlobals "counts_ahead" = some (some (.ref fq12)))
    (lq12 : K.lookup fq12 = some ⟨ocq12, odq12, .func (PySem.W.fnOf "counts_ahead" "counts_ahead" (defArgs st_counts_ahead) (defBody st_counts_ahead) (defScope st_counts_ahead) .none kVq12 dcq12 pmq12 anq12 cdq12 ctq12), slq12⟩)
    (cq12 : PySem.W.codeIn K cdq12 "counts_ahead" = true)
    (kq12 : PySem.W.keepIn K (.ref fq12) = true)
    (aq13 : PySem.W.nsIn K mainGlobals "total_count" = some (some (.ref fq13)))
    (lq13 : K.lookup fq13 = some ⟨ocq13, odq13, .func (PySem.W.fnOf "total_count" "total_count" (defArgs st_total_count) (defBody st_total_count) (defScope st_total_count) .none kVq13 dcq13 pmq13 anq13 cdq13 ctq13), slq13⟩)
    (cq13 : PySem.W.codeIn K cdq13 "total_count" = true)
    (kq13 : PySem.W.keepIn K (.ref fq13) = true)
    (aq14 : PySem.W.nsIn K mainGlobals "check_trains" = some (some (.ref fq14)))
    (lq14 : K.lookup fq14 = some ⟨ocq14, odq14, .func (PySem.W.fnOf "check_trains" "check_trains" (defArgs st_check_trains) (defBody st_check_trains) (defScope st_check_trains) .none kVq14 dcq14 pmq14 anq14 cdq14 ctq14), slq14⟩)
    (cq14 : PySem.W.codeIn K cdq14 "check_trains" = true)
    (kq14 : PySem.W.keepIn K (.ref fq14) = true)
    (aq15 : PySem.W.nsIn K mainGlobals "is_behind" = some (some (.ref fq15)))
    (lq15 : K.lookup fq15 = some ⟨ocq15, odq15, .func (PySem.W.fnOf "is_behind" "is_behind" (defArgs st_is_behind) (defBody st_is_behind) (defScope st_is_behind) .none kVq15 dcq15 pmq15 anq15 cdq15 ctq15), slq15⟩)
    (cq15 : PySem.W.codeIn K cdq15 "is_behind" = true)
    (kq15 : PySem.W.keepIn K (.ref fq15) = true)
    (aq16 : PySem.W.nsIn K mainGlobals "trains_of" = some (some (.ref fq16)))
    (lq16 : K.lookup fq16 = some ⟨ocq16, odq16, .func (PySem.W.fnOf "trains_of" "trains_of" (defArgs st_trains_of) (defBody st_trains_of) (defScope st_trains_of) .none kVq16 dcq16 pmq16 anq16 cdq16 ctq16), slq16⟩)
    (cq16 : PySem.W.codeIn K cdq16 "trains_of" = true)
    (kq16 : PySem.W.keepIn K (.ref fq16) = true)
    (aq17 : PySem.W.nsIn K mainGlobals "count_before" = some (some (.ref fq17)))
    (lq17 : K.lookup fq17 = some ⟨ocq17, odq17, .func (PySem.W.fnOf "count_before" "count_before" (defArgs st_count_before) (defBody st_count_before) (defScope st_count_before) .none kVq17 dcq17 pmq17 anq17 cdq17 ctq17), slq17⟩)
    (cq17 : PySem.W.codeIn K cdq17 "count_before" = true)
    (kq17 : PySem.W.keepIn K (.ref fq17) = true)
    (aq18 : PySem.W.nsIn K mainGlobals "_law_cell_at" = some (some (.ref fq18)))
    (lq18 : K.lookup fq18 = some ⟨ocq18, odq18, .func (PySem.W.fnOf "_law_cell_at" "_law_cell_at" (defArgs st__law_cell_at) (defBody st__law_cell_at) (defScope st__law_cell_at) .none kVq18 dcq18 pmq18 anq18 cdq18 ctq18), slq18⟩)
    (cq18 : PySem.W.codeIn K cdq18 "_law_cell_at" = true)
    (kq18 : PySem.W.keepIn K (.ref fq18) = true)
    (aq19 : PySem.W.nsIn K mainGlobals "_law_source_of" = some (some (.ref fq19)))
    (lq19 : K.lookup fq19 = some ⟨ocq19, odq19, .func (PySem.W.fnOf "_law_source_of" "_law_source_of" (defArgs st__law_source_of) (defBody st__law_source_of) (defScope st__law_source_of) .none kVq19 dcq19 pmq19 anq19 cdq19 ctq19), slq19⟩)
    (cq19 : PySem.W.codeIn K cdq19 "_law_source_of" = true)
    (kq19 : PySem.W.keepIn K (.ref fq19) = true)
    (aq20 : PySem.W.nsIn K mainGlobals "_law_draw" = some (some (.ref fq20)))
    (lq20 : K.lookup fq20 = some ⟨ocq20, odq20, .func (PySem.W.fnOf "_law_draw" "_law_draw" (defArgs st__law_draw) (defBody st__law_draw) (defScope st__law_draw) .none kVq20 dcq20 pmq20 anq20 cdq20 ctq20), slq20⟩)
    (cq20 : PySem.W.codeIn K cdq20 "_law_draw" = true)
    (kq20 : PySem.W.keepIn K (.ref fq20) = true)
    (aq21 : PySem.W.nsIn K mainGlobals "_law_choice" = some (some (.ref fq21)))
    (lq21 : K.lookup fq21 = some ⟨ocq21, odq21, .func (PySem.W.fnOf "_law_choice" "_law_choice" (defArgs st__law_choice) (defBody st__law_choice) (defScope st__law_choice) .none kVq21 dcq21 pmq21 anq21 cdq21 ctq21), slq21⟩)
    (cq21 : PySem.W.codeIn K cdq21 "_law_choice" = true)
    (kq21 : PySem.W.keepIn K (.ref fq21) = true)
    (aq22 : PySem.W.nsIn K mainGlobals "_law_rows" = some (some (.ref fq22)))
    (lq22 : K.lookup fq22 = some ⟨ocq22, odq22, .func (PySem.W.fnOf "_law_rows" "_law_rows" (defArgs st__law_rows) (defBody st__law_rows) (defScope st__law_rows) .none kVq22 dcq22 pmq22 anq22 cdq22 ctq22), slq22⟩)
    (cq22 : PySem.W.codeIn K cdq22 "_law_rows" = true)
    (kq22 : PySem.W.keepIn K (.ref fq22) = true)
    (aq23 : PySem.W.nsIn K mainGlobals "_law_told" = some (some (.ref fq23)))
    (lq23 : K.lookup fq23 = some ⟨ocq23, odq23, .func (PySem.W.fnOf "_law_told" "_law_told" (defArgs st__law_told) (defBody st__law_told) (defScope st__law_told) .none kVq23 dcq23 pmq23 anq23 cdq23 ctq23), slq23⟩)
    (cq23 : PySem.W.codeIn K cdq23 "_law_told" = true)
    (kq23 : PySem.W.keepIn K (.ref fq23) = true)
    (aq24 : PySem.W.nsIn K mainGlobals "_law_odd" = some (some (.ref fq24)))
    (lq24 : K.lookup fq24 = some ⟨ocq24, odq24, .func (PySem.W.fnOf "_law_odd" "_law_odd" (defArgs st__law_odd) (defBody st__law_odd) (defScope st__law_odd) .none kVq24 dcq24 pmq24 anq24 cdq24 ctq24), slq24⟩)
    (cq24 : PySem.W.codeIn K cdq24 "_law_odd" = true)
    (kq24 : PySem.W.keepIn K (.ref fq24) = true)
    (gcTrains : PySem.W.nsIn K mainGlobals "Trains" = some (some (.ref CTrains)))
    (gTrains0 : PySem.W.plainGet K CTrains Str.empty = true)
    (gTrains1 : PySem.W.hasDictIn K CTrains = true)
    (gTrains2 : PySem.W.plainOver K CTrains = true)
    (gTrains3 : PySem.W.findIn K (.ref CTrains) "__setattr__" = some (some (.builtin "object.__setattr__")))
    (gTrains4 : PySem.W.makesIn K CTrains = true)
    (gTrains5 : PySem.W.keepIn K (.ref CTrains) = true)
    (gTrains6 : PySem.W.isClsIn K CTrains = true)
    (gTrains7 : PySem.W.typeIn K (.ref CTrains) = some (.type "type"))
    (gTrains8 : PySem.W.findIn K (.ref CTrains) "__class__" = some (some (.builtin "object.__class__")))
    (gTrains9 : PySem.W.mroIn K CTrains (.type "object") = some true)
    (gTrains10 : PySem.W.selfFirst K CTrains = true)
    (gTrains11 : PySem.W.findIn K (.ref CTrains) "__ne__" = some (some (.builtin "object.__ne__")))
    (gO1 : PySem.W.specialIn K (.builtin "object.__class__") "__get__" = some (some (.builtin "getset_descriptor.__get__")))
    (gO2 : PySem.W.takesIn K (.builtin "object.__class__") = some true)
    (nfTrains_runs : PySem.W.findIn K (.ref CTrains) "runs" = some none)
    (nfTrains_firsts : PySem.W.findIn K (.ref CTrains) "firsts" = some none)
    (nfTrains_ahead : PySem.W.findIn K (.ref CTrains) "ahead" = some none)
    (nfTrains_total : PySem.W.findIn K (.ref CTrains) "total" = some none)
    (aNTrains : PySem.W.findIn K (.ref CTrains) "__init__" = some (some (.ref aITrains)))
    (iNTrains : PySem.W.isFn K (.ref aITrains) = true)
    (lNTrains : K.lookup aITrains = some ⟨ocNTrains, odNTrains, .func (PySem.W.fnOf "__init__" "Trains.__init__" (defArgs st_Trains_init) (defBody st_Trains_init) (defScope st_Trains_init) .none kVNTrains dcNTrains pmNTrains anNTrains cdNTrains ctNTrains), slNTrains⟩)
    (cNTrains : PySem.W.codeIn K cdNTrains "Trains.__init__" = true)
    (kNTrains : PySem.W.keepIn K (.ref aITrains) = true)
    (aq25 : PySem.W.findIn K (.ref CTrains) "train_list" = some (some (.ref fq25)))
    (iq25 : PySem.W.isFn K (.ref fq25) = true)
    (nq25 : PySem.W.fnIn K fq25 = true)
    (lq25 : K.lookup fq25 = some ⟨ocq25, odq25, .func (PySem.W.fnOf "train_list" "Trains.train_list" (defArgs st_Trains_train_list) (defBody st_Trains_train_list) (defScope st_Trains_train_list) .none kVq25 dcq25 pmq25 anq25 cdq25 ctq25), slq25⟩)
    (cq25 : PySem.W.codeIn K cdq25 "Trains.train_list" = true)
    (kq25 : PySem.W.keepIn K (.ref fq25) = true)
    (aq26 : PySem.W.findIn K (.ref CTrains) "__len__" = some (some (.ref fq26)))
    (iq26 : PySem.W.isFn K (.ref fq26) = true)
    (nq26 : PySem.W.fnIn K fq26 = true)
    (lq26 : K.lookup fq26 = some ⟨ocq26, odq26, .func (PySem.W.fnOf "__len__" "Trains.__len__" (defArgs st_Trains_len) (defBody st_Trains_len) (defScope st_Trains_len) .none kVq26 dcq26 pmq26 anq26 cdq26 ctq26), slq26⟩)
    (cq26 : PySem.W.codeIn K cdq26 "Trains.__len__" = true)
    (kq26 : PySem.W.keepIn K (.ref fq26) = true)
    (aq27 : PySem.W.findIn K (.ref CTrains) "__contains__" = some (some (.ref fq27)))
    (iq27 : PySem.W.isFn K (.ref fq27) = true)
    (nq27 : PySem.W.fnIn K fq27 = true)
    (lq27 : K.lookup fq27 = some ⟨ocq27, odq27, .func (PySem.W.fnOf "__contains__" "Trains.__contains__" (defArgs st_Trains_contains) (defBody st_Trains_contains) (defScope st_Trains_contains) .none kVq27 dcq27 pmq27 anq27 cdq27 ctq27), slq27⟩)
    (cq27 : PySem.W.codeIn K cdq27 "Trains.__contains__" = true)
    (kq27 : PySem.W.keepIn K (.ref fq27) = true)
    (aq28 : PySem.W.findIn K (.ref CTrains) "__getitem__" = some (some (.ref fq28)))
    (iq28 : PySem.W.isFn K (.ref fq28) = true)
    (nq28 : PySem.W.fnIn K fq28 = true)
    (lq28 : K.lookup fq28 = some ⟨ocq28, odq28, .func (PySem.W.fnOf "__getitem__" "Trains.__getitem__" (defArgs st_Trains_getitem) (defBody st_Trains_getitem) (defScope st_Trains_getitem) .none kVq28 dcq28 pmq28 anq28 cdq28 ctq28), slq28⟩)
    (cq28 : PySem.W.codeIn K cdq28 "Trains.__getitem__" = true)
    (kq28 : PySem.W.keepIn K (.ref fq28) = true)
    (aq29 : PySem.W.findIn K (.ref CTrains) "__add__" = some (some (.ref fq29)))
    (iq29 : PySem.W.isFn K (.ref fq29) = true)
    (nq29 : PySem.W.fnIn K fq29 = true)
    (lq29 : K.lookup fq29 = some ⟨ocq29, odq29, .func (PySem.W.fnOf "__add__" "Trains.__add__" (defArgs st_Trains_add) (defBody st_Trains_add) (defScope st_Trains_add) .none kVq29 dcq29 pmq29 anq29 cdq29 ctq29), slq29⟩)
    (cq29 : PySem.W.codeIn K cdq29 "Trains.__add__" = true)
    (kq29 : PySem.W.keepIn K (.ref fq29) = true)
    (aq30 : PySem.W.findIn K (.ref CTrains) "__eq__" = some (some (.ref fq30)))
    (iq30 : PySem.W.isFn K (.ref fq30) = true)
    (nq30 : PySem.W.fnIn K fq30 = true)
    (lq30 : K.lookup fq30 = some ⟨ocq30, odq30, .func (PySem.W.fnOf "__eq__" "Trains.__eq__" (defArgs st_Trains_eq) (defBody st_Trains_eq) (defScope st_Trains_eq) .none kVq30 dcq30 pmq30 anq30 cdq30 ctq30), slq30⟩)
    (cq30 : PySem.W.codeIn K cdq30 "Trains.__eq__" = true)
    (kq30 : PySem.W.keepIn K (.ref fq30) = true)
    (geBreakerError : PySem.W.nsIn K mainGlobals "BreakerError" = some (some (.ref EBreakerError)))
    (xaBreakerError : PySem.W.findIn K (.ref EBreakerError) "__getattribute__" = some (some (.builtin "BaseException.__getattribute__")))
    (xbBreakerError : PySem.W.findIn K (.ref EBreakerError) "__getattr__" = some none)
    (xcBreakerError : PySem.W.subIn K (.ref EBreakerError) (.type "BaseException") = some true)
    (xdBreakerError : PySem.W.hasDictIn K EBreakerError = true)
    (xeBreakerError : PySem.W.typeIn K (.ref EBreakerError) = some (.type "type"))
    (geInvalidTime : PySem.W.nsIn K mainGlobals "InvalidTime" = some (some (.ref EInvalidTime)))
    (xaInvalidTime : PySem.W.findIn K (.ref EInvalidTime) "__getattribute__" = some (some (.builtin "BaseException.__getattribute__")))
    (xbInvalidTime : PySem.W.findIn K (.ref EInvalidTime) "__getattr__" = some none)
    (xcInvalidTime : PySem.W.subIn K (.ref EInvalidTime) (.type "BaseException") = some true)
    (xdInvalidTime : PySem.W.hasDictIn K EInvalidTime = true)
    (xeInvalidTime : PySem.W.typeIn K (.ref EInvalidTime) = some (.type "type"))
    (geInvalidTrains : PySem.W.nsIn K mainGlobals "InvalidTrains" = some (some (.ref EInvalidTrains)))
    (xaInvalidTrains : PySem.W.findIn K (.ref EInvalidTrains) "__getattribute__" = some (some (.builtin "BaseException.__getattribute__")))
    (xbInvalidTrains : PySem.W.findIn K (.ref EInvalidTrains) "__getattr__" = some none)
    (xcInvalidTrains : PySem.W.subIn K (.ref EInvalidTrains) (.type "BaseException") = some true)
    (xdInvalidTrains : PySem.W.hasDictIn K EInvalidTrains = true)
    (xeInvalidTrains : PySem.W.typeIn K (.ref EInvalidTrains) = some (.type "type"))
    (geInvalidIndex : PySem.W.nsIn K mainGlobals "InvalidIndex" = some (some (.ref EInvalidIndex)))
    (xaInvalidIndex : PySem.W.findIn K (.ref EInvalidIndex) "__getattribute__" = some (some (.builtin "BaseException.__getattribute__")))
    (xbInvalidIndex : PySem.W.findIn K (.ref EInvalidIndex) "__getattr__" = some none)
    (xcInvalidIndex : PySem.W.subIn K (.ref EInvalidIndex) (.type "BaseException") = some true)
    (xdInvalidIndex : PySem.W.hasDictIn K EInvalidIndex = true)
    (xeInvalidIndex : PySem.W.typeIn K (.ref EInvalidIndex) = some (.type "type"))
    (geInvalidBound : PySem.W.nsIn K mainGlobals "InvalidBound" = some (some (.ref EInvalidBound)))
    (xaInvalidBound : PySem.W.findIn K (.ref EInvalidBound) "__getattribute__" = some (some (.builtin "BaseException.__getattribute__")))
    (xbInvalidBound : PySem.W.findIn K (.ref EInvalidBound) "__getattr__" = some none)
    (xcInvalidBound : PySem.W.subIn K (.ref EInvalidBound) (.type "BaseException") = some true)
    (xdInvalidBound : PySem.W.hasDictIn K EInvalidBound = true)
    (xeInvalidBound : PySem.W.typeIn K (.ref EInvalidBound) = some (.type "type"))
    (geLimitExceeded : PySem.W.nsIn K mainGlobals "LimitExceeded" = some (some (.ref ELimitExceeded)))
    (xaLimitExceeded : PySem.W.findIn K (.ref ELimitExceeded) "__getattribute__" = some (some (.builtin "BaseException.__getattribute__")))
    (xbLimitExceeded : PySem.W.findIn K (.ref ELimitExceeded) "__getattr__" = some none)
    (xcLimitExceeded : PySem.W.subIn K (.ref ELimitExceeded) (.type "BaseException") = some true)
    (xdLimitExceeded : PySem.W.hasDictIn K ELimitExceeded = true)
    (xeLimitExceeded : PySem.W.typeIn K (.ref ELimitExceeded) = some (.type "type"))
    (xoInvalidTrains : K.lookup EInvalidTrains = some (excClassObj nmInvalidTrains qnInvalidTrains EInvalidTrains nnInvalidTrains bsInvalidTrains [.ref EBreakerError, .type "ArithmeticError", .type "Exception", .type "BaseException", .type "object"] true snInvalidTrains sbInvalidTrains abInvalidTrains coInvalidTrains ddInvalidTrains u0InvalidTrains u1InvalidTrains u2InvalidTrains u3InvalidTrains u5InvalidTrains "ArithmeticError.__new__"))
    (xsInvalidTrains : PySem.W.findIn K (.ref EInvalidTrains) "__setattr__" = some (some (.builtin "object.__setattr__")))
    (xkInvalidTrains : PySem.W.keepIn K (.ref EInvalidTrains) = true)
    (aNInvalidTrains : PySem.W.findIn K (.ref EInvalidTrains) "__init__" = some (some (.ref aIInvalidTrains)))
    (tNInvalidTrains : PySem.W.typeIn K (.ref aIInvalidTrains) = some (.type "function"))
    (lNInvalidTrains : K.lookup aIInvalidTrains = some ⟨ocNInvalidTrains, odNInvalidTrains, .func (PySem.W.fnOf "__init__" "InvalidTrains.__init__" (defArgs st_InvalidTrains_init) (defBody st_InvalidTrains_init) (defScope st_InvalidTrains_init) .none kVNInvalidTrains dcNInvalidTrains pmNInvalidTrains anNInvalidTrains cdNInvalidTrains ctNInvalidTrains), slNInvalidTrains⟩)
    (cNInvalidTrains : PySem.W.codeIn K cdNInvalidTrains "InvalidTrains.__init__" = true)
    (kNInvalidTrains : PySem.W.keepIn K (.ref aIInvalidTrains) = true)
    (neInvalidTrains_time : PySem.W.findIn K (.ref EInvalidTrains) "time" = some none)
    (neInvalidTrains_at : PySem.W.findIn K (.ref EInvalidTrains) "at" = some none)
    (neInvalidTrains_index : PySem.W.findIn K (.ref EInvalidTrains) "index" = some none)
    (neInvalidTrains_part : PySem.W.findIn K (.ref EInvalidTrains) "part" = some none)
    (neInvalidTrains_limit : PySem.W.findIn K (.ref EInvalidTrains) "limit" = some none)
    (xlInvalidTrains : PySem.W.findIn K (.ref EInvalidTrains) "__class__" = some (some (.builtin "object.__class__")))
    (xmInvalidTrains : PySem.W.mroIn K EInvalidTrains (.type "object") = some true)
    (seInvalidTrains_BreakerError : PySem.W.subIn K (.ref EInvalidTrains) (.ref EBreakerError) = some true)
    (seInvalidTrains_InvalidTime : PySem.W.subIn K (.ref EInvalidTrains) (.ref EInvalidTime) = some false)
    (seInvalidTrains_InvalidTrains : PySem.W.subIn K (.ref EInvalidTrains) (.ref EInvalidTrains) = some true)
    (seInvalidTrains_InvalidIndex : PySem.W.subIn K (.ref EInvalidTrains) (.ref EInvalidIndex) = some false)
    (seInvalidTrains_InvalidBound : PySem.W.subIn K (.ref EInvalidTrains) (.ref EInvalidBound) = some false)
    (seInvalidTrains_LimitExceeded : PySem.W.subIn K (.ref EInvalidTrains) (.ref ELimitExceeded) = some false)
    (saInvalidTrains : PySem.W.subIn K (.ref EInvalidTrains) (.type "ArithmeticError") = some true)
    (gNMOST_TRAINS : PySem.W.nsIn K mainGlobals "MOST_TRAINS" = some (some (.int 1000 tNMOST_TRAINS)))
    (aY : PySem.W.nsIn K mainGlobals "law" = some (some (.ref aLaw)))
    (lY : K.lookup aLaw = some ⟨ocY, odY, .func (PySem.W.fnOf "law" "law" (defArgs st_law) (defBody st_law) (defScope st_law) .none kVY dcY pmY anY cdY ctY), slY⟩)
    (cY : PySem.W.codeIn K cdY "law" = true)
    (kY : PySem.W.keepIn K (.ref aLaw) = true)
    (z_ArithmeticError : PySem.W.nsIn K mainGlobals "ArithmeticError" = some none)
    (z_bool : PySem.W.nsIn K mainGlobals "bool" = some none)
    (z_enumerate : PySem.W.nsIn K mainGlobals "enumerate" = some none)
    (z_int : PySem.W.nsIn K mainGlobals "int" = some none)
    (z_isinstance : PySem.W.nsIn K mainGlobals "isinstance" = some none)
    (z_len : PySem.W.nsIn K mainGlobals "len" = some none)
    (z_list : PySem.W.nsIn K mainGlobals "list" = some none)
    (z_max : PySem.W.nsIn K mainGlobals "max" = some none)
    (z_min : PySem.W.nsIn K mainGlobals "min" = some none)
    (z_range : PySem.W.nsIn K mainGlobals "range" = some none)
    (z_repr : PySem.W.nsIn K mainGlobals "repr" = some none)
    (z_sum : PySem.W.nsIn K mainGlobals "sum" = some none)
    (z_tuple : PySem.W.nsIn K mainGlobals "tuple" = some none) :
    ∃ fd : FuncData, (∀ (s : Shared) (v : Value), BindsTo s fd ⟨[v], []⟩ [("_law_script", v)]) ∧ ∀ base : Heap, K.In base → base.Ns mainGlobals mg → FnOk P w K mg base CX0 10 fa fd ["_law_script"] (spLaw K) := by
  have e := hfa.symm.trans (PySem.W.mg_of X G aY)
  cases e
  have T : LX K mg ⟨fq0, fq1, fq2, fq3, fq4, fq5, fq6, fq7, fq8, fq9, fq10, fq11, fq12, fq13, fq14, fq15, fq16, fq17, fq18, fq19, fq20, fq21, fq22, fq23, fq24, CTrains, aITrains, fq25, fq26, fq27, fq28, fq29, fq30, EBreakerError, EInvalidTime, EInvalidTrains, EInvalidIndex, EInvalidBound, ELimitExceeded, aIInvalidTrains⟩ := ⟨PySem.W.mg_none_of X G z_ArithmeticError,
    PySem.W.mg_none_of X G z_bool,
    PySem.W.mg_none_of X G z_enumerate,
    PySem.W.mg_none_of X G z_int,
    PySem.W.mg_none_of X G z_isinstance,
    PySem.W.mg_none_of X G z_len,
    PySem.W.mg_none_of X G z_list,
    PySem.W.mg_none_of X G z_max,
    PySem.W.mg_none_of X G z_min,
    PySem.W.mg_none_of X G z_range,
    PySem.W.mg_none_of X G z_repr,
    PySem.W.mg_none_of X G z_sum,
    PySem.W.mg_none_of X G z_tuple,
    ⟨_, PySem.W.mg_of X G gNMOST_TRAINS⟩,
    mk_dfn X G aq0 lq0 cq0 kq0 bn_q0,
    mk_dfn X G aq1 lq1 cq1 kq1 bn_q1,
    mk_dfn X G aq2 lq2 cq2 kq2 bn_q2,
    mk_dfn X G aq3 lq3 cq3 kq3 bn_q3,
    mk_dfn X G aq4 lq4 cq4 kq4 bn_q4,
    mk_dfn X G aq5 lq5 cq5 kq5 bn_q5,
    mk_dfn X G aq6 lq6 cq6 kq6 bn_q6,
    mk_dfn X G aq7 lq7 cq7 kq7 bn_q7,
    mk_dfn X G aq8 lq8 cq8 kq8 bn_q8,
    mk_dfn X G aq9 lq9 cq9 kq9 bn_q9,
    mk_dfn X G aq10 lq10 cq10 kq10 bn_q10,
    mk_dfn X G aq11 lq11 cq11 kq11 bn_q11,
    mk_dfn X G aq12 lq12 cq12 kq12 bn_q12,
    mk_dfn X G aq13 lq13 cq13 kq13 bn_q13,
    mk_dfn X G aq14 lq14 cq14 kq14 bn_q14,
    mk_dfn X G aq15 lq15 cq15 kq15 bn_q15,
    mk_dfn X G aq16 lq16 cq16 kq16 bn_q16,
    mk_dfn X G aq17 lq17 cq17 kq17 bn_q17,
    mk_dfn X G aq18 lq18 cq18 kq18 bn_q18,
    mk_dfn X G aq19 lq19 cq19 kq19 bn_q19,
    mk_dfn X G aq20 lq20 cq20 kq20 bn_q20,
    mk_dfn X G aq21 lq21 cq21 kq21 bn_q21,
    mk_dfn X G aq22 lq22 cq22 kq22 bn_q22,
    mk_dfn X G aq23 lq23 cq23 kq23 bn_q23,
    mk_dfn X G aq24 lq24 cq24 kq24 bn_q24,
    PySem.W.mg_of X G gcTrains,
    ⟨⟨gTrains0, gTrains1, gTrains2, gTrains3⟩, gTrains6, gTrains7, gTrains8, gO1, gO2, gTrains9, gTrains10, gTrains11⟩,
    ⟨gTrains4, aNTrains, iNTrains, gTrains5⟩,
    nfTrains_runs,
    nfTrains_firsts,
    nfTrains_ahead,
    nfTrains_total,
    ⟨_, fun_mk lNTrains cNTrains kNTrains, (fun_mk lNTrains cNTrains kNTrains).binds bn_NTrains⟩,
    mk_mth aq25 iq25 nq25 lq25 cq25 kq25 bn_q25,
    mk_mth aq26 iq26 nq26 lq26 cq26 kq26 bn_q26,
    mk_mth aq27 iq27 nq27 lq27 cq27 kq27 bn_q27,
    mk_mth aq28 iq28 nq28 lq28 cq28 kq28 bn_q28,
    mk_mth aq29 iq29 nq29 lq29 cq29 kq29 bn_q29,
    mk_mth aq30 iq30 nq30 lq30 cq30 kq30 bn_q30,
    PySem.W.mg_of X G geBreakerError,
    ⟨xaBreakerError, xbBreakerError, xcBreakerError, xdBreakerError⟩,
    xeBreakerError,
    PySem.W.mg_of X G geInvalidTime,
    ⟨xaInvalidTime, xbInvalidTime, xcInvalidTime, xdInvalidTime⟩,
    xeInvalidTime,
    PySem.W.mg_of X G geInvalidTrains,
    ⟨xaInvalidTrains, xbInvalidTrains, xcInvalidTrains, xdInvalidTrains⟩,
    xeInvalidTrains,
    PySem.W.mg_of X G geInvalidIndex,
    ⟨xaInvalidIndex, xbInvalidIndex, xcInvalidIndex, xdInvalidIndex⟩,
    xeInvalidIndex,
    PySem.W.mg_of X G geInvalidBound,
    ⟨xaInvalidBound, xbInvalidBound, xcInvalidBound, xdInvalidBound⟩,
    xeInvalidBound,
    PySem.W.mg_of X G geLimitExceeded,
    ⟨xaLimitExceeded, xbLimitExceeded, xcLimitExceeded, xdLimitExceeded⟩,
    xeLimitExceeded,
    ⟨⟨_, _, _, _, _, _, _, _, _, _, _, _, _, _, _, xoInvalidTrains, by rfl⟩, xsInvalidTrains, xcInvalidTrains, xeInvalidTrains, xkInvalidTrains⟩,
    aNInvalidTrains,
    tNInvalidTrains,
    ⟨_, fun_mk lNInvalidTrains cNInvalidTrains kNInvalidTrains, (fun_mk lNInvalidTrains cNInvalidTrains kNInvalidTrains).binds bn_NInvalidTrains⟩,
    neInvalidTrains_time,
    neInvalidTrains_at,
    neInvalidTrains_index,
    neInvalidTrains_part,
    neInvalidTrains_limit,
    ⟨xaInvalidTrains, xbInvalidTrains, xcInvalidTrains, xdInvalidTrains, xlInvalidTrains, gO1, gO2, xmInvalidTrains⟩,
    seInvalidTrains_BreakerError,
    seInvalidTrains_InvalidTime,
    seInvalidTrains_InvalidTrains,
    seInvalidTrains_InvalidIndex,
    seInvalidTrains_InvalidBound,
    seInvalidTrains_LimitExceeded,
    saInvalidTrains⟩
  exact ⟨_, fun s v => .of_eq rfl, fun base _ _ => ok_law (fun_mk lY cY kY) T⟩
/-- as the hand layer's end, with what the loose names hold -/
theorem walk_loose {l : PySem.W.OpenLaw} {q p : Program} {lv : List (Str × PySem.W.WData)} {loose : List Str} {YP : World → Heap → Prop} {d : DefRec} {K : Params → PySem.W.Frag} (hn : l.most = some 63) (hd : d.params.defaults = []) (hY : ∀ (w : World) (h : Heap), YP w h → (K w.params).In h)
    (F : ∀ (w : World) (mg : Str → Option Value) (fa : Addr) (h : Heap), (K w.params).In h → h.Ns mainGlobals mg → PySem.W.LooseAre lv mg h → mg d.name = some (.ref fa) → ∃ fd : FuncData, (∀ (s : Shared) (u : Value), BindsTo s fd ⟨[u], []⟩ [("_law_script", u)]) ∧ ∀ base : Heap, (K w.params).In base → base.Ns mainGlobals mg → FnOk l.prog w (K w.params) mg base CX0 10 fa fd ["_law_script"] (spLaw (K w.params))) :
    PySem.W.WalkO q loose (PySem.W.XL p lv) YP l.row.toRowW d [] (fun f vs => PySem.call f vs) := Att.attach_call hn hd fun w _ s₁ mg mb fa _ _ _ _ a vs ns G Y _ _ _ hmg hobj hints hlen hg => by
  obtain ⟨fd, hb, hF⟩ := F w mg fa s₁.heap (hY w s₁.heap Y) G.T.g G.X.2 hmg
  exact law_call (hY w s₁.heap Y) G.T.g G.T.b G.T.builtins G.T.nolimit hg hobj hints (Nat.le_trans hlen (by decide)) ⟨rfl, by decide, by decide⟩ hF hb (fun H _ hS => ⟨a, ns, rfl, hS, hlen, fun _ => rfl⟩) fun _ _ _ z => z

end Toy
open PySem PySem.W PyProof.Rows
set_option maxRecDepth 100000 in
set_option maxHeartbeats 0 in
theorem PySem.Challenge.cw_breakerrow_k09_trains_refused_holds : PySem.Challenge.rw_breakerrow_k09_trains_refused.Holds := by
  w_on; o_law; k_head; (case hw => w_witness2)
  k_fill
  refine Toy.walk_loose (l := PySem.Challenge.rw_breakerrow_k09_trains_refused) rfl rfl (fun w h Y => PySem.W.kIn_of Y) ?F
  intro w mg fa h KX G LL hmg
  refine' Toy.all_mk KX G LL  hmg ?aq0 ?lq0 ?cq0 ?kq0 ?aq1 ?lq1 ?cq1 ?kq1 ?aq2 ?lq2 ?cq2 ?kq2 ?aq3 ?lq3 ?cq3 ?kq3 ?aq4 ?lq4 ?cq4 ?kq4 ?aq5 ?lq5 ?cq5 ?kq5 ?aq6 ?lq6 ?cq6 ?kq6 ?aq7 ?lq7 ?cq7 ?kq7 ?aq8 ?lq8 ?cq8 ?kq8 ?aq9 ?lq9 ?cq9 ?kq9 ?aq10 ?lq10 ?cq10 ?kq10 ?aq11 ?lq11 ?cq11 ?kq11 ?aq12 ?lq12 ?cq12 ?kq12 ?aq13 ?lq13 ?cq13 ?kq13 ?aq14 ?lq14 ?cq14 ?kq14 ?aq15 ?lq15 ?cq15 ?kq15 ?aq16 ?lq16 ?cq16 ?kq16 ?aq17 ?lq17 ?cq17 ?kq17 ?aq18 ?lq18 ?cq18 ?kq18 ?aq19 ?lq19 ?cq19 ?kq19 ?aq20 ?lq20 ?cq20 ?kq20 ?aq21 ?lq21 ?cq21 ?kq21 ?aq22 ?lq22 ?cq22 ?kq22 ?aq23 ?lq23 ?cq23 ?kq23 ?aq24 ?lq24 ?cq24 ?kq24 ?gcTrains ?gTrains0 ?gTrains1 ?gTrains2 ?gTrains3 ?gTrains4 ?gTrains5 ?gTrains6 ?gTrains7 ?gTrains8 ?gTrains9 ?gTrains10 ?gTrains11 ?gO1 ?gO2 ?nfTrains_runs ?nfTrains_firsts ?nfTrains_ahead ?nfTrains_total ?aNTrains ?iNTrains ?lNTrains ?cNTrains ?kNTrains ?aq25 ?iq25 ?nq25 ?lq25 ?cq25 ?kq25 ?aq26 ?iq26 ?nq26 ?lq26 ?cq26 ?kq26 ?aq27 ?iq27 ?nq27 ?lq27 ?cq27 ?kq27 ?aq28 ?iq28 ?nq28 ?lq28 ?cq28 ?kq28 ?aq29 ?iq29 ?nq29 ?lq29 ?cq29 ?kq29 ?aq30 ?iq30 ?nq30 ?lq30 ?cq30 ?kq30 ?geBreakerError ?xaBreakerError ?xbBreakerError ?xcBreakerError ?xdBreakerError ?xeBreakerError ?geInvalidTime ?xaInvalidTime ?xbInvalidTime ?xcInvalidTime ?xdInvalidTime ?xeInvalidTime ?geInvalidTrains ?xaInvalidTrains ?xbInvalidTrains ?xcInvalidTrains ?xdInvalidTrains ?xeInvalidTrains ?geInvalidIndex ?xaInvalidIndex ?xbInvalidIndex ?xcInvalidIndex ?xdInvalidIndex ?xeInvalidIndex ?geInvalidBound ?xaInvalidBound ?xbInvalidBound ?xcInvalidBound ?xdInvalidBound ?xeInvalidBound ?geLimitExceeded ?xaLimitExceeded ?xbLimitExceeded ?xcLimitExceeded ?xdLimitExceeded ?xeLimitExceeded ?xoInvalidTrains ?xsInvalidTrains ?xkInvalidTrains ?aNInvalidTrains ?tNInvalidTrains ?lNInvalidTrains ?cNInvalidTrains ?kNInvalidTrains ?neInvalidTrains_time ?neInvalidTrains_at ?neInvalidTrains_index ?neInvalidTrains_part ?neInvalidTrains_limit ?xlInvalidTrains ?xmInvalidTrains ?seInvalidTrains_BreakerError ?seInvalidTrains_InvalidTime ?seInvalidTrains_InvalidTrains ?seInvalidTrains_InvalidIndex ?seInvalidTrains_InvalidBound ?seInvalidTrains_LimitExceeded ?saInvalidTrains ?gNMOST_TRAINS ?aY ?lY ?cY ?kY ?z_ArithmeticError ?z_bool ?z_enumerate ?z_int ?z_isinstance ?z_len ?z_list ?z_max ?z_min ?z_range ?z_repr ?z_sum ?z_tuple
  (case aq0 => k_is)
  (case lq0 => k_is)
  (case cq0 => k_is)
  (case kq0 => k_is)
  (case aq1 => k_is)
  (case lq1 => k_is)
  (case cq1 => k_is)
  (case kq1 => k_is)
  (case aq2 => k_is)
  (case lq2 => k_is)
  (case cq2 => k_is)
  (case kq2 => k_is)
  (case aq3 => k_is)
  (case lq3 => k_is)
  (case cq3 => k_is)
  (case kq3 => k_is)
  (case aq4 => k_is)
  (case lq4 => k_is)
  (case cq4 => k_is)
  (case kq4 => k_is)
  (case aq5 => k_is)
  (case lq5 => k_is)
  (case cq5 => k_is)
  (case kq5 => k_is)
  (case aq6 => k_is)
  (case lq6 => k_is)
  (case cq6 => k_is)
  (case kq6 => k_is)
  (case aq7 => k_is)
  (case lq7 => k_is)
  (case cq7 => k_is)
  (case kq7 => k_is)
  (case aq8 => k_is)
  (case lq8 => k_is)
  (case cq8 => k_is)
  (case kq8 => k_is)
  (case aq9 => k_is)
  (case lq9 => k_is)
  (case cq9 => k_is)
  (case kq9 => k_is)
  (case aq10 => k_is)
  (case lq10 => k_is)
  (case cq10 => k_is)
  (case kq10 => k_is)
  (case aq11 => k_is)
  (case lq11 => k_is)
  (case cq11 => k_is)
  (case kq11 => k_is)
  (case aq12 => k_is)
  (case lq12 => k_is)
  (case cq12 => k_is)
  (case kq12 => k_is)
  (case aq13 => k_is)
  (case lq13 => k_is)
  (case cq13 => k_is)
  (case kq13 => k_is)
  (case aq14 => k_is)
  (case lq14 => k_is)
  (case cq14 => k_is)
  (case kq14 => k_is)
  (case aq15 => k_is)
  (case lq15 => k_is)
  (case cq15 => k_is)
  (case kq15 => k_is)
  (case aq16 => k_is)
  (case lq16 => k_is)
  (case cq16 => k_is)
  (case kq16 => k_is)
  (case aq17 => k_is)
  (case lq17 => k_is)
  (case cq17 => k_is)
  (case kq17 => k_is)
  (case aq18 => k_is)
  (case lq18 => k_is)
  (case cq18 => k_is)
  (case kq18 => k_is)
  (case aq19 => k_is)
  (case lq19 => k_is)
  (case cq19 => k_is)
  (case kq19 => k_is)
  (case aq20 => k_is)
  (case lq20 => k_is)
  (case cq20 => k_is)
  (case kq20 => k_is)
  (case aq21 => k_is)
  (case lq21 => k_is)
  (case cq21 => k_is)
  (case kq21 => k_is)
  (case aq22 => k_is)
  (case lq22 => k_is)
  (case cq22 => k_is)
  (case kq22 => k_is)
  (case aq23 => k_is)
  (case lq23 => k_is)
  (case cq23 => k_is)
  (case kq23 => k_is)
  (case aq24 => k_is)
  (case lq24 => k_is)
  (case cq24 => k_is)
  (case kq24 => k_is)
  (case gcTrains => k_is)
  (case gTrains0 => k_is)
  (case gTrains1 => k_is)
  (case gTrains2 => k_is)
  (case gTrains3 => k_is)
  (case gTrains4 => k_is)
  (case gTrains5 => k_is)
  (case gTrains6 => k_is)
  (case gTrains7 => k_is)
  (case gTrains8 => k_is)
  (case gTrains9 => k_is)
  (case gTrains10 => k_is)
  (case gTrains11 => k_is)
  (case gO1 => k_is)
  (case gO2 => k_is)
  (case nfTrains_runs => k_is)
  (case nfTrains_firsts => k_is)
  (case nfTrains_ahead => k_is)
  (case nfTrains_total => k_is)
  (case aNTrains => k_is)
  (case iNTrains => k_is)
  (case lNTrains => k_is)
  (case cNTrains => k_is)
  (case kNTrains => k_is)
  (case aq25 => k_is)
  (case iq25 => k_is)
  (case nq25 => k_is)
  (case lq25 => k_is)
  (case cq25 => k_is)
  (case kq25 => k_is)
  (case aq26 => k_is)
  (case iq26 => k_is)
  (case nq26 => k_is)
  (case lq26 => k_is)
  (case cq26 => k_is)
  (case kq26 => k_is)
  (case aq27 => k_is)
  (case iq27 => k_is)
  (case nq27 => k_is)
  (case lq27 => k_is)
  (case cq27 => k_is)
  (case kq27 => k_is)
  (case aq28 => k_is)
  (case iq28 => k_is)
  (case nq28 => k_is)
  (case lq28 => k_is)
  (case cq28 => k_is)
  (case kq28 => k_is)
  (case aq29 => k_is)
  (case iq29 => k_is)
  (case nq29 => k_is)
  (case lq29 => k_is)
  (case cq29 => k_is)
  (case kq29 => k_is)
  (case aq30 => k_is)
  (case iq30 => k_is)
  (case nq30 => k_is)
  (case lq30 => k_is)
  (case cq30 => k_is)
  (case kq30 => k_is)
  (case geBreakerError => k_is)
  (case xaBreakerError => k_is)
  (case xbBreakerError => k_is)
  (case xcBreakerError => k_is)
  (case xdBreakerError => k_is)
  (case xeBreakerError => k_is)
  (case geInvalidTime => k_is)
  (case xaInvalidTime => k_is)
  (case xbInvalidTime => k_is)
  (case xcInvalidTime => k_is)
  (case xdInvalidTime => k_is)
  (case xeInvalidTime => k_is)
  (case geInvalidTrains => k_is)
  (case xaInvalidTrains => k_is)
  (case xbInvalidTrains => k_is)
  (case xcInvalidTrains => k_is)
  (case xdInvalidTrains => k_is)
  (case xeInvalidTrains => k_is)
  (case geInvalidIndex => k_is)
  (case xaInvalidIndex => k_is)
  (case xbInvalidIndex => k_is)
  (case xcInvalidIndex => k_is)
  (case xdInvalidIndex => k_is)
  (case xeInvalidIndex => k_is)
  (case geInvalidBound => k_is)
  (case xaInvalidBound => k_is)
  (case xbInvalidBound => k_is)
  (case xcInvalidBound => k_is)
  (case xdInvalidBound => k_is)
  (case xeInvalidBound => k_is)
  (case geLimitExceeded => k_is)
  (case xaLimitExceeded => k_is)
  (case xbLimitExceeded => k_is)
  (case xcLimitExceeded => k_is)
  (case xdLimitExceeded => k_is)
  (case xeLimitExceeded => k_is)
  (case xoInvalidTrains => k_is)
  (case xsInvalidTrains => k_is)
  (case xkInvalidTrains => k_is)
  (case aNInvalidTrains => k_is)
  (case tNInvalidTrains => k_is)
  (case lNInvalidTrains => k_is)
  (case cNInvalidTrains => k_is)
  (case kNInvalidTrains => k_is)
  (case neInvalidTrains_time => k_is)
  (case neInvalidTrains_at => k_is)
  (case neInvalidTrains_index => k_is)
  (case neInvalidTrains_part => k_is)
  (case neInvalidTrains_limit => k_is)
  (case xlInvalidTrains => k_is)
  (case xmInvalidTrains => k_is)
  (case seInvalidTrains_BreakerError => k_is)
  (case seInvalidTrains_InvalidTime => k_is)
  (case seInvalidTrains_InvalidTrains => k_is)
  (case seInvalidTrains_InvalidIndex => k_is)
  (case seInvalidTrains_InvalidBound => k_is)
  (case seInvalidTrains_LimitExceeded => k_is)
  (case saInvalidTrains => k_is)
  (case gNMOST_TRAINS => k_is)
  (case aY => k_is)
  (case lY => k_is)
  (case cY => k_is)
  (case kY => k_is)
  (case z_ArithmeticError => k_is)
  (case z_bool => k_is)
  (case z_enumerate => k_is)
  (case z_int => k_is)
  (case z_isinstance => k_is)
  (case z_len => k_is)
  (case z_list => k_is)
  (case z_max => k_is)
  (case z_min => k_is)
  (case z_range => k_is)
  (case z_repr => k_is)
  (case z_sum => k_is)
  (case z_tuple => k_is)
