import PyProof.Rows.All
import Wide.All
import OpenK.AllK
import Wide.FinOn
import HandS.ForMost
import HandS.IsInst
import HandS.Wide
import HandS.Style
import HandS.Defaults
import HandS.MakeKwOnly
import HandS.Zip
import HandS.SortRule
import HandS.TupAny
import HandS.Lambda
import KE.GoesEnum
import HandS.Flow
import HandS.Codes
import HandS.WideBits
import HandS.OwnEq
import HandS.TryOnly
import HandS.TupLe
import HandS.SetFor
import KE.DataMinMax
import HandS.Conv
import KE.DataFind
import PyProof.Rows.CallKwBuiltin
import PyProof.LongRange
import HandS.ExcInit
import KE.KExcInit
import HandS.WordsExc
import HandS.ExcField
import KE.KExcIs
import HandS.RaiseMore
import HandS.EndTab
import KE.KNestM
import PyProof.ReprRoads
import PyProof.ReprHeads
import PyProof.ReprDict
import PySem.Challenge.RW_breakerrow_k54_logs_of_rows_replayed
set_option Elab.async false
set_option linter.all false
set_option maxRecDepth 100000
set_option maxHeartbeats 4000000
namespace Own
open PySem PySem.Spec PyProof.Rows L2
open Builtin

section
variable {X : Cx} {CX : CXT} {k : Nat} {f C : Addr} {fd : FuncData} {ps : List Str} {sp : Sp} {E : XK}

theorem rr {p : Addr} : L2.RelV (.ref p) (.ref p) := rfl
/-- a promise used under any frame below the body -/
theorem run_at {A : Around} {pins : List (Addr × Obj)} {σ : L2.St} {H : Hp} {s : Shared} {Q : VK} {us : List Value} {vs : List V} (F : FnOk X.prog X.w X.K X.mg X.base CX k f fd ps sp) (hr : Room k A) (hA : A.frames = X.A.frames)
    (hb : Binds X.K fd ps []) (hx : Passes CX X E) (I : Inv X pins σ H s) (r : Vals vs us) (h : sp vs H Q E) : wpAny (model X.prog X.w) A (call (.ref f) us) (EP X pins σ Q) X.xe s := by
  have hl : us.length = ps.length := by rw [← r.length]; exact F.len _ _ _ _ h
  have e0 : Env0 X.prog X.w X.K X.mg X.base A X.stack s H := by
    have e := I.env0
    exact ⟨by rw [hA]; exact e.frames, e.mod, e.bs, e.bsz, e.funs, e.frf, e.hok, e.bare⟩
  have hB : BindsTo s fd ⟨us, []⟩ (ps.zip us) := by
    have := hb s us I.kIn (by rw [List.append_nil]; exact hl)
    rwa [List.append_nil] at this
  refine wpAny_call (codeAny_mono (F.run A X.stack s H ⟨us, []⟩ us vs Q E hr e0 hB r h) fun r s' hq => ?_)
  cases r with
  | error e => exact hx pins σ H s e s' I hq
  | ok fl =>
    cases fl with
    | ret u => exact I.after hq
    | next => exact False.elim hq
    | brk => exact False.elim hq
    | cont => exact False.elim hq

theorem inst_of {pins : List (Addr × Obj)} {σ : L2.St} {H : Hp} {s : Shared} {p dx : Addr} {fs : List (Str × V)} (I : Inv X pins σ H s) (e : H p = some (.ins C dx fs)) : ∃ od, PySem.W.InstAt s.heap p (PySem.W.instObj C dx) C od := by
  obtain ⟨mA, O, _⟩ := ins_get I.hok e
  obtain ⟨od, J, _⟩ := O.look
  exact ⟨_, J⟩

/-- a bool is wanted of the method -/
def BlQ (Q : VK) (g : Bool → Bool) : VK := fun v H' => ∃ b, v = .bl b ∧ Q (.bl (g b)) H'
def rOwnIn (C : Addr) (sp : Sp) (E : XK) (g : Bool → Bool) : R2 := fun x y H Q => ∃ p dx fs, y = .ref p ∧ H p = some (.ins C dx fs) ∧ sp [.ref p, x] H (BlQ Q g) E
theorem op_own_in (F : FnOk X.prog X.w X.K X.mg X.base CX k f fd ps sp) (hr : Room k X.A) (hs : PySem.W.findIn X.K (.ref C) "__contains__" = some (some (.ref f))) (hf : PySem.W.isFn X.K (.ref f) = true) (hb : Binds X.K fd ps []) (hx : Passes CX X E) :
    OpR X (compareOp .In) (rOwnIn C sp E id) := by
  intro pins s σ H x y v u Q I rx ry h
  obtain ⟨p, dx, fs, rfl, hp, q⟩ := h
  cases ry
  obtain ⟨od, J⟩ := inst_of I hp
  obtain ⟨m, hF⟩ := I.fr
  refine PySem.W.in_K hF I.ok.mod.kin J hs hf (thn (run_at F hr rfl hb hx I (.cons rr (.cons rx .nil)) q) fun r s' hh => ?_)
  obtain ⟨z, H', I', rz, b, ez, q'⟩ := hh
  subst ez
  cases rz
  exact wpAny_truthy_bool ⟨.bl b, H', I', rfl, q'⟩
theorem op_own_notin (F : FnOk X.prog X.w X.K X.mg X.base CX k f fd ps sp) (hr : Room k X.A) (hs : PySem.W.findIn X.K (.ref C) "__contains__" = some (some (.ref f))) (hf : PySem.W.isFn X.K (.ref f) = true) (hb : Binds X.K fd ps []) (hx : Passes CX X E) :
    OpR X (compareOp .NotIn) (rOwnIn C sp E not) := by
  intro pins s σ H x y v u Q I rx ry h
  obtain ⟨p, dx, fs, rfl, hp, q⟩ := h
  cases ry
  obtain ⟨od, J⟩ := inst_of I hp
  obtain ⟨m, hF⟩ := I.fr
  refine PySem.W.notIn_K hF I.ok.mod.kin J hs hf (thn (run_at F hr rfl hb hx I (.cons rr (.cons rx .nil)) q) fun r s' hh => ?_)
  obtain ⟨z, H', I', rz, b, ez, q'⟩ := hh
  subst ez
  cases rz
  exact wpAny_truthy_bool ⟨.bl (!b), H', I', rfl, q'⟩
/-- len(o) -/
def rOwnLen (C : Addr) (sp : Sp) (E : XK) : List V → Hp → VK → Prop := fun xs H Q => ∃ p dx fs, xs = [.ref p] ∧ H p = some (.ins C dx fs) ∧ sp [.ref p] H (fun v H' => ∃ n : Int, v = .int n ∧ 0 ≤ n ∧ n < 2 ^ 63 ∧ Q (.int n) H') E
theorem call_own_len (F : FnOk X.prog X.w X.K X.mg X.base CX k f fd ps sp) (hr : Room (k + 1) X.A) (hs : PySem.W.findIn X.K (.ref C) "__len__" = some (some (.ref f))) (hf : PySem.W.isFn X.K (.ref f) = true) (hb : Binds X.K fd ps []) (hx : Passes CX X E) :
    CallR X (.builtin "len") (rOwnLen C sp E) := by
  intro pins s σ H xs us Q I r h
  obtain ⟨p, dx, fs, rfl, hp, q⟩ := h
  obtain ⟨u, rfl, ru⟩ := vals1 r
  cases ru
  obtain ⟨od, J⟩ := inst_of I hp
  obtain ⟨m, hF⟩ := I.fr
  refine PySem.W.len_K hF I.ok.mod.kin J hs hf (thn (run_at F hr.in1 rfl hb hx I (.cons rr .nil) q) fun r s' hh => ?_)
  obtain ⟨z, H', I', rz, n, ez, h0, h1, q'⟩ := hh
  subst ez
  obtain ⟨t, rfl⟩ := rz
  exact ⟨⟨h0, h1⟩, ⟨.int n, H', I'.tok _, ⟨_, rfl⟩, q'⟩⟩
/-- o + p, both of the class -/
def rOwnAdd (C : Addr) (sp : Sp) (E : XK) : R2 := fun x y H Q => ∃ p dx fs q dy gs, x = .ref p ∧ H p = some (.ins C dx fs) ∧ y = .ref q ∧ H q = some (.ins C dy gs) ∧ sp [.ref p, .ref q] H (fun v H' => (∃ a, v = .ref a) ∧ Q v H') E
theorem op_own_add (F : FnOk X.prog X.w X.K X.mg X.base CX k f fd ps sp) (hr : Room k X.A) (hc : PySem.W.selfFirst X.K C = true) (hs : PySem.W.findIn X.K (.ref C) "__add__" = some (some (.ref f))) (hf : PySem.W.isFn X.K (.ref f) = true) (hb : Binds X.K fd ps []) (hx : Passes CX X E) :
    OpR X (binaryOp .Add) (rOwnAdd C sp E) := by
  intro pins s σ H x y v u Q I rx ry h
  obtain ⟨p, dx, fs, q, dy, gs, rfl, hp, rfl, hq, hh⟩ := h
  cases rx
  cases ry
  obtain ⟨od, J⟩ := inst_of I hp
  obtain ⟨od', J'⟩ := inst_of I hq
  obtain ⟨m, hF⟩ := I.fr
  refine PySem.W.binop_K hF I.ok.mod.kin J J'.type hc hs hf (thn (run_at F hr rfl hb hx I (.cons rr (.cons rr .nil)) hh) fun r s' hh => ?_)
  obtain ⟨z, H', I', rz, ⟨a, ez⟩, q'⟩ := hh
  subst ez
  cases rz
  exact ⟨.ref a, H', I', rfl, q'⟩
/-- o[i] -/
def rOwnIx (C : Addr) (sp : Sp) (E : XK) : R2 := fun x y H Q => ∃ p dx fs, x = .ref p ∧ H p = some (.ins C dx fs) ∧ sp [.ref p, y] H Q E
theorem pe_own_ix {a b : Expr} {ta tb : TE} {pos : Pos} (F : FnOk X.prog X.w X.K X.mg X.base CX k f fd ps sp) (hr : Room (k + 1) X.A) (hs : PySem.W.findIn X.K (.ref C) "__getitem__" = some (some (.ref f))) (hfn : PySem.W.fnIn X.K f = true) (hf : PySem.W.isFn X.K (.ref f) = true)
    (hb : Binds X.K fd ps []) (hx : Passes CX X E) (ha : PE X a ta) (hb' : PE X b tb) (hsl : ∀ o i, subscripted b true o i = runValue (.builtin "lifetime.subscript" ⟨[o, i], []⟩) := by exact fun _ _ => rfl) :
    PE X (.Subscript a b pos) (tOp (rOwnIx C sp E) ta tb) := by
  refine ⟨fun pins s σ H Q I h => ?_⟩
  refine Subscript_ (binT ha hb' I h fun v u s2 x y H2 I2 rx ry q => ?_)
  obtain ⟨p, dx, fs, rfl, hp, q⟩ := q
  cases rx
  obtain ⟨od, J⟩ := inst_of I2 hp
  obtain ⟨m, hF⟩ := I2.fr
  exact PySem.W.sub_K hF I2.ok.mod.kin J hs hfn hf (run_at F hr.in1 rfl hb hx I2 (.cons rr (.cons ry .nil)) q) (hsl _ _)

/-! ### own == and the != that comes with it -/
theorem sub_ty {K : PySem.W.Frag} {C : Addr} {T : String} {l : List String} (e : fastBuiltinMro T = some (l.map Value.type)) : PySem.W.subIn K (.type T) (.ref C) = some false := by
  show (fastBuiltinMro T).map (·.contains (.ref C)) = some false
  rw [e]
  have : ∀ l : List String, (l.map Value.type).contains (Value.ref C) = false := by
    intro l
    induction l with
    | nil => rfl
    | cons a r ih =>
      rw [List.map_cons, List.contains_cons, ih]
      rfl
  rw [Option.map_some, this]
/-- a value's type, not one below the class C -/
inductive TyN (H : Hp) (C : Addr) : V → Value → Prop where
  | non : TyN H C .non (.type "NoneType")
  | bl (x : Bool) : TyN H C (.bl x) (.type "bool")
  | int (i : Int) : TyN H C (.int i) (.type "int")
  | str (x : Str) : TyN H C (.str x) (.type "str")
  | lst {a : Addr} {xs : List V} (e : H a = some (.lst xs)) : TyN H C (.ref a) (.type "list")
  | tup {a : Addr} {xs : List V} (e : H a = some (.tup xs)) : TyN H C (.ref a) (.type "tuple")
  | ins {a dx : Addr} {fs : List (Str × V)} (e : H a = some (.ins C dx fs)) : TyN H C (.ref a) (.ref C)
theorem TyN.notFirst {K : PySem.W.Frag} {H : Hp} {x : V} {t : Value} (h : TyN H C x t) : PySem.W.notFirst K C t = true := by
  cases h with
  | non => exact Bool.or_eq_true_iff.mpr (.inr (beq_iff_eq.mpr (sub_ty (l := ["NoneType", "object"]) (by decide +kernel))))
  | bl _ => exact Bool.or_eq_true_iff.mpr (.inr (beq_iff_eq.mpr (sub_ty (l := ["bool", "int", "object"]) (by decide +kernel))))
  | int _ => exact Bool.or_eq_true_iff.mpr (.inr (beq_iff_eq.mpr (sub_ty (l := ["int", "object"]) (by decide +kernel))))
  | str _ => exact Bool.or_eq_true_iff.mpr (.inr (beq_iff_eq.mpr (sub_ty (l := ["str", "object"]) (by decide +kernel))))
  | lst _ => exact Bool.or_eq_true_iff.mpr (.inr (beq_iff_eq.mpr (sub_ty (l := ["list", "object"]) (by decide +kernel))))
  | tup _ => exact Bool.or_eq_true_iff.mpr (.inr (beq_iff_eq.mpr (sub_ty (l := ["tuple", "object"]) (by decide +kernel))))
  | ins _ => exact Bool.or_eq_true_iff.mpr (.inl (by simp))
theorem looks_obj {M : Model} {h : Heap} {a : Addr} {o : Obj} (e : h.get? a = some o) : PySem.W.Looks M h (typeOf (.ref a)) o.cls := fun A Q E s kp q => PySem.wpAny_typeOf_ref (kp _ _ e) q
theorem TyN.looks {M : Model} {pins : List (Addr × Obj)} {σ : L2.St} {H : Hp} {s : Shared} {x : V} {u t : Value} (I : Inv X pins σ H s) (r : RelV x u) (h : TyN H C x t) : PySem.W.Looks M s.heap (typeOf u) t := by
  cases h with
  | non => cases r; exact PySem.W.Looks.of_pure rfl
  | bl _ => cases r; exact PySem.W.Looks.of_pure rfl
  | int _ => obtain ⟨_, rfl⟩ := r; exact PySem.W.Looks.of_pure rfl
  | str _ => obtain ⟨_, rfl⟩ := r; exact PySem.W.Looks.of_pure rfl
  | @lst a xs e =>
    cases r
    obtain ⟨_, _, n, _, h1⟩ := (show ObjOk X.prog X.w H s.heap a (.lst xs) from I.hok a _ e)
    exact looks_obj h1
  | @tup a xs e =>
    cases r
    obtain ⟨_, _, _, o, h1, h2, _⟩ := (show ObjOk X.prog X.w H s.heap a (.tup xs) from I.hok a _ e)
    have := looks_obj (M := M) h1
    rw [h2] at this
    exact this
  | ins e =>
    cases r
    obtain ⟨od, J⟩ := inst_of I e
    exact J.type
def rOwnEq (C : Addr) (sp : Sp) (E : XK) (g : Bool → Bool) : R2 := fun x y H Q => ∃ p dx fs t, x = .ref p ∧ H p = some (.ins C dx fs) ∧ TyN H C y t ∧ sp [.ref p, y] H (BlQ Q g) E
theorem op_own_eq (F : FnOk X.prog X.w X.K X.mg X.base CX k f fd ps sp) (hr : Room k X.A) (hs : PySem.W.findIn X.K (.ref C) "__eq__" = some (some (.ref f))) (hf : PySem.W.isFn X.K (.ref f) = true) (hb : Binds X.K fd ps []) (hx : Passes CX X E) :
    OpR X (compareOp .Eq) (rOwnEq C sp E id) := by
  intro pins s σ H x y v u Q I rx ry h
  obtain ⟨p, dx, fs, t, rfl, hp, ty, q⟩ := h
  cases rx
  obtain ⟨od, J⟩ := inst_of I hp
  obtain ⟨m, hF⟩ := I.fr
  show wpAny (model X.prog X.w) X.A (richCompare .Eq (.ref p) u) (EP X pins σ Q) X.xe s
  refine PySem.W.cmp_K (op := .Eq) hr.units0 hF I.ok.mod.kin J (ty.looks I ry) ty.notFirst hs hf (thn (run_at F hr rfl hb hx I (.cons rr (.cons ry .nil)) q) fun r s' hh => ?_)
  obtain ⟨z, H', I', rz, b, ez, q'⟩ := hh
  subst ez
  cases rz
  exact ⟨.bl b, H', I', rfl, q'⟩
section
variable {prog : Program} {w : World} {A : Around} {E' : Value → Shared → Prop} {s : Shared} {K : PySem.W.Frag} {x : Addr} {ox : Obj} {od : Option Obj} {b : Value}
theorem objNe_entry (hX : K.In s.heap) (I : PySem.W.InstAt s.heap x ox C od) (hs : PySem.W.findIn K (.ref C) "__eq__" = some (some (.ref f))) (hf : PySem.W.isFn K (.ref f) = true) (hu : A.units < cLine) {Q : Fin → Shared → Prop}
    (hcall : wpAny (model prog w) A (call (.ref f) [.ref x, b]) (fun v s' => ∃ k, v = .bool k ∧ Q (.done (.ret (.bool (!k)))) s') E' s) :
    wpAny (model prog w) A (Builtin.«object.__ne__» ⟨[.ref x, b], []⟩) Q E' s := by
  unfold Builtin.«object.__ne__»
  repeat (first
    | with_reducible refine wpAny_cRoomFor hu ?_
    | (refine wpAny_bind (m := callSpecialIfBound? (.ref x) (Str.ofString "__eq__") [b])
        (PySem.W.ifBound_K hX I hs hf (wpAny_mono hcall (fun r s' hr => by
          obtain ⟨k, rfl, hq⟩ := hr
          repeat (first | exact hq | exact wpAny_pure hq | exact wpAny_truthy_bool hq | (refine wpAny_bind (m := truthy (.bool _)) (wpAny_truthy_bool ?_)) | wp_step)) fun _ _ e => e)))
    | wp_step)
theorem call_objNe (hX : K.In s.heap) (I : PySem.W.InstAt s.heap x ox C od) (hm : PySem.W.mroIn K C (.type "object") = some true) (hs : PySem.W.findIn K (.ref C) "__eq__" = some (some (.ref f))) (hf : PySem.W.isFn K (.ref f) = true) (hu : A.units + 1 < cLine) {Q : Value → Shared → Prop}
    (hcall : wpAny (model prog w) A.in1 (call (.ref f) [.ref x, b]) (fun v s' => ∃ k, v = .bool k ∧ Q (.bool (!k)) s') E' s) :
    wpAny (model prog w) A (call (.builtin "object.__ne__") [.ref x, b]) Q E' s :=
  wpAny_call (codeAny_call_builtin PySem.F.cmp_object.ne.plain PySem.F.cmpEntry_ne (PySem.W.check_slot PySem.F.cmpKind_ne PySem.F.cmpSplit_ne (I.type.andThen (PySem.W.looks_mroIn hX hm)) (PySem.F.cmpArgs_ne _ _)
    (objNe_entry (A := A.in1) hX I hs hf hu (wpAny_mono hcall (fun v s' hv => by
      obtain ⟨k, e, hq⟩ := hv
      exact ⟨k, e, hq⟩) fun _ _ e => e))))
theorem ifBound_objNe {M : Model} {args : List Value} {Q : Option Value → Shared → Prop} (hX : K.In s.heap) (I : PySem.W.InstAt s.heap x ox C od) (hs : PySem.W.findIn K (.ref C) "__ne__" = some (some (.builtin "object.__ne__")))
    (h : wpAny M A (call (.builtin "object.__ne__") (.ref x :: args)) (fun v => Q (some v)) E' s) : wpAny M A (callSpecialIfBound? (.ref x) "__ne__" args) Q E' s := by
  simp only [callSpecialIfBound?, bindSpecialIfBound?]
  refine wpAny_holding (wpAny_bind (wpAny_bind (wpAny_bind (I.type.here ((PySem.W.looks_findIn hX hs).here ?_)))))
  refine wpAny_bind (wpAny_askSetting (wpAny_ite ?_))
  have fin : wpAny M A (call (.builtin "object.__ne__") ([.ref x] ++ args) >>= fun v => pure (some v)) Q E' s := wpAny_bind (wpAny_mono h (fun v s' h' => wpAny_pure h') fun _ _ h' => h')
  split
  · exact wpAny_bind (wpAny_of_eq (PySem.F.cmp_object.ne.bind _) (wpAny_pure (by exact fin)))
  · exact wpAny_tryCatch (wpAny_bind (wpAny_of_eq (PySem.F.cmp_object.ne.bind _) (wpAny_pure (by exact fin))))
theorem rc_ne {tb : Value} {Q : Value → Shared → Prop} (hu : A.units + 1 < cLine) (hX : K.In s.heap) (I : PySem.W.InstAt s.heap x ox C od) (hb : PySem.W.Looks (model prog w) s.heap (typeOf b) tb) (hn : PySem.W.notFirst K C tb = true)
    (hm : PySem.W.mroIn K C (.type "object") = some true) (hne : PySem.W.findIn K (.ref C) "__ne__" = some (some (.builtin "object.__ne__"))) (hs : PySem.W.findIn K (.ref C) "__eq__" = some (some (.ref f))) (hf : PySem.W.isFn K (.ref f) = true)
    (hcall : wpAny (model prog w) A.in1 (call (.ref f) [.ref x, b]) (fun v s' => ∃ k, v = .bool k ∧ Q (.bool (!k)) s') E' s) : wpAny (model prog w) A (richCompare .NotEq (.ref x) b) Q E' s := by
  have one : wpAny (model prog w) A (tryCompare (.ref x) "__ne__" b) (fun r s' => ∃ v, r = some v ∧ Q v s') E' s := by
    unfold tryCompare
    refine wpAny_bind (ifBound_objNe hX I hne (call_objNe hX I hm hs hf hu (wpAny_mono hcall (fun v s' hv => ?_) fun _ _ e => e)))
    obtain ⟨k, rfl, hq⟩ := hv
    exact ⟨k, rfl, wpAny_pure ⟨_, rfl, hq⟩⟩
  unfold richCompare
  simp only [oneThing_ref, cmpInfo_NotEq]
  refine wpAny_holding (wpAny_bind (wpAny_cRoomFor (Nat.lt_of_succ_lt hu) ?_))
  refine wpAny_bind (I.type.here (wpAny_bind (hb.here ?_)))
  split
  · rename_i q
    have e : PySem.W.subIn K tb (.ref C) = some false := by
      rcases Bool.or_eq_true_iff.mp hn with e | e
      · rw [beq_iff_eq.mp e] at q; simp at q
      · exact beq_iff_eq.mp e
    refine wpAny_bind ((PySem.W.looks_subIn hX e).here ?_)
    simp only [Bool.false_eq_true, if_false]
    refine wpAny_bind (wpAny_mono one (fun r s' z => ?_) fun _ _ e => e)
    obtain ⟨v, rfl, hq⟩ := z
    exact wpAny_pure hq
  · refine wpAny_bind (wpAny_pure ?_)
    simp only [Bool.false_eq_true, if_false]
    refine wpAny_bind (wpAny_mono one (fun r s' z => ?_) fun _ _ e => e)
    obtain ⟨v, rfl, hq⟩ := z
    exact wpAny_pure hq
end
theorem op_own_ne (F : FnOk X.prog X.w X.K X.mg X.base CX k f fd ps sp) (hr : Room (k + 1) X.A) (hm : PySem.W.mroIn X.K C (.type "object") = some true) (hne : PySem.W.findIn X.K (.ref C) "__ne__" = some (some (.builtin "object.__ne__")))
    (hs : PySem.W.findIn X.K (.ref C) "__eq__" = some (some (.ref f))) (hf : PySem.W.isFn X.K (.ref f) = true) (hb : Binds X.K fd ps []) (hx : Passes CX X E) :
    OpR X (compareOp .NotEq) (rOwnEq C sp E not) := by
  intro pins s σ H x y v u Q I rx ry h
  obtain ⟨p, dx, fs, t, rfl, hp, ty, q⟩ := h
  cases rx
  obtain ⟨od, J⟩ := inst_of I hp
  show wpAny (model X.prog X.w) X.A (richCompare .NotEq (.ref p) u) (EP X pins σ Q) X.xe s
  refine rc_ne (hu_of hr) I.kIn J (ty.looks I ry) ty.notFirst hm hne hs hf (thn (run_at F hr.in1 rfl hb hx I (.cons rr (.cons ry .nil)) q) fun r s' hh => ?_)
  obtain ⟨z, H', I', rz, b, ez, q'⟩ := hh
  subst ez
  cases rz
  exact ⟨b, rfl, .bl (!b), H', I', rfl, q'⟩
end
end Own

namespace Toy
open PySem L2 Own
/-! ### exceptions of the text's own, over ArithmeticError, with fields of their own -/
abbrev aeT : List Value := [.type "ArithmeticError", .type "Exception", .type "BaseException", .type "object"]
theorem no_taker {K : PySem.W.Frag} {C : Addr} {f : Str} (h : PySem.W.findIn K (.ref C) f = some none) : PySem.W.takerIn K C f = some none := by
  unfold PySem.W.takerIn
  rw [h]
  rfl
section
variable {prog : Program} {w : World} {A : Around} {R : Result → Shared → Prop} {hp : Heap} {g : Array GenState} {d : Drawn} {t : Nat} {os : OsState}
/-- the first field -/
theorem ae_first {K : PySem.W.Frag} {f : Str} {tk : Tok} {u : Value} {x C : Addr} {fv : Array Value} {cd : ClassData} (X : K.In hp) (hx : hp.get? x = some { cls := .ref C, data := .fields fv }) (hc : PySem.W.clsIn K C = some cd) (hd : cd.hasDict = true)
    (over : PySem.W.excOver K C aeT = true) (no : PySem.W.findIn K (.ref C) f = some none)
    (k : ∀ h' tk' dx, (∀ b o, b ≠ x → hp.get? b = some o → h'.get? b = some o) → hp.objs.size ≤ dx → dx ≠ x → h'.get? x = some { cls := .ref C, dict := some dx, data := .fields fv } → h'.Ns1 dx (fun y => if y = f then some u else none) → R (.ok (.ret .none)) ⟨h', g, d, tk', os⟩) :
    codeAny (model prog w) A (.call (.builtin "object.__setattr__") ⟨[.ref x, .str f tk, u], []⟩) R ⟨hp, g, d, t, os⟩ := by
  have I : PySem.W.InstAt hp x { cls := .ref C, data := .fields fv } C none := ⟨hx, rfl, rfl, trivial⟩
  refine PySem.W.osa_openX PySem.F.store_ArithmeticError X I over (no_taker no) fun b => ?_
  have look : PySem.W.Looks (model prog w) hp (classData C) cd := PySem.W.looks_clsIn X hc
  have old : x ≠ hp.objs.size := Nat.ne_of_lt (Heap.lt_size hx)
  obtain ⟨nm, bs, mro, ns, qn, hdd, sn, sb, ab, col, dl⟩ := cd
  dsimp only at hd
  subst hd
  dsimp only
  unfold Builtin.ObjectAttr.storeInOwnDict Builtin.ObjectAttr.ownDictForStores
  repeat (first
    | with_reducible refine look.at ?_
    | with_reducible refine wpAny_loadPart_at hx ?_
    | with_reducible refine PySem.HandSPX.store_in_new ?_ ?_
    | wp_step)
  · exact ⟨_, #[], _, (Heap.get?_update_ne _ _ _ _ old.symm).trans (Heap.get?_push_at rfl rfl), rfl, (fun e he => absurd he (by simp)), fun _ => rfl⟩
  · intro h' tk' n1 sb'
    have hx' : (hp.push { cls := .type "dict", data := .dict #[] }).get? x = some { cls := .ref C, data := .fields fv } := Heap.get?_push_of_some _ hx
    refine k h' tk' hp.objs.size (fun b o nb e => ?_) (Nat.le_refl _) old.symm ((sb'.2 x old).trans (Heap.get?_update_self _ hx' rfl)) n1
    rw [sb'.2 b (Nat.ne_of_lt (Heap.lt_size e)), Heap.get?_update_ne _ _ _ _ nb]
    exact Heap.get?_push_of_some _ e
/-- a further one -/
theorem ae_more {K : PySem.W.Frag} {f : Str} {tk : Tok} {u : Value} {x C dx : Addr} {fv : Array Value} {cd : ClassData} {m0 : Str → Option Value} {nl : List Str} (X : K.In hp) (hx : hp.get? x = some { cls := .ref C, dict := some dx, data := .fields fv }) (hn : hp.Ns1 dx m0) (hw : Within m0 nl) (hz : nl.length ≤ 1000)
    (hc : PySem.W.clsIn K C = some cd) (hd : cd.hasDict = true) (over : PySem.W.excOver K C aeT = true) (no : PySem.W.findIn K (.ref C) f = some none)
    (k : ∀ h' tk', (∀ b o, b ≠ dx → hp.get? b = some o → h'.get? b = some o) → h'.Ns1 dx (fun y => if y = f then some u else m0 y) → R (.ok (.ret .none)) ⟨h', g, d, tk', os⟩) :
    codeAny (model prog w) A (.call (.builtin "object.__setattr__") ⟨[.ref x, .str f tk, u], []⟩) R ⟨hp, g, d, t, os⟩ := by
  obtain ⟨oD, _, _, hoD, _, _⟩ := hn.count hw
  have I : PySem.W.InstAt hp x { cls := .ref C, dict := some dx, data := .fields fv } C (some oD) := ⟨hx, rfl, rfl, hoD⟩
  refine PySem.W.osa_openX PySem.F.store_ArithmeticError X I over (no_taker no) fun b => ?_
  have look : PySem.W.Looks (model prog w) hp (classData C) cd := PySem.W.looks_clsIn X hc
  obtain ⟨nm, bs, mro, ns, qn, hdd, sn, sb, ab, col, dl⟩ := cd
  dsimp only at hd
  subst hd
  dsimp only
  unfold Builtin.ObjectAttr.storeInOwnDict Builtin.ObjectAttr.ownDictForStores
  repeat (first
    | with_reducible refine look.at ?_
    | with_reducible refine wpAny_loadPart_at hx ?_
    | with_reducible refine PySem.OEX.store_in_old hn hw hz ?_
    | wp_step)
  intro h' tk' n1 sb'
  exact k h' tk' (fun b o nb e => (sb'.2 b nb).trans e) n1
end
/-- what the text has written of such a class -/
structure AeC (K : PySem.W.Frag) (C : Addr) : Prop where
  obj : ∃ nm q N bs bm sn sub ab col dd k0 k1 k2 k3 k5, K.lookup C = some (excClassObj nm q C N bs bm true sn sub ab col dd k0 k1 k2 k3 k5 "ArithmeticError.__new__") ∧ PySem.W.excTail aeT bm = true
  sa : PySem.W.findIn K (.ref C) "__setattr__" = some (some (.builtin "object.__setattr__"))
  ex : PySem.W.subIn K (.ref C) (.type "BaseException") = some true
  ty : PySem.W.typeIn K (.ref C) = some (.type "type")
  kp : PySem.W.keepIn K (.ref C) = true
theorem AeC.cd {K : PySem.W.Frag} {C : Addr} (T : AeC K C) : ∃ cd, PySem.W.clsIn K C = some cd ∧ cd.hasDict = true ∧ PySem.W.excOver K C aeT = true := by
  obtain ⟨nm, q, N, bs, bm, sn, sub, ab, col, dd, k0, k1, k2, k3, k5, hC, ht⟩ := T.obj
  have hc : PySem.W.clsIn K C = some { name := nm, bases := bs, mro := .ref C :: bm, ns := N, qualname := q, hasDict := true, slotNames := sn, subclasses := sub, abstract := ab, collection := col, hasDel := false } := by
    unfold PySem.W.clsIn
    rw [hC] <;> rfl
  refine ⟨_, hc, rfl, ?_⟩
  unfold PySem.W.excOver
  rw [hc]
  show (C == C && PySem.W.excTail aeT bm) = true
  rw [ht, beq_self_eq_true] <;> rfl
section
variable {X : Cx} {pins : List (Addr × Obj)} {σ : L2.St} {H : Hp} {s : Shared} {a C dx : Addr} {f : Str} {y : V} {u : Value} {fs : List (Str × V)} {Q : Unit → Shared → Prop} {E : Value → Shared → Prop} {A : Around}
theorem ast_first (T : AeC X.K C) (I : L2.Inv X pins σ H s) (e : H a = some (L2.exo a C none)) (no : PySem.W.findIn X.K (.ref C) f = some none) (ry : L2.RelV y u)
    (k : ∀ dx s', H dx = none → dx ≠ a → L2.Inv X pins σ (upd (upd H dx (L2.exd dx [(f, y)])) a (L2.exo a C (some dx))) s' → Q () s') : wpAny (model X.prog X.w) A (setAttr (.ref a) f u) Q E s := by
  obtain ⟨cd, hc, hd, over⟩ := T.cd
  obtain ⟨t1, ho⟩ := L2.exo_at I.hok e
  obtain ⟨hp, g, d, t, os⟩ := s
  refine PySem.W.set_plain I.kIn (ox := { cls := .ref C, dict := none, data := .fields #[.ref t1, .none, .none, .none, .bool false, .none] }) (od := none) ⟨ho, rfl, rfl, trivial⟩ T.sa ?_
  refine ae_first I.kIn ho hc hd over no fun h' tk' dx keep big ne hx n1 => ?_
  -- between the two there is a heap with the dict, and the exception still without it
  let G := h'.update a fun _ => { cls := .ref C, dict := none, data := .fields #[.ref t1, .none, .none, .none, .bool false, .none] }
  have ga : G.get? a = some { cls := .ref C, dict := none, data := .fields #[.ref t1, .none, .none, .none, .bool false, .none] } := Heap.get?_update_self _ hx rfl
  have gb : ∀ b, b ≠ a → G.get? b = h'.get? b := fun b nb => Heap.get?_update_ne _ _ _ _ nb
  have hdx : H dx = none := I.hok.fresh big
  have I1 := I.laid (t' := tk') (a := dx) (o := L2.exd dx [(f, y)]) (h' := G) (fun b o q => by
    by_cases c : b = a
    · subst c
      rw [ga]
      exact ho.symm.trans q
    · rw [gb b c]
      exact keep b o c q) big (L2.exd_ok (n1.at fun o q => (gb dx ne).trans q) (L2.relO_put (fs := []) ry fun _ => True.intro))
  have ea : (upd H dx (L2.exd dx [(f, y)])) a = some (L2.exo a C none) := by rw [upd_ne ne.symm, e]
  have I2 := I1.write (t' := tk') (x := a) (e := a) (o := L2.exo a C (some dx)) (h' := h') (by rw [ea]; exact True.intro) (.inl rfl) (fun b o nb q => (gb b nb).symm.trans q) ⟨_, hx⟩ (L2.exo_ok hx)
  exact k dx _ hdx ne I2
theorem ast_more (T : AeC X.K C) (I : L2.Inv X pins σ H s) (e : H a = some (L2.exo a C (some dx))) (ed : H dx = some (L2.exd dx fs)) (hl : fs.length ≤ 900) (no : PySem.W.findIn X.K (.ref C) f = some none) (ry : L2.RelV y u)
    (k : ∀ s', L2.Inv X pins σ (upd H dx (L2.exd dx ((f, y) :: fs))) s' → Q () s') : wpAny (model X.prog X.w) A (setAttr (.ref a) f u) Q E s := by
  obtain ⟨cd, hc, hd, over⟩ := T.cd
  obtain ⟨t1, ho⟩ := L2.exo_at I.hok e
  obtain ⟨mA, n1, rel⟩ := L2.exd_at I.hok ed
  have hw := L2.within_of rel
  obtain ⟨hp, g, d, t, os⟩ := s
  obtain ⟨oD, _, _, hoD, _, _⟩ := n1.count hw
  refine PySem.W.set_plain I.kIn (ox := { cls := .ref C, dict := some dx, data := .fields #[.ref t1, .none, .none, .none, .bool false, .none] }) (od := some oD) ⟨ho, rfl, rfl, hoD⟩ T.sa ?_
  refine ae_more I.kIn ho n1 hw (by rw [List.length_map]; omega) hc hd over no fun h' tk' keep n2 => ?_
  have there : ∃ o, h'.get? dx = some o := by
    obtain ⟨o, _, _, q, _⟩ := n2
    exact ⟨o, q⟩
  exact k _ (I.write (t' := tk') (x := dx) (e := dx) (o := L2.exd dx ((f, y) :: fs)) (by rw [ed]; exact True.intro) (.inl rfl) keep there (L2.exd_ok n2 (L2.relO_put ry rel)))
end
/-- o.f = e, o such an exception that is being made -/
def sAe (K : PySem.W.Frag) (f : Str) (to te : TE) : TS := fun D σ H => te σ H fun y H1 => to σ H1 fun x H2 => ∃ a C : Addr, x = .ref a ∧ AeC K C ∧ PySem.W.findIn K (.ref C) f = some none ∧
  ((H2 a = some (L2.exo a C none) ∧ ∀ dx, H2 dx = none → dx ≠ a → D.nx σ (upd (upd H2 dx (L2.exd dx [(f, y)])) a (L2.exo a C (some dx)))) ∨
    ∃ (dx : Addr) (fs : List (Str × V)), H2 a = some (L2.exo a C (some dx)) ∧ H2 dx = some (L2.exd dx fs) ∧ fs.length ≤ 900 ∧ D.nx σ (upd H2 dx (L2.exd dx ((f, y) :: fs))))
theorem ps_ae {X : Cx} {o e : Expr} {to te : TE} {f : Str} {p' pos : Pos} (ho : PE X o to) (he : PE X e te) (hs : swapsWith e (some (.Attribute o f p')) pos.line X.env = pure false := by rfl) : PS X (.Assign [.Attribute o f p'] e pos) (sAe X.K f to te) := by
  refine ⟨fun pins s σ H D I h => plainObj_wpAny_Assign_Attribute (L2.thn (he.run pins s σ H _ I h) fun v s1 ⟨y, H1, I1, r1, q1⟩ => L2.thn (ho.run pins s1 σ H1 _ I1 q1) fun z s2 ⟨x, H2, I2, r2, a, C, ex, T, no, q⟩ => ?_) hs⟩
  subst ex
  obtain rfl : z = Value.ref a := r2
  rcases q with ⟨ea, q⟩ | ⟨dx, fs, ea, ed, hl, q⟩
  · exact ast_first T I2 ea no r1 fun dx s' n ne J => ⟨σ, _, J, q dx n ne⟩
  · exact ast_more T I2 ea ed hl no r1 fun s' J => ⟨σ, _, J, q⟩
/-- C(e, ..): C's own __init__ keeps sp -/
theorem pmk_ae {X : Cx} {CX : CXT} {x : Str} {C f : Addr} {k : Nat} {fd : FuncData} {ps : List Str} {sp : Sp} {ds : List Value} {dvs : List V} {e : Expr} {es : List Expr} {ta : TA} {p pos : Pos} (T : AeC X.K C) (hi : PySem.W.findIn X.K (.ref C) "__init__" = some (some (.ref f))) (ht : PySem.W.typeIn X.K (.ref f) = some (.type "function"))
    (F : FnOk X.prog X.w X.K X.mg X.base CX k f fd ps sp) (hr : Room (k + 1) X.A) (hb : Binds X.K fd ps ds) (hd : L2.Vals dvs ds) (hx : Passes CX X fun _ _ _ => False) (hg : Gl X x) (hm : X.mg x = some (.ref C)) (ha : PA X (e :: es) ta)
    (hdb : (x == ("__debug__" : Str)) = false := by decide) (he : starEach (e :: es) X.env = (false, eval e X.env) :: starEach es X.env := by rfl) (hpl : (backTo pos (starEach es X.env)).any (·.1) = false := by rfl) :
    L2.PMk X (.Call (.Name x p) (e :: es) [] pos) (L2.tMkO C sp dvs ta) := by
  rintro pins s σ H Q I h
  obtain ⟨nm, q, N, bs, bm, sn, sub, ab, col, dd, k0, k1, k2, k3, k5, hC, hbm⟩ := T.obj
  refine wpAny_Call_Name_kw (L2.ld_glob I hg hm ?_ hdb)
  refine PySem.W.callWith_K (h₀ := X.base) I.ok.mod.kin T.kp (L2.thn (ha.run pos pins s σ H _ I h) fun us s1 ⟨vs, H1, I1, r1, hz, q1⟩ => ⟨I1.kIn, ?_⟩) he hpl
  obtain ⟨hp, g, dr, tk, os⟩ := s1
  have up : hp.objs.size ≤ hp.objs.size + 1 := Nat.le_succ _
  have fresh : H1 (hp.objs.size + 1) = none := I1.hok.fresh up
  have prom := q1 _ fresh
  have keep : ∀ b o, hp.get? b = some o → ((hp.push (PySem.W.kdv_tup us)).push (PySem.HandSPX.excO C hp.objs.size)).get? b = some o := fun b o z => Heap.get?_push_of_some _ (Heap.get?_push_of_some _ z)
  have at_ : ((hp.push (PySem.W.kdv_tup us)).push (PySem.HandSPX.excO C hp.objs.size)).get? (hp.objs.size + 1) = some (PySem.HandSPX.excO C hp.objs.size) := by heap_get
  have I2 := I1.laid (t' := tk) (a := hp.objs.size + 1) (o := L2.exo (hp.objs.size + 1) C none) keep up (L2.exo_ok at_)
  have rel : L2.Vals (V.ref (hp.objs.size + 1) :: (vs ++ dvs)) (Value.ref (hp.objs.size + 1) :: (us ++ ds)) := .cons rfl (r1.append hd)
  have len := rel.length
  rw [F.len _ _ _ _ prom] at len
  have small : us.length ≤ sizeLine := by
    rw [← r1.length, sizeLine_eq]
    omega
  have body := F.run _ X.stack _ _ ⟨Value.ref (hp.objs.size + 1) :: us, []⟩ (Value.ref (hp.objs.size + 1) :: (us ++ ds)) _ _ (fun _ _ _ => False) (hr.make C us []) (I2.env0.make C us []) (hb _ (Value.ref (hp.objs.size + 1) :: us) I2.kIn len.symm) rel prom
  refine wpAny_call (PySem.HandSPX.call_own PySem.F.excBase_ArithmeticError (fun Y => PySem.W.excTail_contains Y bm hbm) (I1.kIn _ _ hC) (PySem.W.looks_findIn I1.kIn hi) (fun self => PySem.W.bind_fn I1.kIn self ht) small (codeAny_mono body ?_))
  rintro (er | fl) s' hq
  · exact hx pins σ _ _ er s' I2 hq
  · cases fl with
    | ret u =>
      obtain ⟨v, H2, os2, bare2, un2, hok2, rv, ev, d, fs, ea, ed, hd1, q2⟩ := hq
      subst ev
      obtain ⟨h2, g2, d2, t2, os'⟩ := s'
      exact ⟨rv, L2.mk_end (L2.raises_own T.ex T.ty) I1 up keep un2 hok2 os2 bare2 ea ed hd1 q2⟩
    | next => exact False.elim hq
    | brk => exact False.elim hq
    | cont => exact False.elim hq
/-- what is needed for isinstance(e, ..), e such an exception -/
structure IsC (K : PySem.W.Frag) (D : Addr) : Prop where
  hg : PySem.W.findIn K (.ref D) "__getattribute__" = some (some (.builtin "BaseException.__getattribute__"))
  hk : PySem.W.findIn K (.ref D) "__getattr__" = some none
  hs : PySem.W.subIn K (.ref D) (.type "BaseException") = some true
  hd : PySem.W.hasDictIn K D = true
  ha : PySem.W.findIn K (.ref D) "__class__" = some (some (.builtin "object.__class__"))
  hn : PySem.W.specialIn K (.builtin "object.__class__") "__get__" = some (some (.builtin "getset_descriptor.__get__"))
  ht : PySem.W.takesIn K (.builtin "object.__class__") = some true
  hm : PySem.W.mroIn K D (.type "object") = some true
def rIsX (K : PySem.W.Frag) (D a d : Addr) : List V → Hp → VK → Prop := fun xs H Q => ∃ (c : V) (cv : Value) (b : Bool) (fs : List (Str × V)), xs = [.ref a, c] ∧ H d = some (.xd fs) ∧ (∀ u, L2.RelV c u → u = cv) ∧ PySem.W.kitOne K (.ref D) cv = some b ∧ Q (.bl b) H
/-- isinstance(e, c), e the caught exception with its fields in a dict at d -/
theorem call_isX {X : Cx} {a D d : Addr} {oe : Obj} {pn : List (Addr × Obj)} (T : IsC X.K D) (hz : L2.Zc (.ref D) (some d) oe) (hf : ∃ vs, oe.data = .fields vs) : CallR (X.suite a ((a, oe) :: pn)) (.builtin "isinstance") (rIsX X.K D a d) := by
  rintro pins s σ H xs us Q I r ⟨c, cv, b, fs, rfl, hdd, hcv, e, q⟩
  match us, r with
  | [_, _], .cons rx (.cons rt .nil) =>
    cases rx
    have ec := hcv _ rt
    subst ec
    obtain ⟨hget, _⟩ := I.pin (a, oe) (List.mem_append.mpr (.inl List.mem_cons_self))
    obtain ⟨vs, hv⟩ := hf
    have hx : ObjOk X.prog X.w H s.heap d (.xd fs) := I.hok d _ hdd
    obtain ⟨mA, hns, _⟩ := hx
    obtain ⟨od, ho, _⟩ := lookIn_ns hns
    have J : PySem.W.InstAt s.heap a oe D (some od) := by
      refine ⟨hget, hz.1, by unfold PySem.W.notCls; rw [hv] <;> rfl, ?_⟩
      rw [hz.2]
      exact ho
    have hcl : (PySem.W.clsIn X.K D).isSome = true := by
      obtain ⟨cd, hc, _⟩ := PySem.W.any_some T.hd
      rw [hc] <;> rfl
    exact PySem.W.kia_one (PySem.W.kitx_exc hcl T.hg T.hk T.hs T.ha T.hn T.ht T.hm) I.kIn J e (fun z => nomatch z) fun tk => ⟨.bl b, H, I.kept (t' := tk) fun _ _ z => z, rfl, q⟩
/-- the same where the suite is told of any error -/
def rIsY (K : PySem.W.Frag) (D a : Addr) (cls : Value) (d : Option Addr) : List V → Hp → VK → Prop := fun xs H Q => cls = .ref D ∧ ∃ dd, d = some dd ∧ rIsX K D a dd xs H Q
theorem call_isY {X : Cx} {a D : Addr} {cls : Value} {d : Option Addr} {oe : Obj} {pn : List (Addr × Obj)} (T : IsC X.K D) (hz : L2.Zc cls d oe) (hf : ∃ vs, oe.data = .fields vs) : CallR (X.suite a ((a, oe) :: pn)) (.builtin "isinstance") (rIsY X.K D a cls d) := by
  rintro pins s σ H xs us Q I r ⟨rfl, dd, rfl, h⟩
  exact call_isX T hz hf pins s σ H xs us Q I r h
/-- isinstance(e, (C1, ..)), the tuple new or not -/
def rIsT (K : PySem.W.Frag) (D a : Addr) (cls : Value) (d : Option Addr) : List V → Hp → VK → Prop := fun xs H Q => cls = .ref D ∧ ∃ (dd t : Addr) (cs : List Addr) (fs : List (Str × V)), d = some dd ∧ H dd = some (.xd fs) ∧ xs = [.ref a, .ref t] ∧ H t = some (.tup (cs.map V.ref)) ∧ PySem.W.kitAny K (.ref D) (cs.map Value.ref) = some false ∧ Q (.bl false) H
theorem refs_vals : ∀ {cs : List Addr} {us : List Value}, L2.Vals (cs.map V.ref) us → us = cs.map Value.ref
  | [], _, r => by cases r; rfl
  | c :: cs, _, r => by
    cases r with
    | cons h t =>
      have e : _ = Value.ref c := h
      rw [e, refs_vals t]
      rfl
theorem call_isT {X : Cx} {a D : Addr} {cls : Value} {d : Option Addr} {oe : Obj} {pn : List (Addr × Obj)} (T : IsC X.K D) (hz : L2.Zc cls d oe) (hf : ∃ vs, oe.data = .fields vs) : CallR (X.suite a ((a, oe) :: pn)) (.builtin "isinstance") (rIsT X.K D a cls d) := by
  rintro pins s σ H xs us Q I r ⟨rfl, dd, t, cs, fs, rfl, hdd, rfl, ht, e, q⟩
  match us, r with
  | [_, _], .cons rx (.cons rt .nil) =>
    cases rx
    cases rt
    obtain ⟨hget, _⟩ := I.pin (a, oe) (List.mem_append.mpr (.inl List.mem_cons_self))
    obtain ⟨vs, hv⟩ := hf
    have hx : ObjOk X.prog X.w H s.heap dd (.xd fs) := I.hok dd _ hdd
    obtain ⟨mA, hns, _⟩ := hx
    obtain ⟨od, ho, _⟩ := lookIn_ns hns
    have J : PySem.W.InstAt s.heap a oe D (some od) := by
      refine ⟨hget, hz.1, by unfold PySem.W.notCls; rw [hv] <;> rfl, ?_⟩
      rw [hz.2]
      exact ho
    have hcl : (PySem.W.clsIn X.K D).isSome = true := by
      obtain ⟨cd, hc, _⟩ := PySem.W.any_some T.hd
      rw [hc] <;> rfl
    obtain ⟨its, rv, htp, _⟩ := I.tuple (SqT.of ht)
    have ei := refs_vals rv
    subst ei
    obtain ⟨⟨tc, tdd, tda, tsl⟩, hto, htc, n, htd⟩ := htp
    dsimp only at htc htd
    subst htc htd
    exact PySem.W.kia_tup (PySem.W.kitx_exc hcl T.hg T.hk T.hs T.ha T.hn T.ht T.hm) I.kIn J hto e (fun z => nomatch z) fun tk => ⟨.bl false, H, I.kept (t' := tk) fun _ _ z => z, rfl, q⟩
/-! ### defs in which lambdas are made: what the text says of them -/
/-- a def of the text whose code object stands at c -/
structure FunT (K : PySem.W.Frag) (x q : Str) (st : Stmt) (f c : Addr) (fd : FuncData) : Prop where
  ex : ∃ (oc : Value) (od : Option Addr) (kV doc pm : Value) (an : Option Addr) (ct : Value) (osl : Array (Option Value)), fd = PySem.W.fnOf x q (defArgs st) (defBody st) (defScope st) .none kV doc pm an (.ref c) ct ∧ K.lookup f = some ⟨oc, od, .func fd, osl⟩ ∧ PySem.W.codeIn K (.ref c) q = true
  kp : PySem.W.keepIn K (.ref f) = true
theorem FunT.ok {P : Program} {w : World} {K : PySem.W.Frag} {mg : Str → Option Value} {base : Heap} {x q : Str} {st : Stmt} {f c : Addr} {fd : FuncData} {N ps : List Str} {k : Nat} {sp : Sp} (F : FunT K x q st f c fd) (S : FnScope N ps (defScope st)) (len : ∀ vs H Q E, sp vs H Q E → vs.length = ps.length)
    (hbody : ∀ (A : Around) (outer : List Env) (s : Shared) (H : Hp) (vs : List V) (Q : VK) (E : XK), Room k (A.deeper (PyProof.Rows.envOfC q (defScope st) s.heap.objs.size f (.ref c))) → sp vs H Q E →
      ∃ t, PSs (cxOf CX0 P w K mg base N q (defScope st) f (.ref c) A outer s H E).nox (defBody st) t ∧ t { nx := fun _ H' => Q .non H', rt := Q } (start N vs) H) : FnOk P w K mg base CX0 (k + 1) f fd ps sp := by
  obtain ⟨oc, od, kV, doc, pm, an, ct, osl, rfl, lk, hcd⟩ := F.ex
  refine fn_of lk hcd S len fun A outer s H vs Q E hr hsp => ?_
  obtain ⟨t, h, z⟩ := hbody A outer s H vs Q E hr hsp
  exact ⟨t, h.nox, z⟩
structure DfnT (K : PySem.W.Frag) (mg : Str → Option Value) (x : Str) (st : Stmt) (f c : Addr) (ps : List Str) : Prop where
  ex : ∃ fd, FunT K x x st f c fd ∧ Binds K fd ps []
  g : mg x = some (.ref f)
/-! ### the text by places -/
def top (i : Nat) : Stmt := PySem.Challenge.pw_breakerrow_k54_logs_of_rows_replayed.main.body.getD i (.Pass ⟨0, 0, 0, 0⟩)
abbrev st__wall : Stmt := top 0
abbrev st_InvalidRow_init : Stmt := inClass (top 3) 0
abbrev st_InvalidIndex_init : Stmt := inClass (top 4) 0
abbrev st_InvalidBound_init : Stmt := inClass (top 5) 0
abbrev st_InvalidLog_init : Stmt := inClass (top 6) 0
abbrev st_InvalidCall_init : Stmt := inClass (top 7) 0
abbrev st_LimitExceeded_init : Stmt := inClass (top 8) 0
abbrev st_is_integer : Stmt := top 10
abbrev st_is_at_least : Stmt := top 11
abbrev st_is_within : Stmt := top 12
abbrev st_Row_init : Stmt := inClass (top 17) 0
abbrev st_Row_breaker_list : Stmt := inClass (top 17) 1
abbrev st_Row_step_length : Stmt := inClass (top 17) 2
abbrev st_Row_phase_time : Stmt := inClass (top 17) 3
abbrev st_Row_len : Stmt := inClass (top 17) 4
abbrev st_Row_getitem : Stmt := inClass (top 17) 5
abbrev st_Row_iter : Stmt := inClass (top 17) 6
abbrev st_Row_contains : Stmt := inClass (top 17) 7
abbrev st_Row_add : Stmt := inClass (top 17) 8
abbrev st_Row_eq : Stmt := inClass (top 17) 9
abbrev st_is_breaker : Stmt := top 18
abbrev st_check_breakers : Stmt := top 19
abbrev st_check_step : Stmt := top 20
abbrev st_request_time : Stmt := top 21
abbrev st_closed_states : Stmt := top 26
abbrev st_passes : Stmt := top 27
abbrev st_state_behind : Stmt := top 28
abbrev st_sent : Stmt := top 29
abbrev st_Playing_init : Stmt := inClass (top 31) 0
abbrev st_Playing_base_row : Stmt := inClass (top 31) 1
abbrev st_Playing_next_request : Stmt := inClass (top 31) 2
abbrev st_Playing_request : Stmt := inClass (top 31) 3
abbrev st_Playing_state_list : Stmt := inClass (top 31) 4
abbrev st_Playing_is_whole : Stmt := inClass (top 31) 5
abbrev st_Playing_log : Stmt := inClass (top 31) 6
abbrev st_Playing_undo : Stmt := inClass (top 31) 7
abbrev st_Playing_eq : Stmt := inClass (top 31) 8
abbrev st_is_word : Stmt := top 32
abbrev st_check_words : Stmt := top 33
abbrev st_played : Stmt := top 34
abbrev st_replay : Stmt := top 35
abbrev st_outcomes : Stmt := top 36
abbrev st__law_cell_at : Stmt := top 38
abbrev st__law_source_of : Stmt := top 39
abbrev st__law_draw : Stmt := top 40
abbrev st__law_choice : Stmt := top 41
abbrev st__law_specs : Stmt := top 42
abbrev st__law_words : Stmt := top 43
abbrev st__law_error : Stmt := top 44
abbrev st__law_is_shut : Stmt := top 45
abbrev st__law_behind : Stmt := top 46
abbrev st__law_due : Stmt := top 47
abbrev st__law_shown : Stmt := top 48
abbrev st__law_driven_right : Stmt := top 49
abbrev st__law_refused_right : Stmt := top 50
abbrev st_law : Stmt := top 51
/-- a def of the top -/
structure Dfn (K : PySem.W.Frag) (mg : Str → Option Value) (x : Str) (st : Stmt) (f : Addr) (ps : List Str) : Prop where
  ex : ∃ fd, Fun K x x st f fd ∧ Binds K fd ps []
  g : mg x = some (.ref f)
structure Mth (K : PySem.W.Frag) (C : Addr) (m q : Str) (st : Stmt) (f : Addr) (ps : List Str) : Prop where
  ex : ∃ fd, Fun K m q st f fd ∧ Binds K fd ps []
  at_ : PySem.W.findIn K (.ref C) m = some (some (.ref f))
  fn : PySem.W.isFn K (.ref f) = true
  fk : PySem.W.fnIn K f = true
/-- a def that is called by its name, with its promise -/
structure Cal (P : Program) (w : World) (K : PySem.W.Frag) (mg : Str → Option Value) (base : Heap) (x : Str) (k : Nat) (f : Addr) (ps : List Str) (sp : Sp) : Prop where
  ex : ∃ fd, FnOk P w K mg base CX0 k f fd ps sp ∧ Binds K fd ps []
  g : mg x = some (.ref f)
  kp : PySem.W.keepIn K (.ref f) = true
theorem Dfn.cal {P : Program} {w : World} {K : PySem.W.Frag} {mg : Str → Option Value} {base : Heap} {x : Str} {st : Stmt} {f : Addr} {ps : List Str} {k : Nat} {sp : Sp} (D : Dfn K mg x st f ps) (h : ∀ fd, Fun K x x st f fd → FnOk P w K mg base CX0 k f fd ps sp) : Cal P w K mg base x k f ps sp := by
  obtain ⟨fd, F, b⟩ := D.ex
  exact ⟨⟨fd, h fd F, b⟩, D.g, F.kp⟩
theorem pe_c {X : Cx} {x : Str} {k : Nat} {f : Addr} {ps : List Str} {sp : Sp} {t : TA} {e : Expr} {es : List Expr} {p pos : Pos} (c : Cal X.prog X.w X.K X.mg X.base x k f ps sp) (hr : Room k X.A) (hg : Gl X x)
    (ha : PA X (e :: es) t) (hdb : (x == ("__debug__" : Str)) = false := by decide) (he : starEach (e :: es) X.env = (false, eval e X.env) :: starEach es X.env := by rfl) (hpl : (backTo pos (starEach es X.env)).any (·.1) = false := by rfl) :
    PE X (.Call (.Name x p) (e :: es) [] pos) (tCall sp [] E0 t) := by
  obtain ⟨fd, F, b⟩ := c.ex
  exact pe_call F hr hg c.g c.kp b .nil pass0 ha hdb he hpl
/-- a method with its promise -/
structure Met (P : Program) (w : World) (K : PySem.W.Frag) (mg : Str → Option Value) (base : Heap) (C : Addr) (m : Str) (k : Nat) (f : Addr) (ps : List Str) (sp : Sp) : Prop where
  ex : ∃ fd, FnOk P w K mg base CX0 k f fd ps sp ∧ Binds K fd ps []
  me : Meth K C m f
  fk : PySem.W.fnIn K f = true
theorem Mth.met {P : Program} {w : World} {K : PySem.W.Frag} {mg : Str → Option Value} {base : Heap} {C : Addr} {m q : Str} {st : Stmt} {f : Addr} {ps : List Str} {k : Nat} {sp : Sp} (D : Mth K C m q st f ps) (h : ∀ fd, Fun K m q st f fd → FnOk P w K mg base CX0 k f fd ps sp) : Met P w K mg base C m k f ps sp := by
  obtain ⟨fd, F, b⟩ := D.ex
  exact ⟨⟨fd, h fd F, b⟩, ⟨D.at_, D.fn, F.kp⟩, D.fk⟩

/-! ### values of plain kinds -/
inductive Kd (H : Hp) : V → String → Prop where
  | non : Kd H .non "NoneType"
  | bl (b : Bool) : Kd H (.bl b) "bool"
  | int (i : Int) : Kd H (.int i) "int"
  | str (x : Str) : Kd H (.str x) "str"
  | lst {a : Addr} {xs : List V} (e : H a = some (.lst xs)) : Kd H (.ref a) "list"
  | tup {a : Addr} {xs : List V} (e : H a = some (.tup xs)) : Kd H (.ref a) "tuple"
  | dK {a : Addr} {xs : List (Key × V)} (e : H a = some (.dK xs)) : Kd H (.ref a) "dict"
theorem Kd.ty {K : PySem.W.Frag} {H : Hp} {v : V} {n : String} (h : Kd H v n) : TyX K H v (.type n) := by
  cases h with
  | non => exact .base .non
  | bl b => exact .base (.bl b)
  | int i => exact .base (.int i)
  | str x => exact .base (.str x)
  | lst e => exact .base (.lst e)
  | tup e => exact .base (.tup e)
  | dK e => exact .base (.dK e)
def isI : V → Bool
  | .int _ => true
  | _ => false
def toI : V → Int
  | .int i => i
  | _ => 0
theorem Kd.kit {K : PySem.W.Frag} {H : Hp} {v : V} {n : String} (h : Kd H v n) (c : String) (b : Bool) (hc : c = "int" ∧ b = (n == "int" || n == "bool") ∨ c ≠ "int" ∧ c ∈ ["bool", "list", "tuple"] ∧ b = (n == c)) : PySem.W.kitOne K (.type n) (.type c) = some b := by
  rcases hc with ⟨rfl, rfl⟩ | ⟨_, hc, rfl⟩
  · cases h <;> exact kit_ty (by decide +kernel)
  · simp only [List.mem_cons, List.mem_nil_iff, or_false] at hc
    rcases hc with rfl | rfl | rfl <;> cases h <;> exact kit_ty (by decide +kernel)
theorem Kd.same {H H' : Hp} {v : V} {n : String} (h : Kd H v n) (s : ∀ b o, v = .ref b → H b = some o → H' b = some o) : Kd H' v n := by
  cases h with
  | non => exact .non
  | bl b => exact .bl b
  | int i => exact .int i
  | str x => exact .str x
  | lst e => exact .lst (s _ _ rfl e)
  | tup e => exact .tup (s _ _ rfl e)
  | dK e => exact .dK (s _ _ rfl e)
/-- all but what stands at a is kept -/
def Kp (a : Addr) (H H' : Hp) : Prop := ∀ b o, b ≠ a → H b = some o → H' b = some o
theorem Kp.refl {a : Addr} {H : Hp} : Kp a H H := fun _ _ _ h => h
theorem Kp.trans {a : Addr} {H H1 H2 : Hp} (h : Kp a H H1) (h' : Kp a H1 H2) : Kp a H H2 := fun b o n e => h' b o n (h b o n e)
theorem Kp.of {a : Addr} {H H' : Hp} (s : Same H H') : Kp a H H' := fun b o _ e => s b o e
theorem Kp.upd {a : Addr} {H : Hp} {o : HO} : Kp a H (upd H a o) := fun b _ n e => by rw [upd_ne n]; exact e
theorem Same.upd {H : Hp} {p : Addr} {o : HO} (h : H p = none) : Same H (L2.upd H p o) := fun b u e => by rw [upd_ne (ne_of_none e h)]; exact e
theorem Kp.free {a b : Addr} {H H' : Hp} {o : HO} (k : Kp a H H') (ha : H a = some o) (h : H' b = none) (n : b ≠ a) : H b = none := by
  cases q : H b with
  | none => rfl
  | some u => rw [k b u n q] at h; cases h

/-! ### the promises of the small defs -/
def spIsInt : Sp := fun vs H Q _ => ∃ v n, vs = [v] ∧ Kd H v n ∧ Q (.bl (isI v)) H
def spAtL : Sp := fun vs H Q _ => ∃ v n l, vs = [v, .int l] ∧ Kd H v n ∧ Q (.bl (isI v && decide (l ≤ toI v))) H
def spWithin : Sp := fun vs H Q _ => ∃ v n l m, vs = [v, .int l, .int m] ∧ Kd H v n ∧ Q (.bl (isI v && (decide (l ≤ toI v) && decide (toI v ≤ m)))) H
/-- how many steps -/
def stepsUp (d s : Int) : Int := if -(-d / s) > 0 then -(-d / s) else 0
def spSteps : Sp := fun vs H Q _ => ∃ d s, vs = [.int d, .int s] ∧ 0 < s ∧ s.natAbs.log2 < 9000 ∧ Q (.int (stepsUp d s)) H

/-- what is no list is kept -/
def NL (H H' : Hp) : Prop := ∀ b o, H b = some o → (∀ xs, o ≠ .lst xs) → H' b = some o
theorem NL.refl {H : Hp} : NL H H := fun _ _ h _ => h
theorem NL.trans {H H1 H2 : Hp} (a : NL H H1) (b : NL H1 H2) : NL H H2 := fun c o h n => b c o (a c o h n) n
theorem NL.of {H H' : Hp} (s : Same H H') : NL H H' := fun b o e _ => s b o e
theorem Kp.nl {a : Addr} {H H' : Hp} {xs : List V} (k : Kp a H H') (h : H a = some (.lst xs)) : NL H H' := fun b o e n => k b o (fun z => by subst z; rw [h] at e; exact n xs (Option.some.inj e).symm) e
theorem NL.upd {H : Hp} {p : Addr} {xs : List V} {o : HO} (h : H p = some (.lst xs)) : NL H (L2.upd H p o) := Kp.nl Kp.upd h
theorem pe_gI {X : Cx} {x : Str} {i : Int} {t : Tok} {pos : Pos} (hm : X.mg x = some (.int i t)) (hg : Gl X x := by rfl) (hd : (x == ("__debug__" : Str)) = false := by decide) : PE X (.Name x pos) (tC (.int i)) := pe_glob hg hm ⟨t, rfl⟩ hd
@[irreducible] def PB (n : Nat) : Int := 2 ^ n
theorem PB_succ (n : Nat) : PB (n + 1) = PB n + PB n := by
  unfold PB
  rw [Int.pow_succ]
  omega
theorem PB_pos (n : Nat) : 1 ≤ PB n := by
  unfold PB
  have : (0 : Int) < 2 ^ n := Int.pow_pos (by decide)
  omega
theorem PB_le {n m : Nat} (h : n ≤ m) : PB n ≤ PB m := by
  induction m with
  | zero => rw [Nat.le_zero.mp h]; exact Int.le_refl _
  | succ m ih =>
    by_cases e : n = m + 1
    · rw [e]; exact Int.le_refl _
    · have h1 := ih (by omega)
      have h2 := PB_succ m
      have h3 := PB_pos m
      omega
theorem PB_abs {i : Int} {n : Nat} (h0 : 0 ≤ i) (h : i ≤ PB n) : i.natAbs < 2 ^ (n + 1) := by
  unfold PB at h
  have e : (2 : Nat) ^ (n + 1) = 2 ^ n * 2 := Nat.pow_succ 2 n
  have e2 : ((2 ^ n : Nat) : Int) = 2 ^ n := by rw [Int.natCast_pow]; rfl
  rw [← e2] at h
  have : 0 < 2 ^ n := Nat.pow_pos (by decide)
  rw [e]
  generalize 2 ^ n = w at *
  omega
theorem PB_of {i : Int} {n : Nat} (h : i.natAbs < 2 ^ n) : i ≤ PB n := by
  unfold PB
  have e2 : ((2 ^ n : Nat) : Int) = 2 ^ n := by rw [Int.natCast_pow]; rfl
  rw [← e2]
  generalize 2 ^ n = w at *
  omega
def BB : Int := PB 5000
theorem BB0 : 0 ≤ BB := by
  have := PB_pos 5000
  unfold BB
  omega
theorem bb_lt {i : Int} (h0 : 0 ≤ i) (h : i ≤ BB + BB) : i.natAbs < 2 ^ 5002 := PB_abs h0 (by rw [PB_succ]; exact h)
theorem mulBB {i j : Int} (i0 : 0 ≤ i) (i1 : i ≤ BB + BB) (j0 : 0 ≤ j) (j1 : j ≤ BB + BB) : CMulW i j := wide_mul (bb_lt i0 i1) (bb_lt j0 j1) (by decide) (by decide) (by decide)
theorem BB1 : 1 ≤ BB := PB_pos 5000
theorem divBB {j : Int} (j0 : 1 ≤ j) (j1 : j ≤ BB) : j.natAbs.log2 < 9000 := (wide_div (i := 0) (by omega : 0 < j) (bb_lt (by omega) (by have := BB0; omega)) (by decide) (by decide)).2
theorem small2 {n : Nat} (h : n ≤ 100000) : n ≤ sizeLine := Nat.le_trans h (by decide)
theorem small1 {n : Nat} (h : n ≤ 100000) : n < sizeLine := Nat.lt_of_le_of_lt h (by decide)
theorem tYes_of {σ : L2.St} {H : Hp} {A B : Hp → Prop} (h : A H) : tYes σ H (fun b H3 => if b = true then A H3 else B H3) := by
  show if true = true then A H else B H
  rw [if_pos rfl]
  exact h
theorem cut_init (xs : List V) : cutV xs none (some (-1)) = xs.take (xs.length - 1) := by
  show (xs.drop 0).take ((if (-1 : Int) < 0 then ((-1 : Int) + (xs.length : Int)).toNat else min (-1 : Int).toNat xs.length) - 0) = _
  rw [if_pos (by decide), List.drop_zero]
  congr 1
  omega
theorem cut_last (xs : List V) : cutV xs (some (-1)) none = xs.drop (xs.length - 1) := by
  show (xs.drop (if (-1 : Int) < 0 then ((-1 : Int) + (xs.length : Int)).toNat else min (-1 : Int).toNat xs.length)).take (xs.length - (if (-1 : Int) < 0 then ((-1 : Int) + (xs.length : Int)).toNat else min (-1 : Int).toNat xs.length)) = _
  rw [if_pos (by decide)]
  have e : ((-1 : Int) + (xs.length : Int)).toNat = xs.length - 1 := by omega
  rw [e]
  refine List.take_of_length_le ?_
  rw [List.length_drop]
  exact Nat.le_refl _
theorem none_of {H H' : Hp} {l : Addr} (s : Same H H') (h : H' l = none) : H l = none := by
  cases q : H l with
  | none => rfl
  | some o => rw [s _ _ q] at h; cases h
theorem for_enum {K : PySem.W.Frag} {a : Addr} {xs : List V} {g : TG} {tb : TS} {D : Ends} {σ : L2.St} {H : Hp} (Pv : Nat → L2.St → Hp → Prop) (h0 : Pv 0 σ H) (hl : ∀ i σ H, i ≤ xs.length → Pv i σ H → SqL K H a xs)
    (hs : ∀ i x T σ H, xs[i]? = some x → Pv i σ H → H T = none → g (.ref T) σ (upd H T (.tup [.int (i : Nat), x])) fun σ2 H2 => tb { D with nx := Pv (i + 1), ct := Pv (i + 1), bk := D.nx } σ2 H2) (hd : ∀ σ H, Pv xs.length σ H → D.nx σ H) :
    ∃ W : Nat → Nat → L2.St → Hp → Prop, (∃ m, W 0 m σ H) ∧ ∀ i m σ H, W i m σ H →
      ((Ite K a).stop i H ∧ D.nx σ H) ∨ ((Ite K a).go i H ∧ ∃ N : L2.St → Hp → Prop, (∀ σ' H', N σ' H' → ∃ m', m' < m ∧ W (i + 1) m' σ' H') ∧ ∀ x H', (Ite K a).yld i H x H' → g x σ H' fun σ2 H2 => tb { D with nx := N, ct := N, bk := D.nx } σ2 H2) := by
  refine ⟨fun i m σ H => m = xs.length - i ∧ i ≤ xs.length ∧ Pv i σ H, ⟨xs.length, by simp, Nat.zero_le _, h0⟩, ?_⟩
  rintro i m σ H ⟨rfl, hi, p⟩
  have q := hl i σ H hi p
  by_cases hlt : i < xs.length
  · refine .inr ⟨⟨xs, xs[i], q, by simp [hlt]⟩, Pv (i + 1), fun σ' H' p' => ⟨xs.length - (i + 1), by omega, rfl, hlt, p'⟩, fun x H' y => ?_⟩
    obtain ⟨T, x', rfl, hT, rfl, hx⟩ := y
    exact hs i x' T σ H (hx xs q) p hT
  · have e : i = xs.length := by omega
    subst e
    exact .inl ⟨⟨xs, q, Nat.le_refl _⟩, hd σ H p⟩
theorem pe_callN0 {X : Cx} {CX : CXT} {k : Nat} {f : Addr} {fd : FuncData} {ps ks : List Str} {sp : Sp} {E : XK} {x : Str} {p pos : Pos} {kws : List Keyword} {tk : TA} {g : List Value → List Value → List Value} {gV : List V → List V → List V}
    (F : FnOk X.prog X.w X.K X.mg X.base CX k f fd ps sp) (hr : Room k X.A) (hg : Gl X x) (hm : X.mg x = some (.ref f)) (hk : PySem.W.keepIn X.K (.ref f) = true) (hb : KBn X.K fd ps 0 ks g gV) (hx : Passes CX X E) (hkw : PK X kws tk)
    (hall : (backToKw pos (keywordEach kws X.env)).all (·.1.isSome) = true := by rfl) (hks : (backToKw pos (keywordEach kws X.env)).filterMap (·.1) = ks := by rfl) (hdb : (x == ("__debug__" : Str)) = false := by decide)
    (hpl : ((backTo pos (starEach [] X.env)).any (·.1) || (backToKw pos (keywordEach kws X.env)).any (·.1.isNone)) = false := by rfl) :
    PE X (.Call (.Name x p) [] kws pos) (tCallN 0 ks.length sp gV E tNil tk) := by
  refine ⟨fun pins s σ H Q I h => ?_⟩
  refine wpAny_Call_Name_kw (ld_glob I hg hm ?_ hdb)
  refine PySem.W.callWith_KW0 (h₀ := X.base) I.ok.mod.kin hk hall ?_ hpl
  refine thn (hkw.run pos pins s σ H _ I h) fun ws s2 ⟨zs, H2, I2, rz, l1, l2, q2⟩ => ⟨I2.kIn, ?_⟩
  rw [hks]
  exact run_fnN F hr hb hx I2 .nil rz rfl l2 q2
section
variable {X : Cx} {C : Addr} {k : Nat} {f : Addr} {ps : List Str} {sp : Sp}
theorem Met.op_in (c : Met X.prog X.w X.K X.mg X.base C "__contains__" k f ps sp) (hr : Room k X.A) : OpR X (compareOp .In) (rOwnIn C sp E0 _root_.id) := by
  obtain ⟨fd, F, b⟩ := c.ex
  exact op_own_in F hr c.me.at_ c.me.fn b pass0
theorem Met.op_notin (c : Met X.prog X.w X.K X.mg X.base C "__contains__" k f ps sp) (hr : Room k X.A) : OpR X (compareOp .NotIn) (rOwnIn C sp E0 Bool.not) := by
  obtain ⟨fd, F, b⟩ := c.ex
  exact op_own_notin F hr c.me.at_ c.me.fn b pass0
theorem Met.c_len (c : Met X.prog X.w X.K X.mg X.base C "__len__" k f ps sp) (hr : Room (k + 1) X.A) : CallR X (.builtin "len") (rOwnLen C sp E0) := by
  obtain ⟨fd, F, b⟩ := c.ex
  exact call_own_len F hr c.me.at_ c.me.fn b pass0
theorem Met.op_add (c : Met X.prog X.w X.K X.mg X.base C "__add__" k f ps sp) (hr : Room k X.A) (hc : PySem.W.selfFirst X.K C = true) : OpR X (binaryOp .Add) (rOwnAdd C sp E0) := by
  obtain ⟨fd, F, b⟩ := c.ex
  exact op_own_add F hr hc c.me.at_ c.me.fn b pass0
theorem Met.op_eq (c : Met X.prog X.w X.K X.mg X.base C "__eq__" k f ps sp) (hr : Room k X.A) : OpR X (compareOp .Eq) (rOwnEq C sp E0 _root_.id) := by
  obtain ⟨fd, F, b⟩ := c.ex
  exact op_own_eq F hr c.me.at_ c.me.fn b pass0
theorem Met.op_ne (c : Met X.prog X.w X.K X.mg X.base C "__eq__" k f ps sp) (hr : Room (k + 1) X.A) (hm : PySem.W.mroIn X.K C (.type "object") = some true) (hne : PySem.W.findIn X.K (.ref C) "__ne__" = some (some (.builtin "object.__ne__"))) : OpR X (compareOp .NotEq) (rOwnEq C sp E0 Bool.not) := by
  obtain ⟨fd, F, b⟩ := c.ex
  exact op_own_ne F hr hm hne c.me.at_ c.me.fn b pass0
theorem Met.p_ix {a b : Expr} {ta tb : TE} {pos : Pos} (c : Met X.prog X.w X.K X.mg X.base C "__getitem__" k f ps sp) (hr : Room (k + 1) X.A) (ha : PE X a ta) (hb' : PE X b tb) (hsl : ∀ o i, subscripted b true o i = runValue (.builtin "lifetime.subscript" ⟨[o, i], []⟩) := by exact fun _ _ => rfl) :
    PE X (.Subscript a b pos) (tOp (rOwnIx C sp E0) ta tb) := by
  obtain ⟨fd, F, bb⟩ := c.ex
  exact pe_own_ix F hr c.me.at_ c.fk c.me.fn bb pass0 ha hb' hsl
end
theorem Met.p_m0 {X : Cx} {C : Addr} {k : Nat} {f : Addr} {ps : List Str} {sp : Sp} {m : Str} {o : Expr} {ta : TE} {apos pos : Pos} {pl : Sem Bool} (c : Met X.prog X.w X.K X.mg X.base C m k f ps sp) (cl : Cls X.K C) (hr : Room k X.A) (he : PE X o ta)
    (ht : eval (.Call (.Attribute o m apos) [] [] pos) X.env = (do
      let ov ← eval o X.env
      standAt apos.atName
      let (f, first) ← holding [ov] (getMethod ov m pl)
      callWith pos f first (backTo pos (starEach [] X.env)) (backToKw pos (keywordEach [] X.env))) := by rfl) :
    PE X (.Call (.Attribute o m apos) [] [] pos) (tMeth C m sp [] E0 ta tNil) := by
  obtain ⟨fd, F, b⟩ := c.ex
  exact pe_meth0 he cl c.me F hr b .nil pass0 ht
/-! ### a class of the text -/
structure CF (K : PySem.W.Frag) (C : Addr) : Prop where
  cl : Cls K C
  cls : PySem.W.isClsIn K C = true
  ty : PySem.W.typeIn K (.ref C) = some (.type "type")
  oc : PySem.W.findIn K (.ref C) "__class__" = some (some (.builtin "object.__class__"))
  og : PySem.W.specialIn K (.builtin "object.__class__") "__get__" = some (some (.builtin "getset_descriptor.__get__"))
  ot : PySem.W.takesIn K (.builtin "object.__class__") = some true
  om : PySem.W.mroIn K C (.type "object") = some true
  sf : PySem.W.selfFirst K C = true
  ne : PySem.W.findIn K (.ref C) "__ne__" = some (some (.builtin "object.__ne__"))
theorem CF.kitT {K : PySem.W.Frag} {C : Addr} (M : CF K C) {H : Hp} {v : V} {n : String} (h : Kd H v n) : PySem.W.kitOne K (.type n) (.ref C) = some false := by
  have e1 : ((PySem.W.clsIn K C).isSome && PySem.W.typeIn K (.ref C) == some (.type "type")) = true := by
    have h2 : (PySem.W.clsIn K C).isSome = true := M.cls
    rw [h2, M.ty] <;> rfl
  have e2 : PySem.W.subIn K (.type n) (.ref C) = some false := by
    cases h with
    | non => exact sub_ty (l := ["NoneType", "object"]) (by decide +kernel)
    | bl _ => exact sub_ty (l := ["bool", "int", "object"]) (by decide +kernel)
    | int _ => exact sub_ty (l := ["int", "object"]) (by decide +kernel)
    | str _ => exact sub_ty (l := ["str", "object"]) (by decide +kernel)
    | lst _ => exact sub_ty (l := ["list", "object"]) (by decide +kernel)
    | tup _ => exact sub_ty (l := ["tuple", "object"]) (by decide +kernel)
    | dK _ => exact sub_ty (l := ["dict", "object"]) (by decide +kernel)
  show (if (Value.type n == Value.ref C) = true then some true else PySem.W.kitCls K (.type n) (.ref C)) = some false
  rw [if_neg (by intro z; cases z)]
  show (if ((PySem.W.clsIn K C).isSome && PySem.W.typeIn K (.ref C) == some (.type "type")) = true then PySem.W.subIn K (.type n) (.ref C) else none) = some false
  rw [if_pos e1, e2]
theorem CF.tyR {K : PySem.W.Frag} {C : Addr} (M : CF K C) {H : Hp} {p dx : Addr} {fs : List (Str × V)} (h : H p = some (.ins C dx fs)) : TyX K H (.ref p) (.ref C) := .base (.ins h M.cl M.oc M.og M.ot M.om)
theorem vals_rev {vs : List V} {us : List Value} (r : Vals vs us) : Vals vs.reverse us.reverse := by
  induction r with
  | nil => exact .nil
  | cons h t ih =>
    rw [List.reverse_cons, List.reverse_cons]
    exact ih.append (.cons h .nil)
/-- f(c = .., b = .., a = ..) of a def f(a, b, c) -/
theorem pe_kr {X : Cx} {k : Nat} {f : Addr} {sp : Sp} {x : Str} {ps : List Str} {st : Stmt} {kws : List Keyword} {tk : TA} {p pos : Pos} (D : Dfn X.K X.mg x st f ps) (h : ∀ fd, Fun X.K x x st f fd → FnOk X.prog X.w X.K X.mg X.base CX0 k f fd ps sp)
    (hbind : ∀ (kV doc pm : Value) (an : Option Addr) (cdv ct : Value) (us : List Value), us.length = ps.reverse.length → bindArgs (PySem.W.fnOf x x (defArgs st) (defBody st) (defScope st) .none kV doc pm an cdv ct) ⟨[], ps.reverse.zip us⟩ = pure (ps.zip us.reverse))
    (hr : Room k X.A) (hg : Gl X x) (hkw : PK X kws tk) (hall : (backToKw pos (keywordEach kws X.env)).all (·.1.isSome) = true := by rfl) (hks : (backToKw pos (keywordEach kws X.env)).filterMap (·.1) = ps.reverse := by rfl) (hdb : (x == ("__debug__" : Str)) = false := by decide)
    (hpl : ((backTo pos (starEach [] X.env)).any (·.1) || (backToKw pos (keywordEach kws X.env)).any (·.1.isNone)) = false := by rfl) :
    PE X (.Call (.Name x p) [] kws pos) (tCallN 0 ps.reverse.length sp (fun us ws => us ++ ws.reverse) E0 tNil tk) := by
  obtain ⟨fd, F, _⟩ := D.ex
  have hb : KBn X.K fd ps 0 ps.reverse (fun us ws => us ++ ws.reverse) (fun us ws => us ++ ws.reverse) := by
    refine ⟨fun s us ws hX h1 h2 => ?_, fun r1 r2 => r1.append (vals_rev r2)⟩
    obtain ⟨oc, od, kV, doc, pm, an, cdv, ct, osl, rfl, lk, hcd⟩ := F.ex
    match us, h1 with
    | [], _ => exact .of_eq (hbind kV doc pm an cdv ct ws h2)
  exact pe_callN0 (h fd F) hr hg D.g F.kp hb pass0 hkw hall hks hdb hpl
/-- where the defs and classes of the text stand -/
structure LA where
  f__wall : Addr
  f_is_integer : Addr
  f_is_at_least : Addr
  f_is_within : Addr
  f_is_breaker : Addr
  f_check_breakers : Addr
  f_check_step : Addr
  f_request_time : Addr
  f_closed_states : Addr
  f_passes : Addr
  f_state_behind : Addr
  f_sent : Addr
  f_is_word : Addr
  f_check_words : Addr
  f_played : Addr
  f_replay : Addr
  f_outcomes : Addr
  f__law_cell_at : Addr
  f__law_source_of : Addr
  f__law_draw : Addr
  f__law_choice : Addr
  f__law_specs : Addr
  f__law_words : Addr
  f__law_error : Addr
  f__law_is_shut : Addr
  f__law_behind : Addr
  f__law_due : Addr
  f__law_shown : Addr
  f__law_driven_right : Addr
  f__law_refused_right : Addr
  k__law_refused_right : Addr
  t__law_refused_right : Addr
  c_Row : Addr
  i_Row : Addr
  m_Row_breaker_list : Addr
  m_Row_step_length : Addr
  m_Row_phase_time : Addr
  m_Row_len : Addr
  m_Row_getitem : Addr
  m_Row_contains : Addr
  m_Row_add : Addr
  m_Row_eq : Addr
  c_Playing : Addr
  i_Playing : Addr
  m_Playing_base_row : Addr
  m_Playing_next_request : Addr
  m_Playing_request : Addr
  m_Playing_state_list : Addr
  m_Playing_is_whole : Addr
  m_Playing_log : Addr
  m_Playing_undo : Addr
  m_Playing_eq : Addr
  e_BreakerError : Addr
  e_InvalidRow : Addr
  e_InvalidIndex : Addr
  e_InvalidBound : Addr
  e_InvalidLog : Addr
  e_InvalidCall : Addr
  e_LimitExceeded : Addr
  i_InvalidRow : Addr
  i_InvalidLog : Addr
/-- what the text says of them -/
structure LX (K : PySem.W.Frag) (mg : Str → Option Value) (L : LA) : Prop where
  b_ArithmeticError : mg "ArithmeticError" = none
  b_bool : mg "bool" = none
  b_enumerate : mg "enumerate" = none
  b_int : mg "int" = none
  b_isinstance : mg "isinstance" = none
  b_len : mg "len" = none
  b_list : mg "list" = none
  b_range : mg "range" = none
  b_str : mg "str" = none
  b_tuple : mg "tuple" = none
  b_zip : mg "zip" = none
  n_MOST_BREAKERS : ∃ t, mg "MOST_BREAKERS" = some (.int 12 t)
  n_MOST_COUNT : ∃ t, mg "MOST_COUNT" = some (.int 1000000000000 t)
  n_MOST_TIME : ∃ t, mg "MOST_TIME" = some (.int 1000000000000000000000000000000 t)
  n_MOST_REQUESTS : ∃ t, mg "MOST_REQUESTS" = some (.int 10000 t)
  n_SERVED : ∃ a, mg "SERVED" = some (.ref a) ∧ ∀ H : Hp, SqT K H a [.str "served"]
  n_FAILED : ∃ a, mg "FAILED" = some (.ref a) ∧ ∀ H : Hp, SqT K H a [.str "failed"]
  d__wall : Dfn K mg "_wall" st__wall L.f__wall ["k"]
  d_is_integer : Dfn K mg "is_integer" st_is_integer L.f_is_integer ["value"]
  d_is_at_least : Dfn K mg "is_at_least" st_is_at_least L.f_is_at_least ["value", "least"]
  d_is_within : Dfn K mg "is_within" st_is_within L.f_is_within ["value", "least", "most"]
  d_is_breaker : Dfn K mg "is_breaker" st_is_breaker L.f_is_breaker ["value"]
  d_check_breakers : Dfn K mg "check_breakers" st_check_breakers L.f_check_breakers ["breakers", "part"]
  d_check_step : Dfn K mg "check_step" st_check_step L.f_check_step ["step"]
  d_request_time : Dfn K mg "request_time" st_request_time L.f_request_time ["row", "number"]
  d_closed_states : Dfn K mg "closed_states" st_closed_states L.f_closed_states ["number"]
  d_passes : Dfn K mg "passes" st_passes L.f_passes ["breaker", "state", "time"]
  d_state_behind : Dfn K mg "state_behind" st_state_behind L.f_state_behind ["breaker", "state", "time", "succeeded"]
  d_sent : Dfn K mg "sent" st_sent L.f_sent ["breakers", "states", "time", "up"]
  d_is_word : Dfn K mg "is_word" st_is_word L.f_is_word ["value"]
  d_check_words : Dfn K mg "check_words" st_check_words L.f_check_words ["log"]
  d_played : Dfn K mg "played" st_played L.f_played ["row", "log"]
  d_replay : Dfn K mg "replay" st_replay L.f_replay ["row", "log"]
  d_outcomes : Dfn K mg "outcomes" st_outcomes L.f_outcomes ["row", "log"]
  d__law_cell_at : Dfn K mg "_law_cell_at" st__law_cell_at L.f__law_cell_at ["_law_script", "_law_place"]
  d__law_source_of : Dfn K mg "_law_source_of" st__law_source_of L.f__law_source_of ["_law_cell"]
  d__law_draw : Dfn K mg "_law_draw" st__law_draw L.f__law_draw ["_law_source", "_law_bound"]
  d__law_choice : Dfn K mg "_law_choice" st__law_choice L.f__law_choice ["_law_source", "_law_options"]
  d__law_specs : Dfn K mg "_law_specs" st__law_specs L.f__law_specs ["_law_source", "_law_most", "_law_far"]
  d__law_words : Dfn K mg "_law_words" st__law_words L.f__law_words ["_law_source", "_law_most"]
  d__law_error : Dfn K mg "_law_error" st__law_error L.f__law_error ["_law_ask"]
  d__law_is_shut : Dfn K mg "_law_is_shut" st__law_is_shut L.f__law_is_shut ["_law_spec", "_law_state", "_law_time"]
  d__law_behind : Dfn K mg "_law_behind" st__law_behind L.f__law_behind ["_law_specs_here", "_law_states", "_law_time", "_law_word"]
  d__law_due : Dfn K mg "_law_due" st__law_due L.f__law_due ["_law_parts", "_law_words_here"]
  d__law_shown : Dfn K mg "_law_shown" st__law_shown L.f__law_shown ["_law_game"]
  d__law_driven_right : Dfn K mg "_law_driven_right" st__law_driven_right L.f__law_driven_right ["_law_source", "_law_parts", "_law_words_here"]
  d__law_refused_right : DfnT K mg "_law_refused_right" st__law_refused_right L.f__law_refused_right L.k__law_refused_right ["_law_source", "_law_line", "_law_words_here"]
  gc_Row : mg "Row" = some (.ref L.c_Row)
  cf_Row : CF K L.c_Row
  mk_Row : Mk K L.c_Row L.i_Row
  nf_Row_breakers : NoAttr K L.c_Row "breakers"
  nf_Row_step : NoAttr K L.c_Row "step"
  nf_Row_phase : NoAttr K L.c_Row "phase"
  in_Row : ∃ fd, FunD K "__init__" "Row.__init__" (defArgs st_Row_init) (defBody st_Row_init) (defScope st_Row_init) [] [("phase", .int 0)] L.i_Row fd
  mm_Row_breaker_list : Mth K L.c_Row "breaker_list" "Row.breaker_list" st_Row_breaker_list L.m_Row_breaker_list ["self"]
  mm_Row_step_length : Mth K L.c_Row "step_length" "Row.step_length" st_Row_step_length L.m_Row_step_length ["self"]
  mm_Row_phase_time : Mth K L.c_Row "phase_time" "Row.phase_time" st_Row_phase_time L.m_Row_phase_time ["self"]
  mm_Row_len : Mth K L.c_Row "__len__" "Row.__len__" st_Row_len L.m_Row_len ["self"]
  mm_Row_getitem : Mth K L.c_Row "__getitem__" "Row.__getitem__" st_Row_getitem L.m_Row_getitem ["self", "at"]
  mm_Row_contains : Mth K L.c_Row "__contains__" "Row.__contains__" st_Row_contains L.m_Row_contains ["self", "x"]
  mm_Row_add : Mth K L.c_Row "__add__" "Row.__add__" st_Row_add L.m_Row_add ["self", "other"]
  mm_Row_eq : Mth K L.c_Row "__eq__" "Row.__eq__" st_Row_eq L.m_Row_eq ["self", "other"]
  gc_Playing : mg "Playing" = some (.ref L.c_Playing)
  cf_Playing : CF K L.c_Playing
  mk_Playing : Mk K L.c_Playing L.i_Playing
  nf_Playing_row : NoAttr K L.c_Playing "row"
  nf_Playing_words : NoAttr K L.c_Playing "words"
  nf_Playing_history : NoAttr K L.c_Playing "history"
  in_Playing : ∃ fd, Fun K "__init__" "Playing.__init__" st_Playing_init L.i_Playing fd ∧ Binds K fd ["self", "row"] []
  mm_Playing_base_row : Mth K L.c_Playing "base_row" "Playing.base_row" st_Playing_base_row L.m_Playing_base_row ["self"]
  mm_Playing_next_request : Mth K L.c_Playing "next_request" "Playing.next_request" st_Playing_next_request L.m_Playing_next_request ["self"]
  mm_Playing_request : Mth K L.c_Playing "request" "Playing.request" st_Playing_request L.m_Playing_request ["self", "word"]
  mm_Playing_state_list : Mth K L.c_Playing "state_list" "Playing.state_list" st_Playing_state_list L.m_Playing_state_list ["self"]
  mm_Playing_is_whole : Mth K L.c_Playing "is_whole" "Playing.is_whole" st_Playing_is_whole L.m_Playing_is_whole ["self"]
  mm_Playing_log : Mth K L.c_Playing "log" "Playing.log" st_Playing_log L.m_Playing_log ["self"]
  mm_Playing_undo : Mth K L.c_Playing "undo" "Playing.undo" st_Playing_undo L.m_Playing_undo ["self", "count"]
  mm_Playing_eq : Mth K L.c_Playing "__eq__" "Playing.__eq__" st_Playing_eq L.m_Playing_eq ["self", "other"]
  ge_BreakerError : mg "BreakerError" = some (.ref L.e_BreakerError)
  xe_BreakerError : L2.XfC K L.e_BreakerError
  te_BreakerError : PySem.W.typeIn K (.ref L.e_BreakerError) = some (.type "type")
  ge_InvalidRow : mg "InvalidRow" = some (.ref L.e_InvalidRow)
  xe_InvalidRow : L2.XfC K L.e_InvalidRow
  te_InvalidRow : PySem.W.typeIn K (.ref L.e_InvalidRow) = some (.type "type")
  ge_InvalidIndex : mg "InvalidIndex" = some (.ref L.e_InvalidIndex)
  xe_InvalidIndex : L2.XfC K L.e_InvalidIndex
  te_InvalidIndex : PySem.W.typeIn K (.ref L.e_InvalidIndex) = some (.type "type")
  ge_InvalidBound : mg "InvalidBound" = some (.ref L.e_InvalidBound)
  xe_InvalidBound : L2.XfC K L.e_InvalidBound
  te_InvalidBound : PySem.W.typeIn K (.ref L.e_InvalidBound) = some (.type "type")
  ge_InvalidLog : mg "InvalidLog" = some (.ref L.e_InvalidLog)
  xe_InvalidLog : L2.XfC K L.e_InvalidLog
  te_InvalidLog : PySem.W.typeIn K (.ref L.e_InvalidLog) = some (.type "type")
  ge_InvalidCall : mg "InvalidCall" = some (.ref L.e_InvalidCall)
  xe_InvalidCall : L2.XfC K L.e_InvalidCall
  te_InvalidCall : PySem.W.typeIn K (.ref L.e_InvalidCall) = some (.type "type")
  ge_LimitExceeded : mg "LimitExceeded" = some (.ref L.e_LimitExceeded)
  xe_LimitExceeded : L2.XfC K L.e_LimitExceeded
  te_LimitExceeded : PySem.W.typeIn K (.ref L.e_LimitExceeded) = some (.type "type")
  ae_InvalidRow : AeC K L.e_InvalidRow
  hi_InvalidRow : PySem.W.findIn K (.ref L.e_InvalidRow) "__init__" = some (some (.ref L.i_InvalidRow))
  ti_InvalidRow : PySem.W.typeIn K (.ref L.i_InvalidRow) = some (.type "function")
  in_InvalidRow : ∃ fd, Fun K "__init__" "InvalidRow.__init__" st_InvalidRow_init L.i_InvalidRow fd ∧ Binds K fd ["self", "part", "at"] []
  ne_InvalidRow_part : PySem.W.findIn K (.ref L.e_InvalidRow) "part" = some none
  ne_InvalidRow_at : PySem.W.findIn K (.ref L.e_InvalidRow) "at" = some none
  ne_InvalidRow_index : PySem.W.findIn K (.ref L.e_InvalidRow) "index" = some none
  ne_InvalidRow_call : PySem.W.findIn K (.ref L.e_InvalidRow) "call" = some none
  ne_InvalidRow_limit : PySem.W.findIn K (.ref L.e_InvalidRow) "limit" = some none
  is_InvalidRow : IsC K L.e_InvalidRow
  se_InvalidRow_BreakerError : PySem.W.subIn K (.ref L.e_InvalidRow) (.ref L.e_BreakerError) = some true
  se_InvalidRow_InvalidRow : PySem.W.subIn K (.ref L.e_InvalidRow) (.ref L.e_InvalidRow) = some true
  se_InvalidRow_InvalidIndex : PySem.W.subIn K (.ref L.e_InvalidRow) (.ref L.e_InvalidIndex) = some false
  se_InvalidRow_InvalidBound : PySem.W.subIn K (.ref L.e_InvalidRow) (.ref L.e_InvalidBound) = some false
  se_InvalidRow_InvalidLog : PySem.W.subIn K (.ref L.e_InvalidRow) (.ref L.e_InvalidLog) = some false
  se_InvalidRow_InvalidCall : PySem.W.subIn K (.ref L.e_InvalidRow) (.ref L.e_InvalidCall) = some false
  se_InvalidRow_LimitExceeded : PySem.W.subIn K (.ref L.e_InvalidRow) (.ref L.e_LimitExceeded) = some false
  sa_InvalidRow : PySem.W.subIn K (.ref L.e_InvalidRow) (.type "ArithmeticError") = some true
  ae_InvalidLog : AeC K L.e_InvalidLog
  hi_InvalidLog : PySem.W.findIn K (.ref L.e_InvalidLog) "__init__" = some (some (.ref L.i_InvalidLog))
  ti_InvalidLog : PySem.W.typeIn K (.ref L.i_InvalidLog) = some (.type "function")
  in_InvalidLog : ∃ fd, Fun K "__init__" "InvalidLog.__init__" st_InvalidLog_init L.i_InvalidLog fd ∧ Binds K fd ["self", "at"] []
  ne_InvalidLog_part : PySem.W.findIn K (.ref L.e_InvalidLog) "part" = some none
  ne_InvalidLog_at : PySem.W.findIn K (.ref L.e_InvalidLog) "at" = some none
  ne_InvalidLog_index : PySem.W.findIn K (.ref L.e_InvalidLog) "index" = some none
  ne_InvalidLog_call : PySem.W.findIn K (.ref L.e_InvalidLog) "call" = some none
  ne_InvalidLog_limit : PySem.W.findIn K (.ref L.e_InvalidLog) "limit" = some none
  is_InvalidLog : IsC K L.e_InvalidLog
  se_InvalidLog_BreakerError : PySem.W.subIn K (.ref L.e_InvalidLog) (.ref L.e_BreakerError) = some true
  se_InvalidLog_InvalidRow : PySem.W.subIn K (.ref L.e_InvalidLog) (.ref L.e_InvalidRow) = some false
  se_InvalidLog_InvalidIndex : PySem.W.subIn K (.ref L.e_InvalidLog) (.ref L.e_InvalidIndex) = some false
  se_InvalidLog_InvalidBound : PySem.W.subIn K (.ref L.e_InvalidLog) (.ref L.e_InvalidBound) = some false
  se_InvalidLog_InvalidLog : PySem.W.subIn K (.ref L.e_InvalidLog) (.ref L.e_InvalidLog) = some true
  se_InvalidLog_InvalidCall : PySem.W.subIn K (.ref L.e_InvalidLog) (.ref L.e_InvalidCall) = some false
  se_InvalidLog_LimitExceeded : PySem.W.subIn K (.ref L.e_InvalidLog) (.ref L.e_LimitExceeded) = some false
  sa_InvalidLog : PySem.W.subIn K (.ref L.e_InvalidLog) (.type "ArithmeticError") = some true
  mo_Row_Playing : PySem.W.mroIn K L.c_Row (.ref L.c_Playing) = some false
  mo_Playing_Row : PySem.W.mroIn K L.c_Playing (.ref L.c_Row) = some false
/-- the code objects of the defs in which lambdas are made, and their tables -/
structure TX (base : Heap) (mg : Str → Option Value) (L : LA) : Prop where
  b__law_refused_right : LamX.TabB base mg L.k__law_refused_right L.t__law_refused_right
def LT (L : LA) : List (Addr × Str) := [(L.t__law_refused_right, (("_law_refused_right" : Str) ++ ".<locals>.") ++ "<lambda>")]

/-- a comprehension over zip of two lists -/
theorem lc_zip {K : PySem.W.Frag} {a b : Addr} {xs ys : List V} {g : TG} {tt : TT} {te : TE} {vs : List Nat} {σ : L2.St} {H1 : Hp} {D : Addr} {Qd : Hp → Prop} (hlen : ys.length ≤ xs.length) (Pv : Nat → Hp → Prop) (h0 : Pv 0 (upd H1 D (.lst []))) (hl : ∀ i H, Pv i H → SqL K H a xs ∧ SqL K H b ys)
    (hs : ∀ (i : Nat) (x y : V) (T : Addr) (H : Hp), xs[i]? = some x → ys[i]? = some y → Pv i H → H T = none → g (.ref T) (wipe σ vs) (upd H T (.tup [x, y])) fun σ2 H2 => wipe σ2 vs = wipe σ vs ∧ tt σ2 H2 fun b H3 =>
      if b = true then te σ2 H3 fun y H4 => ∃ acc, H4 D = some (.lst acc) ∧ acc.length < sizeLine ∧ Pv (i + 1) (upd H4 D (.lst (acc ++ [y]))) else Pv (i + 1) H3) (hd : ∀ H, Pv ys.length H → Qd H) :
    ∃ W : Nat → Nat → Hp → Prop, (∃ m, W 0 m (upd H1 D (.lst []))) ∧ ∀ i m H, W i m H → ((Itz K a b).stop i H ∧ Qd H) ∨ ((Itz K a b).go i H ∧ ∃ Nx : Hp → Prop, (∀ H', Nx H' → ∃ m', m' < m ∧ W (i + 1) m' H') ∧ ∀ x H', (Itz K a b).yld i H x H' → g x (wipe σ vs) H' fun σ2 H2 => wipe σ2 vs = wipe σ vs ∧ tt σ2 H2 fun b H3 =>
        if b = true then te σ2 H3 fun y H4 => ∃ acc, H4 D = some (.lst acc) ∧ acc.length < sizeLine ∧ Nx (upd H4 D (.lst (acc ++ [y]))) else Nx H3) := by
  refine ⟨fun i m H => m = ys.length - i ∧ i ≤ ys.length ∧ Pv i H, ⟨ys.length, by omega, Nat.zero_le _, h0⟩, ?_⟩
  rintro i m H ⟨rfl, hi, p⟩
  obtain ⟨qx, qy⟩ := hl i H p
  by_cases hlt : i < ys.length
  · have hx : xs[i]? = some xs[i] := List.getElem?_eq_getElem (by omega)
    have hy : ys[i]? = some ys[i] := List.getElem?_eq_getElem hlt
    refine .inr ⟨⟨xs, ys, _, _, qx, qy, hx, hy⟩, Pv (i + 1), fun H' p' => ⟨ys.length - (i + 1), by omega, rfl, hlt, p'⟩, fun v H' y => ?_⟩
    obtain ⟨T, x', y', rfl, hT, rfl, f1, f2⟩ := y
    exact hs i x' y' T H (f1 xs qx) (f2 ys qy) p hT
  · have e : i = ys.length := by omega
    subst e
    exact .inl ⟨⟨xs, ys, qx, qy, .inr (Nat.le_refl _)⟩, hd H p⟩
/-- an attribute inside a comprehension -/
theorem pe_fldK {X : Cx} {K : PySem.W.Frag} {e : Expr} {f : Str} {pos : Pos} {ta : TE} (hK : X.K = K) (he : PE X e ta) (hb : attributeBase e f X.env (eval e X.env) = eval e X.env) : PE X (.Attribute e f pos) (tFld K ta f) := by
  subst hK
  exact pe_fld he hb
theorem putF_len (f : Str) (v : V) (fs : List (Str × V)) {n : Nat} (h : fs.length ≤ n) : (putF f v fs).length ≤ n + 1 := Nat.le_trans (length_putF f v fs) (Nat.succ_le_succ h)
def spRup : Sp := fun vs H Q _ => ∃ v u : Int, vs = [.int v, .int u] ∧ 0 < u ∧ u.natAbs.log2 < 9000 ∧ CMulW (stepsUp v u) u ∧ Q (.int (stepsUp v u * u)) H
/-! ### the small defs -/
section
variable {P : Program} {w : World} {K : PySem.W.Frag} {mg : Str → Option Value} {base : Heap} {L : LA}
abbrev N_isinteger : List Str := ["value"]
theorem sc_isinteger : FnScope N_isinteger ["value"] (defScope st_is_integer) := ⟨rfl, rfl, rfl, by decide +kernel, rfl, by decide +kernel, by decide +kernel⟩
theorem fn_isinteger (T : LX K mg L) {fd : FuncData} (F : Fun K "is_integer" "is_integer" st_is_integer L.f_is_integer fd) : FnOk P w K mg base CX0 1 L.f_is_integer fd ["value"] (spIsInt) := by
  have nd := sc_isinteger.nd
  refine F.ok sc_isinteger (fun vs H Q E h => ?_) (fun cdv A outer S H vs Q E hr h => ?_)
  · obtain ⟨v, n, rfl, _⟩ := h
    rfl
  · obtain ⟨v, n, rfl, hv, k⟩ := h
    refine ⟨_, (pss_one (ps_ret (pe_and (pe_callB call_isi (by rfl) T.b_isinstance (by decide +kernel) (pa_cons (pv 0) (pa_cons (pe_bltn (by rfl) T.b_int (by decide +kernel : bootBuiltins "int" = some (.type "int")) (v := .ty "int") rfl) pa_nil))) (pe_one (pe_not (pe_callB call_isi (by rfl) T.b_isinstance (by decide +kernel) (pa_cons (pv 0) (pa_cons (pe_bltn (by rfl) T.b_bool (by decide +kernel : bootBuiltins "bool" = some (.type "bool")) (v := .ty "bool") rfl) pa_nil)))))))), ?_⟩
    refine ⟨_, rfl, v, .ty "int", _, _, _, rfl, .ty "int", hv.ty, hv.kit "int" _ (.inl ⟨rfl, rfl⟩), _, rfl, ?_⟩
    refine ite2 (fun c => ?_) (fun c => ?_)
    · refine ⟨_, rfl, v, .ty "bool", _, _, _, rfl, .ty "bool", hv.ty, hv.kit "bool" _ (.inr ⟨by decide, by decide, rfl⟩), _, rfl, ?_⟩
      cases hv <;> first | exact k | (exact absurd c (by decide))
    · cases hv <;> first | exact k | (exact absurd (by decide) c)
theorem ok_isinteger (T : LX K mg L) : Cal P w K mg base "is_integer" 1 L.f_is_integer ["value"] (spIsInt) := T.d_is_integer.cal fun fd F => fn_isinteger T F
abbrev N_isatleast : List Str := ["value", "least"]
theorem sc_isatleast : FnScope N_isatleast ["value", "least"] (defScope st_is_at_least) := ⟨rfl, rfl, rfl, by decide +kernel, rfl, by decide +kernel, by decide +kernel⟩
theorem fn_isatleast (T : LX K mg L) {fd : FuncData} (F : Fun K "is_at_least" "is_at_least" st_is_at_least L.f_is_at_least fd) : FnOk P w K mg base CX0 2 L.f_is_at_least fd ["value", "least"] (spAtL) := by
  have G_isinteger := ok_isinteger (P := P) (w := w) (base := base) T
  have nd := sc_isatleast.nd
  refine F.ok sc_isatleast (fun vs H Q E h => ?_) (fun cdv A outer S H vs Q E hr h => ?_)
  · obtain ⟨v, n, l, rfl, _⟩ := h
    rfl
  · obtain ⟨v, n, l, rfl, hv, k⟩ := h
    refine ⟨_, (pss_one (ps_ret (pe_and (pe_c G_isinteger (hr.mono (by decide)) rfl (pa_cons (pv 0) pa_nil)) (pe_one (pe_cmpR op_ge (pv 0) (pv 1) (nomark _)))))), ?_⟩
    refine ⟨_, rfl, v, n, rfl, hv, _, rfl, ?_⟩
    cases v with
    | int i => exact iteT ⟨_, rfl, _, rfl, _, _, rfl, rfl, k⟩
    | _ => exact iteF k
theorem ok_isatleast (T : LX K mg L) : Cal P w K mg base "is_at_least" 2 L.f_is_at_least ["value", "least"] (spAtL) := T.d_is_at_least.cal fun fd F => fn_isatleast T F
abbrev N_iswithin : List Str := ["value", "least", "most"]
theorem sc_iswithin : FnScope N_iswithin ["value", "least", "most"] (defScope st_is_within) := ⟨rfl, rfl, rfl, by decide +kernel, rfl, by decide +kernel, by decide +kernel⟩
theorem fn_iswithin (T : LX K mg L) {fd : FuncData} (F : Fun K "is_within" "is_within" st_is_within L.f_is_within fd) : FnOk P w K mg base CX0 2 L.f_is_within fd ["value", "least", "most"] (spWithin) := by
  have G_isinteger := ok_isinteger (P := P) (w := w) (base := base) T
  have nd := sc_iswithin.nd
  refine F.ok sc_iswithin (fun vs H Q E h => ?_) (fun cdv A outer S H vs Q E hr h => ?_)
  · obtain ⟨v, n, l, m, rfl, _⟩ := h
    rfl
  · obtain ⟨v, n, l, m, rfl, hv, k⟩ := h
    refine ⟨_, (pss_one (ps_ret (pe_and (pe_c G_isinteger (hr.mono (by decide)) rfl (pa_cons (pv 0) pa_nil)) (pe_one (pe_chain op_le op_le (pv 1) (pv 0) (pv 2)))))), ?_⟩
    refine ⟨_, rfl, v, n, rfl, hv, _, rfl, ?_⟩
    cases v with
    | int i =>
      refine iteT ⟨_, rfl, _, rfl, _, _, rfl, rfl, _, rfl, ?_⟩
      refine ite2 (fun c => ?_) (fun c => ?_)
      · refine ⟨_, rfl, _, _, rfl, rfl, ?_⟩
        have c' : decide (l ≤ i) = true := c
        have k' : Q (.bl (decide (l ≤ i) && decide (i ≤ m))) H := k
        rw [c', Bool.true_and] at k'
        exact k'
      · have c' : decide (l ≤ i) = false := by simpa using c
        have k' : Q (.bl (decide (l ≤ i) && decide (i ≤ m))) H := k
        rw [c', Bool.false_and] at k'
        exact k'
    | _ => exact iteF k
theorem ok_iswithin (T : LX K mg L) : Cal P w K mg base "is_within" 2 L.f_is_within ["value", "least", "most"] (spWithin) := T.d_is_within.cal fun fd F => fn_iswithin T F
end
/-! ### trains as data -/
abbrev Trn := Int × Int × Option Int
def OkTr (t : Trn) : Prop := 0 ≤ t.1 ∧ 1 ≤ t.2.1 ∧ ∀ c, t.2.2 = some c → 1 ≤ c
/-- all times of the first are before the second -/
def Lt (t u : Trn) : Prop := ∃ c, t.2.2 = some c ∧ t.1 + (c - 1) * t.2.1 < u.1
def Srt (ts : List Trn) : Prop := (∀ t ∈ ts, OkTr t) ∧ ts.Pairwise Lt
def minO (n : Int) : Option Int → Int
  | none => n
  | some c => if c < n then c else n
/-- how many times of a train are before x -/
def nbT (t : Trn) (x : Int) : Int := minO (stepsUp (x - t.1) t.2.1) t.2.2
def NB : List Trn → Int → Int
  | [], _ => 0
  | t :: ts, x => nbT t x + NB ts x
def At : List Trn → Int → Option Int
  | [], _ => none
  | t :: ts, i => match t.2.2 with
    | none => some (t.1 + i * t.2.1)
    | some c => if i < c then some (t.1 + i * t.2.1) else At ts (i - c)
def addO (c : Int) : Option Int → Option Int
  | none => none
  | some n => some (c + n)
def Tot : List Trn → Option Int
  | [] => some 0
  | t :: ts => match t.2.2 with
    | none => none
    | some c => addO c (Tot ts)
/-- d / s, rounded up -/
def cl (d s : Int) : Int := -(-d / s)
theorem stepsUp_cl (d s : Int) : stepsUp d s = if cl d s > 0 then cl d s else 0 := rfl
theorem cl_sub (d s c : Int) (hs : 0 < s) : cl (d - c * s) s = cl d s - c := by
  unfold cl
  have e : -(d - c * s) = -d + c * s := by omega
  rw [e, Int.add_mul_ediv_right _ _ (show s ≠ 0 by omega)]
  omega
theorem cl_le {d s n : Int} (hs : 0 < s) : cl d s ≤ n ↔ d ≤ n * s := by
  unfold cl
  have h : -n ≤ -d / s ↔ -n * s ≤ -d := Int.le_ediv_iff_mul_le hs
  rw [Int.neg_mul] at h
  omega
theorem cl_gt {d s n : Int} (hs : 0 < s) : n < cl d s ↔ n * s < d := by
  have h := cl_le (d := d) (s := s) (n := n) hs
  omega
def subO (k : Option Int) (c : Int) : Option Int := match k with
  | none => none
  | some n => some (n - c)
/-- a train is its first c times, and the others -/
theorem nbT_split {s p c : Int} {k : Option Int} (hp : 0 < p) (hc : 0 ≤ c) (hk : ∀ n, k = some n → c ≤ n) (x : Int) : nbT (s, p, k) x = nbT (s, p, some c) x + nbT (s + c * p, p, subO k c) x := by
  have e : x - (s + c * p) = x - s - c * p := by omega
  show minO (stepsUp (x - s) p) k = minO (stepsUp (x - s) p) (some c) + minO (stepsUp (x - (s + c * p)) p) (subO k c)
  rw [e, stepsUp_cl, stepsUp_cl, cl_sub _ _ _ hp]
  cases k with
  | none =>
    show (if cl (x - s) p > 0 then cl (x - s) p else 0) = (if c < (if cl (x - s) p > 0 then cl (x - s) p else 0) then c else (if cl (x - s) p > 0 then cl (x - s) p else 0)) + (if cl (x - s) p - c > 0 then cl (x - s) p - c else 0)
    split <;> split <;> split <;> omega
  | some n =>
    have := hk n rfl
    show (if n < (if cl (x - s) p > 0 then cl (x - s) p else 0) then n else (if cl (x - s) p > 0 then cl (x - s) p else 0)) = (if c < (if cl (x - s) p > 0 then cl (x - s) p else 0) then c else (if cl (x - s) p > 0 then cl (x - s) p else 0)) + (if n - c < (if cl (x - s) p - c > 0 then cl (x - s) p - c else 0) then n - c else (if cl (x - s) p - c > 0 then cl (x - s) p - c else 0))
    split <;> split <;> split <;> split <;> (try split) <;> omega
/-- the step of a single time is nothing -/
theorem nbT_one {s p q : Int} (hp : 0 < p) (hq : 0 < q) (x : Int) : nbT (s, p, some 1) x = nbT (s, q, some 1) x := by
  have one : ∀ p : Int, 0 < p → nbT (s, p, some 1) x = if s < x then 1 else 0 := fun p hp => by
    show (if (1 : Int) < (if cl (x - s) p > 0 then cl (x - s) p else 0) then (1 : Int) else (if cl (x - s) p > 0 then cl (x - s) p else 0)) = _
    have h0 : 0 < cl (x - s) p ↔ 0 * p < x - s := cl_gt hp
    rw [Int.zero_mul] at h0
    split <;> split <;> split <;> omega
  rw [one p hp, one q hq]
theorem NB_app : ∀ (ts us : List Trn) (x : Int), NB (ts ++ us) x = NB ts x + NB us x
  | [], us, x => by show NB us x = 0 + NB us x; omega
  | t :: ts, us, x => by
    show nbT t x + NB (ts ++ us) x = nbT t x + NB ts x + NB us x
    rw [NB_app ts us x]
    omega
theorem addO_addO (a b : Int) (k : Option Int) : addO a (addO b k) = addO (a + b) k := by
  cases k with
  | none => rfl
  | some n => show some (a + (b + n)) = some (a + b + n); rw [Int.add_assoc]
theorem nbT_nn {t : Trn} (h : OkTr t) (x : Int) : 0 ≤ nbT t x := by
  obtain ⟨s, p, k⟩ := t
  show 0 ≤ minO (stepsUp (x - s) p) k
  rw [stepsUp_cl]
  cases k with
  | none => show 0 ≤ if cl (x - s) p > 0 then cl (x - s) p else 0; split <;> omega
  | some c =>
    have := h.2.2 c rfl
    show 0 ≤ if c < (if cl (x - s) p > 0 then cl (x - s) p else 0) then c else (if cl (x - s) p > 0 then cl (x - s) p else 0)
    split <;> (try split) <;> omega
theorem nbT_zero {t : Trn} (h : OkTr t) {x : Int} (hx : x ≤ t.1) : nbT t x = 0 := by
  obtain ⟨s, p, k⟩ := t
  have hp : 0 < p := by
    have h2 : 1 ≤ p := h.2.1
    omega
  have h1 : cl (x - s) p ≤ 0 := (cl_le hp).mpr (by
    have h2 : x ≤ s := hx
    omega)
  show minO (stepsUp (x - s) p) k = 0
  rw [stepsUp_cl, if_neg (by omega)]
  cases k with
  | none => rfl
  | some c =>
    have := h.2.2 c rfl
    show (if c < 0 then c else 0) = 0
    rw [if_neg (by omega)]
theorem nbT_all {t : Trn} (h : OkTr t) {x c : Int} (hc : t.2.2 = some c) (hx : t.1 + (c - 1) * t.2.1 < x) : nbT t x = c := by
  obtain ⟨s, p, k⟩ := t
  have hp : 0 < p := by
    have h2 : 1 ≤ p := h.2.1
    omega
  have h0 : k = some c := hc
  subst h0
  have h1 : c - 1 < cl (x - s) p := (cl_gt hp).mpr (by
    have h2 : s + (c - 1) * p < x := hx
    omega)
  have := h.2.2 c rfl
  show (if c < stepsUp (x - s) p then c else stepsUp (x - s) p) = c
  rw [stepsUp_cl]
  split <;> (try split at *) <;> omega
theorem NB_nn {ts : List Trn} (h : ∀ t ∈ ts, OkTr t) (x : Int) : 0 ≤ NB ts x := by
  induction ts with
  | nil => exact Int.le_refl _
  | cons t ts ih =>
    have h1 := nbT_nn (h t (List.mem_cons_self ..)) x
    have h2 := ih fun u hu => h u (List.mem_cons_of_mem _ hu)
    show 0 ≤ nbT t x + NB ts x
    omega
theorem NB_zero {ts : List Trn} (h : ∀ t ∈ ts, OkTr t) {x : Int} (hx : ∀ t ∈ ts, x ≤ t.1) : NB ts x = 0 := by
  induction ts with
  | nil => rfl
  | cons t ts ih =>
    show nbT t x + NB ts x = 0
    rw [nbT_zero (h t (List.mem_cons_self ..)) (hx t (List.mem_cons_self ..)), ih (fun u hu => h u (List.mem_cons_of_mem _ hu)) fun u hu => hx u (List.mem_cons_of_mem _ hu)]
    rfl
theorem Srt.tail {t : Trn} {ts : List Trn} (h : Srt (t :: ts)) : Srt ts := ⟨fun u hu => h.1 u (List.mem_cons_of_mem _ hu), (List.pairwise_cons.mp h.2).2⟩
theorem Srt.head {t : Trn} {ts : List Trn} (h : Srt (t :: ts)) : OkTr t := h.1 t (List.mem_cons_self ..)
theorem Srt.lt {t : Trn} {ts : List Trn} (h : Srt (t :: ts)) : ∀ u ∈ ts, Lt t u := (List.pairwise_cons.mp h.2).1
theorem lt_start {t u : Trn} (h : OkTr t) (l : Lt t u) : t.1 < u.1 := by
  obtain ⟨c, e, q⟩ := l
  have hc := h.2.2 c e
  have : 0 ≤ (c - 1) * t.2.1 := Int.mul_nonneg (by omega) (by have := h.2.1; omega)
  omega
/-! what is before x, and which time is the i-th -/
theorem nbT_le {t : Trn} {x c : Int} (e : t.2.2 = some c) : nbT t x ≤ c := by
  unfold nbT
  rw [e]
  show (if c < stepsUp (x - t.1) t.2.1 then c else stepsUp (x - t.1) t.2.1) ≤ c
  split <;> omega
/-- the times before x are those with an index below nbT -/
theorem nbT_lt {t : Trn} (h : OkTr t) {x i : Int} (i0 : 0 ≤ i) (hi : ∀ c, t.2.2 = some c → i < c) : i < nbT t x ↔ t.1 + i * t.2.1 < x := by
  obtain ⟨s, p, k⟩ := t
  have hp : 0 < p := by
    have h2 : 1 ≤ p := h.2.1
    omega
  have h1 : i < cl (x - s) p ↔ i * p < x - s := cl_gt hp
  have e : (s + i * p < x) ↔ i * p < x - s := by omega
  show i < minO (stepsUp (x - s) p) k ↔ s + i * p < x
  rw [stepsUp_cl, e, ← h1]
  cases k with
  | none =>
    show i < (if cl (x - s) p > 0 then cl (x - s) p else 0) ↔ _
    split <;> omega
  | some c =>
    have := hi c rfl
    show i < (if c < (if cl (x - s) p > 0 then cl (x - s) p else 0) then c else (if cl (x - s) p > 0 then cl (x - s) p else 0)) ↔ _
    split <;> (try split) <;> (try split at *) <;> omega
theorem At_lt : ∀ {ts : List Trn}, Srt ts → ∀ {i y : Int}, 0 ≤ i → At ts i = some y → ∀ x, i < NB ts x ↔ y < x
  | [], _, i, y, _, e, _ => by cases e
  | t :: ts, h, i, y, i0, e, x => by
    have ht := h.head
    have hs := h.tail
    have nn := NB_nn hs.1 x
    cases hk : t.2.2 with
    | none =>
      have e' : At (t :: ts) i = some (t.1 + i * t.2.1) := by
        show (match t.2.2 with | none => some (t.1 + i * t.2.1) | some c => if i < c then some (t.1 + i * t.2.1) else At ts (i - c)) = _
        rw [hk]
      rw [e'] at e
      have ey := Option.some.inj e
      subst ey
      have nt : ts = [] := by
        cases ts with
        | nil => rfl
        | cons u us =>
          obtain ⟨c, hc, _⟩ := h.lt u (List.mem_cons_self ..)
          rw [hk] at hc
          cases hc
      subst nt
      have := nbT_lt ht (x := x) i0 (fun c hc => by rw [hk] at hc; cases hc)
      show i < nbT t x + 0 ↔ _
      rw [Int.add_zero]
      exact this
    | some c =>
      have e' : At (t :: ts) i = if i < c then some (t.1 + i * t.2.1) else At ts (i - c) := by
        show (match t.2.2 with | none => some (t.1 + i * t.2.1) | some c => if i < c then some (t.1 + i * t.2.1) else At ts (i - c)) = _
        rw [hk]
      rw [e'] at e
      show i < nbT t x + NB ts x ↔ y < x
      by_cases hi : i < c
      · rw [if_pos hi] at e
        have ey := Option.some.inj e
        have h1 := nbT_lt ht (x := x) i0 (fun c' hc => by rw [hk] at hc; cases hc; exact hi)
        by_cases hl : t.1 + (c - 1) * t.2.1 < x
        · have h2 := nbT_all ht hk hl
          omega
        · have h3 : NB ts x = 0 := NB_zero hs.1 fun u hu => by
            obtain ⟨c', hc, q⟩ := h.lt u hu
            rw [hk] at hc
            cases hc
            omega
          omega
      · rw [if_neg hi] at e
        have ih := At_lt hs (i := i - c) (by omega) e x
        have h2 := nbT_le (x := x) hk
        by_cases hl : t.1 + (c - 1) * t.2.1 < x
        · have h3 := nbT_all ht hk hl
          omega
        · have h3 : NB ts x = 0 := NB_zero hs.1 fun u hu => by
            obtain ⟨c', hc, q⟩ := h.lt u hu
            rw [hk] at hc
            cases hc
            omega
          omega
theorem tot_nn : ∀ {ts : List Trn}, (∀ t ∈ ts, OkTr t) → ∀ n, Tot ts = some n → 0 ≤ n
  | [], _, n, e => by cases e; exact Int.le_refl _
  | t :: ts, h, n, e => by
    cases hk : t.2.2 with
    | none =>
      have e2 : Tot (t :: ts) = none := by
        show (match t.2.2 with | none => none | some c => addO c (Tot ts)) = _
        rw [hk]
      rw [e2] at e
      cases e
    | some c =>
      have e2 : Tot (t :: ts) = addO c (Tot ts) := by
        show (match t.2.2 with | none => none | some c => addO c (Tot ts)) = _
        rw [hk]
      rw [e2] at e
      cases ht : Tot ts with
      | none => rw [ht] at e; cases e
      | some m =>
        rw [ht] at e
        have z' : c + m = n := Option.some.inj e
        have := tot_nn (fun u hu => h u (List.mem_cons_of_mem _ hu)) m ht
        have := (h t (List.mem_cons_self ..)).2.2 c hk
        omega
theorem At_none : ∀ {ts : List Trn}, (∀ t ∈ ts, OkTr t) → ∀ {i : Int}, 0 ≤ i → (At ts i = none ↔ ∃ n, Tot ts = some n ∧ n ≤ i)
  | [], _, i, i0 => ⟨fun _ => ⟨0, rfl, i0⟩, fun _ => rfl⟩
  | t :: ts, h, i, i0 => by
    cases hk : t.2.2 with
    | none =>
      have e' : At (t :: ts) i = some (t.1 + i * t.2.1) := by
        show (match t.2.2 with | none => some (t.1 + i * t.2.1) | some c => if i < c then some (t.1 + i * t.2.1) else At ts (i - c)) = _
        rw [hk]
      have e2 : Tot (t :: ts) = none := by
        show (match t.2.2 with | none => none | some c => addO c (Tot ts)) = _
        rw [hk]
      rw [e', e2]
      exact ⟨fun z => (by cases z), fun ⟨n, z, _⟩ => (by cases z)⟩
    | some c =>
      have e' : At (t :: ts) i = if i < c then some (t.1 + i * t.2.1) else At ts (i - c) := by
        show (match t.2.2 with | none => some (t.1 + i * t.2.1) | some c => if i < c then some (t.1 + i * t.2.1) else At ts (i - c)) = _
        rw [hk]
      have e2 : Tot (t :: ts) = addO c (Tot ts) := by
        show (match t.2.2 with | none => none | some c => addO c (Tot ts)) = _
        rw [hk]
      have tn : ∀ n, Tot ts = some n → 0 ≤ n := tot_nn fun u hu => h u (List.mem_cons_of_mem _ hu)
      rw [e', e2]
      by_cases hi : i < c
      · rw [if_pos hi]
        refine ⟨fun z => (by cases z), fun ⟨n, z, hn⟩ => ?_⟩
        cases ht : Tot ts with
        | none => rw [ht] at z; cases z
        | some m =>
          rw [ht] at z
          have := tn m ht
          have z' : c + m = n := Option.some.inj z
          omega
      · rw [if_neg hi]
        have ih := At_none (ts := ts) (fun u hu => h u (List.mem_cons_of_mem _ hu)) (i := i - c) (by omega)
        rw [ih]
        constructor
        · rintro ⟨n, e, hn⟩
          exact ⟨c + n, by rw [e]; rfl, by omega⟩
        · rintro ⟨n, e, hn⟩
          cases ht : Tot ts with
          | none => rw [ht] at e; cases e
          | some m =>
            rw [ht] at e
            have z' : c + m = n := Option.some.inj e
            exact ⟨m, rfl, by omega⟩
theorem NB_tot : ∀ {ts : List Trn}, (∀ t ∈ ts, OkTr t) → ∀ {n : Int}, Tot ts = some n → ∀ x, NB ts x ≤ n
  | [], _, n, e, x => by cases e; exact Int.le_refl _
  | t :: ts, h, n, e, x => by
    cases hk : t.2.2 with
    | none =>
      have e2 : Tot (t :: ts) = none := by
        show (match t.2.2 with | none => none | some c => addO c (Tot ts)) = _
        rw [hk]
      rw [e2] at e
      cases e
    | some c =>
      have e2 : Tot (t :: ts) = addO c (Tot ts) := by
        show (match t.2.2 with | none => none | some c => addO c (Tot ts)) = _
        rw [hk]
      rw [e2] at e
      cases ht : Tot ts with
      | none => rw [ht] at e; cases e
      | some m =>
        rw [ht] at e
        have z' : c + m = n := Option.some.inj e
        have h1 := nbT_le (x := x) hk
        have h2 := NB_tot (fun u hu => h u (List.mem_cons_of_mem _ hu)) ht x
        show nbT t x + NB ts x ≤ n
        omega
theorem nbT_step {t : Trn} (h : OkTr t) (x : Int) : nbT t (x + 1) ≤ nbT t x + 1 := by
  obtain ⟨s, p, k⟩ := t
  have hp : 1 ≤ p := h.2.1
  have h1 : cl (x + 1 - s) p ≤ cl (x - s) p + 1 := by
    refine (cl_le (by omega)).mpr ?_
    have h2 : x - s ≤ cl (x - s) p * p := (cl_le (by omega)).mp (Int.le_refl _)
    rw [Int.add_mul, Int.one_mul]
    omega
  show minO (stepsUp (x + 1 - s) p) k ≤ minO (stepsUp (x - s) p) k + 1
  rw [stepsUp_cl, stepsUp_cl]
  cases k with
  | none =>
    show (if cl (x + 1 - s) p > 0 then cl (x + 1 - s) p else 0) ≤ (if cl (x - s) p > 0 then cl (x - s) p else 0) + 1
    split <;> split <;> omega
  | some c =>
    show (if c < (if cl (x + 1 - s) p > 0 then cl (x + 1 - s) p else 0) then c else (if cl (x + 1 - s) p > 0 then cl (x + 1 - s) p else 0)) ≤ (if c < (if cl (x - s) p > 0 then cl (x - s) p else 0) then c else (if cl (x - s) p > 0 then cl (x - s) p else 0)) + 1
    repeat' split
    all_goals omega
theorem NB_step : ∀ {ts : List Trn}, Srt ts → ∀ x, NB ts (x + 1) ≤ NB ts x + 1
  | [], _, x => by show (0 : Int) ≤ 0 + 1; omega
  | t :: ts, h, x => by
    have ht := h.head
    have hs := h.tail
    have st := nbT_step ht x
    show nbT t (x + 1) + NB ts (x + 1) ≤ nbT t x + NB ts x + 1
    cases hk : t.2.2 with
    | none =>
      have nt : ts = [] := by
        cases ts with
        | nil => rfl
        | cons u us =>
          obtain ⟨c, hc, _⟩ := h.lt u (List.mem_cons_self ..)
          rw [hk] at hc
          cases hc
      subst nt
      show nbT t (x + 1) + 0 ≤ nbT t x + 0 + 1
      omega
    | some c =>
      by_cases hl : t.1 + (c - 1) * t.2.1 < x
      · have h1 := nbT_all ht hk hl
        have h2 := nbT_all ht hk (show t.1 + (c - 1) * t.2.1 < x + 1 by omega)
        have h3 := NB_step hs x
        omega
      · have z : ∀ y, y ≤ x + 1 → NB ts y = 0 := fun y hy => NB_zero hs.1 fun u hu => by
          obtain ⟨c', hc, q⟩ := h.lt u hu
          rw [hk] at hc
          cases hc
          omega
        have h1 := z x (by omega)
        have h2 := z (x + 1) (Int.le_refl _)
        omega
/-- the i-th time is told by what is before x -/
theorem At_iff {ts : List Trn} (h : Srt ts) {i y : Int} (i0 : 0 ≤ i) : At ts i = some y ↔ NB ts y = i ∧ NB ts (y + 1) = i + 1 := by
  have one : ∀ {z}, At ts i = some z → NB ts z = i ∧ NB ts (z + 1) = i + 1 := fun {z} e => by
    have h1 := At_lt h i0 e z
    have h2 := At_lt h i0 e (z + 1)
    have h3 := NB_step h z
    omega
  refine ⟨one, fun ⟨e1, e2⟩ => ?_⟩
  cases q : At ts i with
  | none =>
    obtain ⟨n, e3, e4⟩ := (At_none h.1 i0).mp q
    have := NB_tot h.1 e3 (y + 1)
    omega
  | some w =>
    have h3 := At_lt h i0 q y
    have h4 := At_lt h i0 q (y + 1)
    congr 1
    omega
/-- trains with the same counts have the same times -/
theorem At_same {ts us : List Trn} (h : Srt ts) (h' : Srt us) (e : ∀ x, NB ts x = NB us x) {i : Int} (i0 : 0 ≤ i) : At ts i = At us i := by
  cases q : At ts i with
  | some y =>
    obtain ⟨e1, e2⟩ := (At_iff h i0).mp q
    exact ((At_iff h' i0).mpr ⟨by rw [← e]; exact e1, by rw [← e]; exact e2⟩).symm
  | none =>
    cases q2 : At us i with
    | none => rfl
    | some y =>
      obtain ⟨e1, e2⟩ := (At_iff h' i0).mp q2
      rw [(At_iff h i0).mpr ⟨by rw [e]; exact e1, by rw [e]; exact e2⟩] at q
      cases q
/-! ### rows in the heap -/
/-! ### breakers and rows -/
abbrev Tri := Int × Int × Int
def TriV (t : Tri) : List V := [.int t.1, .int t.2.1, .int t.2.2]
def BrAt (H : Hp) (x : V) (t : Tri) : Prop := ∃ a, x = .ref a ∧ H a = some (.tup (TriV t))
def OkT (t : Tri) : Prop := 1 ≤ t.1 ∧ t.1 ≤ 1000000000000 ∧ 1 ≤ t.2.1 ∧ t.2.1 ≤ 1000000000000000000000000000000 ∧ 1 ≤ t.2.2 ∧ t.2.2 ≤ 1000000000000
abbrev Brs (H : Hp) (xs : List V) (ts : List Tri) : Prop := Paired (BrAt H) xs ts
theorem BrAt.nl {H H' : Hp} (k : NL H H') {x : V} {t : Tri} (h : BrAt H x t) : BrAt H' x t := by
  obtain ⟨a, e, h⟩ := h
  exact ⟨a, e, k _ _ h fun _ z => nomatch z⟩
theorem Brs.nl {H H' : Hp} (k : NL H H') {xs : List V} {ts : List Tri} (h : Brs H xs ts) : Brs H' xs ts := L2.Paired.mapP h fun _ _ z => z.nl k
theorem Brs.len {H : Hp} : ∀ {xs : List V} {ts : List Tri}, Brs H xs ts → xs.length = ts.length
  | _, _, .nil => rfl
  | _, _, .cons _ t => congrArg Nat.succ (Brs.len t)
theorem Brs.get {H : Hp} : ∀ {xs : List V} {ts : List Tri} {i : Nat} {x : V}, Brs H xs ts → xs[i]? = some x → ∃ t, ts[i]? = some t ∧ BrAt H x t
  | _, _, _, _, .nil, e => by simp at e
  | _, _, 0, _, .cons r _, e => by simp at e; subst e; exact ⟨_, rfl, r⟩
  | _, _, i + 1, x, .cons _ t, e => by
    obtain ⟨u, h1, h2⟩ := Brs.get (i := i) (x := x) t (by simpa using e)
    exact ⟨u, by simpa using h1, h2⟩
theorem Brs.app {H : Hp} : ∀ {xs ys : List V} {ts us : List Tri}, Brs H xs ts → Brs H ys us → Brs H (xs ++ ys) (ts ++ us)
  | _, _, _, _, .nil, s => s
  | _, _, _, _, .cons r t, s => .cons r (Brs.app t s)
theorem Brs.rev {H : Hp} : ∀ {xs : List V} {ts : List Tri}, Brs H xs ts → Brs H xs.reverse ts.reverse
  | _, _, .nil => .nil
  | _, _, .cons r t => by
    rw [List.reverse_cons, List.reverse_cons]
    exact Brs.app (Brs.rev t) (.cons r .nil)
theorem Brs.take {H : Hp} : ∀ {xs : List V} {ts : List Tri} (n : Nat), Brs H xs ts → Brs H (xs.take n) (ts.take n)
  | _, _, 0, _ => .nil
  | _, _, _ + 1, .nil => .nil
  | _, _, n + 1, .cons r t => .cons r (Brs.take n t)
theorem Brs.drop {H : Hp} : ∀ {xs : List V} {ts : List Tri} (n : Nat), Brs H xs ts → Brs H (xs.drop n) (ts.drop n)
  | _, _, 0, r => r
  | _, _, _ + 1, .nil => .nil
  | _, _, n + 1, .cons _ t => Brs.drop n t
/-! the attributes of a row, as __init__ stores them -/
theorem k1 : ¬ (("breakers" : Str) = "step") := by decide +kernel
theorem k2 : ¬ (("breakers" : Str) = "phase") := by decide +kernel
theorem k3 : ¬ (("step" : Str) = "phase") := by decide +kernel
def rowF (T : Addr) (st ph : Int) : List (Str × V) := putF "phase" (.int ph) (putF "step" (.int st) (putF "breakers" (.ref T) []))
theorem rowF_b (T : Addr) (st ph : Int) : (rowF T st ph).lookup ("breakers" : Str) = some (.ref T) := by
  unfold rowF
  rw [lookup_putF, if_neg k2, lookup_putF, if_neg k1, lookup_putF, if_pos rfl]
theorem rowF_s (T : Addr) (st ph : Int) : (rowF T st ph).lookup ("step" : Str) = some (.int st) := by
  unfold rowF
  rw [lookup_putF, if_neg k3, lookup_putF, if_pos rfl]
theorem rowF_p (T : Addr) (st ph : Int) : (rowF T st ph).lookup ("phase" : Str) = some (.int ph) := by
  unfold rowF
  rw [lookup_putF, if_pos rfl]
theorem rowF_no (T : Addr) (st ph : Int) {m : Str} (h1 : ¬ m = "phase") (h2 : ¬ m = "step") (h3 : ¬ m = "breakers") : (rowF T st ph).lookup m = none := by
  unfold rowF
  rw [lookup_putF, if_neg h1, lookup_putF, if_neg h2, lookup_putF, if_neg h3]
  all_goals rfl
/-- a Row stands at p -/
structure RowAt (C : Addr) (H : Hp) (p T : Addr) (xs : List V) (ts : List Tri) (st ph : Int) : Prop where
  ob : ∃ dx, H p = some (.ins C dx (rowF T st ph))
  tp : H T = some (.tup xs)
  br : Brs H xs ts
  ok : ∀ t ∈ ts, OkT t
  ln : ts.length ≤ 12
  s0 : 1 ≤ st
  s1 : st ≤ 1000000000000000000000000000000
  p0 : 0 ≤ ph
  p1 : ph ≤ 1000000000000000000000000000000
theorem RowAt.nl {C : Addr} {H H' : Hp} {p T : Addr} {xs : List V} {ts : List Tri} {st ph : Int} (R : RowAt C H p T xs ts st ph) (k : NL H H') : RowAt C H' p T xs ts st ph := by
  obtain ⟨dx, h⟩ := R.ob
  exact ⟨⟨dx, k _ _ h fun _ z => nomatch z⟩, k _ _ R.tp fun _ z => (nomatch z), R.br.nl k, R.ok, R.ln, R.s0, R.s1, R.p0, R.p1⟩
/-! ### promises -/
def spIsBr : Sp := fun vs H Q _ => ∃ x t, vs = [x] ∧ BrAt H x t ∧ OkT t ∧ Q (.bl true) H
def spRChk : Sp := fun vs H Q _ => ∃ a xs ts pt, vs = [.ref a, .str pt] ∧ H a = some (.lst xs) ∧ Brs H xs ts ∧ (∀ t ∈ ts, OkT t) ∧ ts.length ≤ 12 ∧ ∀ H', Same H H' → Q .non H'
def spRStep : Sp := fun vs H Q _ => ∃ st : Int, vs = [.int st] ∧ 1 ≤ st ∧ st ≤ 1000000000000000000000000000000 ∧ Q .non H
def spRInit (C : Addr) : Sp := fun vs H Q _ => ∃ p a st ph xs ts dx, vs = [.ref p, .ref a, .int st, .int ph] ∧ H p = some (.ins C dx []) ∧ H a = some (.lst xs) ∧ Brs H xs ts ∧ (∀ t ∈ ts, OkT t) ∧ ts.length ≤ 12 ∧
  (1 ≤ st ∧ st ≤ 1000000000000000000000000000000 ∧ 0 ≤ ph ∧ ph ≤ 1000000000000000000000000000000) ∧ ∀ T H', RowAt C H' p T xs ts st ph → Kp p H H' → Q .non H'
def spRBl (C : Addr) : Sp := fun vs H Q _ => ∃ p T xs ts st ph, vs = [.ref p] ∧ RowAt C H p T xs ts st ph ∧ ∀ l H', H l = none → H' = upd H l (.lst xs) → Q (.ref l) H'
def spRSt (C : Addr) : Sp := fun vs H Q _ => ∃ p T xs ts st ph, vs = [.ref p] ∧ RowAt C H p T xs ts st ph ∧ Q (.int st) H
def spRPh (C : Addr) : Sp := fun vs H Q _ => ∃ p T xs ts st ph, vs = [.ref p] ∧ RowAt C H p T xs ts st ph ∧ Q (.int ph) H
def spRLen (C : Addr) : Sp := fun vs H Q _ => ∃ p T xs ts st ph, vs = [.ref p] ∧ RowAt C H p T xs ts st ph ∧ Q (.int xs.length) H
def spRGet (C : Addr) : Sp := fun vs H Q _ => ∃ p T xs ts st ph i x, vs = [.ref p, .int i] ∧ RowAt C H p T xs ts st ph ∧ 0 ≤ i ∧ atI xs i = some x ∧ i < xs.length ∧ Q x H
def spRCon (C : Addr) : Sp := fun vs H Q _ => ∃ p T xs ts st ph x n, vs = [.ref p, x] ∧ RowAt C H p T xs ts st ph ∧ Kd H x n ∧ Q (.bl (isI x && (decide (ph ≤ toI x) && decide ((toI x - ph) % st = 0)))) H
def spRRt (C : Addr) : Sp := fun vs H Q _ => ∃ p T xs ts st ph i, vs = [.ref p, .int i] ∧ RowAt C H p T xs ts st ph ∧ 0 ≤ i ∧ i ≤ BB ∧ Q (.int (ph + i * st)) H
def spRFr (C : Addr) : Sp := fun vs H Q _ => ∃ p T xs ts st ph i, vs = [.ref p, .int i] ∧ RowAt C H p T xs ts st ph ∧ 0 ≤ i ∧ Q (.int (stepsUp (i - ph) st)) H
theorem row_made {C : Addr} {H : Hp} {Q : Addr → Hp → Prop} {a : Addr} {st ph : Int} {xs : List V} {ts : List Tri} (ha : H a = some (.lst xs)) (hb : Brs H xs ts) (ho : ∀ t ∈ ts, OkT t) (hl : ts.length ≤ 12)
    (bd : 1 ≤ st ∧ st ≤ 1000000000000000000000000000000 ∧ 0 ≤ ph ∧ ph ≤ 1000000000000000000000000000000) (k : ∀ p T H', RowAt C H' p T xs ts st ph → Same H H' → H p = none → Q p H') :
    ∀ x dx, H x = none → H dx = none → dx ≠ x → spRInit C [.ref x, .ref a, .int st, .int ph] (upd (upd H dx (.own x)) x (.ins C dx [])) (fun v H3 => v = .non ∧ Q x H3) E0 := by
  intro x dx hx hd hne
  have s0 : Same H (upd (upd H dx (.own x)) x (.ins C dx [])) := fun b o e => by
    rw [upd_ne (ne_of_none e hx), upd_ne (ne_of_none e hd)]
    exact e
  refine ⟨x, a, st, ph, xs, ts, dx, rfl, upd_same, s0 _ _ ha, hb.nl (NL.of s0), ho, hl, bd, fun T H' R kp => ⟨rfl, k x T H' R (fun b o e => kp b o (ne_of_none e hx) (s0 b o e)) hx⟩⟩
abbrev RDat := List Tri × Int × Int
/-- what == is asked of -/
inductive EqOf (C : Addr) (H : Hp) (d : RDat) : V → Bool → Prop where
  | row {q U : Addr} {ys : List V} {us : List Tri} {st ph : Int} (R : RowAt C H q U ys us st ph) : EqOf C H d (.ref q) (decide (d = (us, st, ph)))
  | non : EqOf C H d .non false
  | lst {a : Addr} {xs : List V} (e : H a = some (.lst xs)) : EqOf C H d (.ref a) false
  | tup {a : Addr} {xs : List V} (e : H a = some (.tup xs)) : EqOf C H d (.ref a) false
theorem EqOf.nl {C : Addr} {H H' : Hp} {d : RDat} {v : V} {b : Bool} (h : EqOf C H d v b) (k : Same H H') : EqOf C H' d v b := by
  cases h with
  | row R => exact .row (R.nl (NL.of k))
  | non => exact .non
  | lst e => exact .lst (k _ _ e)
  | tup e => exact .tup (k _ _ e)
/-- breakers as data -/
def triD (t : Tri) : PyData := .tuple [.int t.1, .int t.2.1, .int t.2.2]
theorem Brs.dp {K : PySem.W.Frag} {H : Hp} : ∀ {xs : List V} {ts : List Tri}, Brs H xs ts → DpAll K H xs (ts.map triD)
  | _, _, .nil => .nil
  | _, _, .cons ⟨a, e, h⟩ t => by
    subst e
    exact .cons (.tup (SqT.of h) (.cons (.int _) (.cons (.int _) (.cons (.int _) .nil)))) (Brs.dp t)
theorem triD_eq (t u : Tri) : PyData.eqv (triD t) (triD u) = decide (t = u) := by
  obtain ⟨a, b, c⟩ := t
  obtain ⟨a', b', c'⟩ := u
  simp only [triD, PyData.eqv, PyData.eqvAll, Bool.and_true]
  rw [Bool.eq_iff_iff]
  simp [Prod.ext_iff]
theorem triDs_eq : ∀ ts us : List Tri, PyData.eqvAll (ts.map triD) (us.map triD) = decide (ts = us)
  | [], [] => by simp [PyData.eqvAll]
  | [], _ :: _ => by simp [PyData.eqvAll]
  | _ :: _, [] => by simp [PyData.eqvAll]
  | t :: ts, u :: us => by
    rw [List.map_cons, List.map_cons, PyData.eqvAll, triD_eq, triDs_eq ts us, Bool.eq_iff_iff]
    simp
theorem canAll : ∀ ts : List Tri, PyData.canLayAll0 (ts.map triD) = true
  | [] => by simp [PyData.canLayAll0]
  | t :: ts => by
    rw [List.map_cons, PyData.canLayAll0, canAll ts]
    simp [triD, PyData.canLay0, PyData.canLayAll0]
theorem depAll : ∀ ts : List Tri, PyData.depthAll (ts.map triD) ≤ 10
  | [] => by simp [PyData.depthAll]
  | t :: ts => by
    have := depAll ts
    rw [List.map_cons, PyData.depthAll]
    have h2 : (triD t).depth ≤ 10 := by simp [triD, PyData.depth, PyData.depthAll]
    omega
theorem shT (ts : List Tri) : SeqAt.shaped (.tuple (ts.map triD)) = true := by
  refine Bool.and_eq_true_iff.mpr ⟨?_, decide_eq_true ?_⟩
  · rw [PyData.canLay0]
    exact canAll ts
  · have := depAll ts
    rw [PyData.depth]
    omega

theorem wide200 {i j : Int} (h1 : i.natAbs < 2 ^ 200) (h2 : j.natAbs < 2 ^ 200) : CMulW i j := wide_mul h1 h2 (by decide) (by decide) (by decide)
theorem lt200 {i : Int} (h0 : 0 ≤ i) (h : i ≤ 1000000000000000000000000000000) : i.natAbs < 2 ^ 200 := Nat.lt_of_le_of_lt (show i.natAbs ≤ 1000000000000000000000000000000 by omega) (by decide)
theorem log200 {i : Int} (h0 : 1 ≤ i) (h : i ≤ 1000000000000000000000000000000) : i.natAbs.log2 < 9000 := (wide_div (by omega : 0 < i) (lt200 (by omega) h) (by decide) (by decide) (i := 0)).2
theorem st_bb {s : Int} (h : s ≤ 1000000000000000000000000000000) : s ≤ BB := Int.le_trans h (Int.le_trans (PB_of (n := 100) (by decide +kernel)) (PB_le (by decide)))
theorem k6_pos {P : Prop} {q : Prop} [Decidable P] [Decidable q] (h : P) (h' : q) : (decide P && decide q) = true := by rw [decide_eq_true h, decide_eq_true h']; rfl
section
variable {P : Program} {w : World} {K : PySem.W.Frag} {mg : Str → Option Value} {base : Heap} {L : LA}
abbrev N_isbreaker : List Str := ["value", "failures", "wait", "successes"]
theorem sc_isbreaker : FnScope N_isbreaker ["value"] (defScope st_is_breaker) := ⟨rfl, rfl, rfl, by decide +kernel, rfl, by decide +kernel, by decide +kernel⟩
theorem fn_isbreaker (T : LX K mg L) {fd : FuncData} (F : Fun K "is_breaker" "is_breaker" st_is_breaker L.f_is_breaker fd) : FnOk P w K mg base CX0 3 L.f_is_breaker fd ["value"] (spIsBr) := by
  have G_iswithin := ok_iswithin (P := P) (w := w) (base := base) T
  obtain ⟨tk_MOST_COUNT, c_MOST_COUNT⟩ := T.n_MOST_COUNT
  obtain ⟨tk_MOST_TIME, c_MOST_TIME⟩ := T.n_MOST_TIME
  have nd := sc_isbreaker.nd
  refine F.ok sc_isbreaker (fun vs H Q E h => ?_) (fun cdv A outer S H vs Q E hr h => ?_)
  · obtain ⟨x, t, rfl, _⟩ := h
    rfl
  · obtain ⟨x, t, rfl, ⟨a, rfl, ha⟩, ⟨h1, h2, h3, h4, h5, h6⟩, k⟩ := h
    refine ⟨_, (pss_cons (ps_if (PW.pt (pw_or (pt_not (pt_val (pe_callB call_isi (by rfl) T.b_isinstance (by decide +kernel) (pa_cons (pv 0) (pa_cons (pe_bltn (by rfl) T.b_tuple (by decide +kernel : bootBuiltins "tuple" = some (.type "tuple")) (v := .ty "tuple") rfl) pa_nil))))) (pw_or1 (pt_cmpR op_ne (pe_callB call_len_seq (by rfl) T.b_len PySem.boot_len (pa_cons (pv 0) pa_nil)) pe_int (nomark _))))) (pss_one (ps_ret pe_bl)) pss_nil)
       (pss_cons (ps_asg (pv 0) (pg_tup rfl (pgs_cons (pg_name (i := 1) nd rfl (Or.inl rfl)) (pgs_cons (pg_name (i := 2) nd rfl (Or.inl rfl)) (pgs_cons (pg_name (i := 3) nd rfl (Or.inl rfl)) pgs_nil)))))
       (pss_one (ps_ret (pe_and (pe_c G_iswithin (hr.mono (by decide)) rfl (pa_cons (pv 1) (pa_cons pe_int (pa_cons (pe_gI c_MOST_COUNT) pa_nil)))) (pe_and (pe_c G_iswithin (hr.mono (by decide)) rfl (pa_cons (pv 2) (pa_cons pe_int (pa_cons (pe_gI c_MOST_TIME) pa_nil)))) (pe_one (pe_c G_iswithin (hr.mono (by decide)) rfl (pa_cons (pv 3) (pa_cons pe_int (pa_cons (pe_gI c_MOST_COUNT) pa_nil))))))))))), ?_⟩
    refine ⟨_, rfl, _, .ty "tuple", _, _, _, rfl, .ty "tuple", (Kd.tup ha).ty, (Kd.tup ha).kit "tuple" _ (.inr ⟨by decide, by decide, rfl⟩), _, rfl, iteF ?_⟩
    refine ⟨_, rfl, a, _, rfl, .inr (SqT.of ha), rfl, _, rfl, iteF ?_⟩
    refine ⟨_, rfl, a, _, rfl, SqT.of ha, rfl, _, _, rfl, _, _, rfl, _, _, rfl, rfl, ?_⟩
    refine ⟨_, rfl, _, _, _, _, rfl, .int _, _, rfl, ?_⟩
    have e1 : (decide ((1 : Int) ≤ t.1) && decide (t.1 ≤ 1000000000000)) = true := k6_pos h1 h2
    have e2 : (decide ((1 : Int) ≤ t.2.1) && decide (t.2.1 ≤ 1000000000000000000000000000000)) = true := k6_pos h3 h4
    have e3 : (decide ((1 : Int) ≤ t.2.2) && decide (t.2.2 ≤ 1000000000000)) = true := k6_pos h5 h6
    show if (decide ((1 : Int) ≤ t.1) && decide (t.1 ≤ 1000000000000)) = true then _ else _
    rw [e1]
    refine iteT ?_
    refine ⟨_, rfl, _, _, _, _, rfl, .int _, _, rfl, ?_⟩
    show if (decide ((1 : Int) ≤ t.2.1) && decide (t.2.1 ≤ 1000000000000000000000000000000)) = true then _ else _
    rw [e2]
    refine iteT ?_
    refine ⟨_, rfl, _, _, _, _, rfl, .int _, ?_⟩
    show Q (.bl (decide ((1 : Int) ≤ t.2.2) && decide (t.2.2 ≤ 1000000000000))) H
    rw [e3]
    exact k
theorem ok_isbreaker (T : LX K mg L) : Cal P w K mg base "is_breaker" 3 L.f_is_breaker ["value"] (spIsBr) := T.d_is_breaker.cal fun fd F => fn_isbreaker T F
abbrev N_checkbreakers : List Str := ["breakers", "part", "at", "breaker"]
theorem sc_checkbreakers : FnScope N_checkbreakers ["breakers", "part"] (defScope st_check_breakers) := ⟨rfl, rfl, rfl, by decide +kernel, rfl, by decide +kernel, by decide +kernel⟩
theorem fn_checkbreakers (T : LX K mg L) {fd : FuncData} (F : Fun K "check_breakers" "check_breakers" st_check_breakers L.f_check_breakers fd) : FnOk P w K mg base CX0 4 L.f_check_breakers fd ["breakers", "part"] (spRChk) := by
  obtain ⟨tk_MOST_BREAKERS, c_MOST_BREAKERS⟩ := T.n_MOST_BREAKERS
  have G_isbreaker := ok_isbreaker (P := P) (w := w) (base := base) T
  have nd := sc_checkbreakers.nd
  refine F.ok sc_checkbreakers (fun vs H Q E h => ?_) (fun cdv A outer S H vs Q E hr h => ?_)
  · obtain ⟨a, xs, ts, pt, rfl, _⟩ := h
    rfl
  · obtain ⟨a, xs, ts, pt, rfl, ha, hb, ho, hl, k⟩ := h
    refine ⟨_, (pss_cons (ps_if (PW.pt (pw_or (pt_not (pt_val (pe_callB call_isi (by rfl) T.b_isinstance (by decide +kernel) (pa_cons (pv 0) (pa_cons (pe_bltn (by rfl) T.b_list (by decide +kernel : bootBuiltins "list" = some (.type "list")) (v := .ty "list") rfl) pa_nil))))) (pw_or1 (pt_cmpR op_gt (pe_callB call_len_seq (by rfl) T.b_len PySem.boot_len (pa_cons (pv 0) pa_nil)) (pe_gI c_MOST_BREAKERS) (nomark _))))) (pss_one (ps_never)) pss_nil)
       (pss_one (ps_for PassesOwn.never rfl (pi_enum (by rfl) T.b_enumerate (pa_cons (pv 0) pa_nil)) (pg_tup rfl (pgs_cons (pg_name (i := 2) nd rfl (Or.inl rfl)) (pgs_cons (pg_name (i := 3) nd rfl (Or.inl rfl)) pgs_nil))) (pss_one (ps_if (pt_not (pt_val (pe_c G_isbreaker (hr.mono (by decide)) rfl (pa_cons (pv 3) pa_nil)))) (pss_one (ps_never)) pss_nil))))), ?_⟩
    refine ⟨_, rfl, _, .ty "list", _, _, _, rfl, .ty "list", (Kd.lst ha).ty, (Kd.lst ha).kit "list" _ (.inr ⟨by decide, by decide, rfl⟩), _, rfl, iteF ?_⟩
    refine ⟨_, rfl, a, _, rfl, .inl (SqL.of ha), _, _, rfl, rfl, _, rfl, ?_⟩
    have hn : ¬ ((12 : Int) < (xs.length : Nat)) := by rw [hb.len]; omega
    rw [decide_eq_false hn]
    refine iteF ?_
    refine ⟨_, rfl, a, xs, rfl, SqL.of ha, for_enum (K := K) (a := a) (xs := xs) (fun i σ H2 => ∃ u v : Option V, σ = [some (.ref a), some (.str pt), u, v] ∧ Same H H2) ⟨none, none, rfl, Same.refl H⟩ (fun i σ H2 _ ⟨_, _, _, s2⟩ => SqL.of (s2 _ _ ha)) ?_ ?_⟩
    · rintro i x T' σ H2 hx ⟨u, v, rfl, s2⟩ hT
      obtain ⟨t, ht, hbr⟩ := hb.get hx
      have s3 : Same H (upd H2 T' (.tup [.int (i : Nat), x])) := s2.trans (Same.upd hT)
      refine ⟨T', _, rfl, SqT.of upd_same, rfl, _, _, rfl, _, _, rfl, rfl, ?_⟩
      refine ⟨_, rfl, x, t, rfl, hbr.nl (NL.of s3), ho t (List.mem_of_getElem? ht), _, rfl, iteF ?_⟩
      exact ⟨_, _, rfl, s3⟩
    · rintro σ H2 ⟨u, v, rfl, s2⟩
      exact k H2 s2
theorem ok_checkbreakers (T : LX K mg L) : Cal P w K mg base "check_breakers" 4 L.f_check_breakers ["breakers", "part"] (spRChk) := T.d_check_breakers.cal fun fd F => fn_checkbreakers T F
abbrev N_checkstep : List Str := ["step"]
theorem sc_checkstep : FnScope N_checkstep ["step"] (defScope st_check_step) := ⟨rfl, rfl, rfl, by decide +kernel, rfl, by decide +kernel, by decide +kernel⟩
theorem fn_checkstep (T : LX K mg L) {fd : FuncData} (F : Fun K "check_step" "check_step" st_check_step L.f_check_step fd) : FnOk P w K mg base CX0 3 L.f_check_step fd ["step"] (spRStep) := by
  have G_iswithin := ok_iswithin (P := P) (w := w) (base := base) T
  obtain ⟨tk_MOST_TIME, c_MOST_TIME⟩ := T.n_MOST_TIME
  have nd := sc_checkstep.nd
  refine F.ok sc_checkstep (fun vs H Q E h => ?_) (fun cdv A outer S H vs Q E hr h => ?_)
  · obtain ⟨st, rfl, _⟩ := h
    rfl
  · obtain ⟨st, rfl, b1, b2, k⟩ := h
    refine ⟨_, (pss_one (ps_if (pt_not (pt_val (pe_c G_iswithin (hr.mono (by decide)) rfl (pa_cons (pv 0) (pa_cons pe_int (pa_cons (pe_gI c_MOST_TIME) pa_nil)))))) (pss_one (ps_never)) pss_nil)), ?_⟩
    have e1 : (decide ((1 : Int) ≤ st) && decide (st ≤ 1000000000000000000000000000000)) = true := k6_pos b1 b2
    refine ⟨_, rfl, _, _, _, _, rfl, .int _, _, rfl, ?_⟩
    show if (!(decide ((1 : Int) ≤ st) && decide (st ≤ 1000000000000000000000000000000))) = true then _ else _
    rw [e1]
    exact iteF k
theorem ok_checkstep (T : LX K mg L) : Cal P w K mg base "check_step" 3 L.f_check_step ["step"] (spRStep) := T.d_check_step.cal fun fd F => fn_checkstep T F
abbrev N_Rowinit : List Str := ["self", "breakers", "step", "phase"]
theorem sc_Rowinit : FnScope N_Rowinit ["self", "breakers", "step", "phase"] (defScope st_Row_init) := ⟨rfl, rfl, rfl, by decide +kernel, rfl, by decide +kernel, by decide +kernel⟩
theorem fn_Rowinit (T : LX K mg L) {fd : FuncData} (F : Fun K "__init__" "Row.__init__" st_Row_init L.i_Row fd) : FnOk P w K mg base CX0 5 L.i_Row fd ["self", "breakers", "step", "phase"] (spRInit L.c_Row) := by
  have G_checkbreakers := ok_checkbreakers (P := P) (w := w) (base := base) T
  have G_checkstep := ok_checkstep (P := P) (w := w) (base := base) T
  have G_iswithin := ok_iswithin (P := P) (w := w) (base := base) T
  obtain ⟨tk_MOST_TIME, c_MOST_TIME⟩ := T.n_MOST_TIME
  have nd := sc_Rowinit.nd
  refine F.ok sc_Rowinit (fun vs H Q E h => ?_) (fun cdv A outer S H vs Q E hr h => ?_)
  · obtain ⟨p, a, st, ph, xs, ts, dx, rfl, _⟩ := h
    rfl
  · obtain ⟨p, a, st, ph, xs, ts, dx, rfl, hp, ha, hb, ho, hl, ⟨b1, b2, b3, b4⟩, k⟩ := h
    refine ⟨_, (pss_cons (ps_expr (pe_c G_checkbreakers (hr.mono (by decide)) rfl (pa_cons (pv 1) (pa_cons pe_str pa_nil))))
       (pss_cons (ps_expr (pe_c G_checkstep (hr.mono (by decide)) rfl (pa_cons (pv 2) pa_nil)))
       (pss_cons (ps_if (pt_not (pt_val (pe_c G_iswithin (hr.mono (by decide)) rfl (pa_cons (pv 3) (pa_cons pe_int (pa_cons (pe_gI c_MOST_TIME) pa_nil)))))) (pss_one (ps_never)) pss_nil)
       (pss_cons (ps_fld (pv 0) (pe_callTy call_tuple_of (by rfl) T.b_tuple (by decide +kernel) (pa_cons (pv 1) pa_nil)) rfl)
       (pss_cons (ps_fld (pv 0) (pv 2) rfl)
       (pss_one (ps_fld (pv 0) (pv 3) rfl))))))), ?_⟩
    refine ⟨_, rfl, a, xs, ts, _, rfl, ha, hb, ho, hl, fun H1 s1 => ?_⟩
    have e2 : (decide ((0 : Int) ≤ ph) && decide (ph ≤ 1000000000000000000000000000000)) = true := k6_pos b3 b4
    refine ⟨_, rfl, _, rfl, b1, b2, ?_⟩
    refine ⟨_, rfl, _, _, _, _, rfl, .int _, _, rfl, ?_⟩
    show if (!(decide ((0 : Int) ≤ ph) && decide (ph ≤ 1000000000000000000000000000000))) = true then _ else _
    rw [e2]
    refine iteF ?_
    have hp1 := s1 _ _ hp
    refine ⟨_, rfl, a, xs, rfl, .inl ⟨SqL.of (s1 _ _ ha), fun l hl' => ?_⟩⟩
    have npl : p ≠ l := ne_of_none hp1 hl'
    refine ⟨_, rfl, p, L.c_Row, dx, [], rfl, (by rw [upd_ne npl]; exact hp1), T.cf_Row.cl, T.nf_Row_breakers, (by show 0 < 1000; decide), ?_⟩
    refine ⟨_, rfl, _, rfl, p, L.c_Row, dx, _, rfl, upd_same, T.cf_Row.cl, T.nf_Row_step, Nat.lt_of_le_of_lt (putF_len _ _ [] (Nat.le_refl 0)) (by decide), ?_⟩
    refine ⟨_, rfl, _, rfl, p, L.c_Row, dx, _, rfl, upd_same, T.cf_Row.cl, T.nf_Row_phase, Nat.lt_of_le_of_lt (putF_len _ _ _ (putF_len _ _ [] (Nat.le_refl 0))) (by decide), ?_⟩
    refine k l _ ⟨⟨dx, upd_same⟩, ?_, ?_, ho, hl, b1, b2, b3, b4⟩ ?_
    · rw [upd_ne npl.symm, upd_ne npl.symm, upd_ne npl.symm, upd_same]
    · refine L2.Paired.mapP hb fun x t ⟨b, e, h⟩ => ⟨b, e, ?_⟩
      have nbp : b ≠ p := ne_of h hp (by intro z; cases z)
      have h1 := s1 _ _ h
      rw [upd_ne nbp, upd_ne nbp, upd_ne nbp, upd_ne (ne_of_none h1 hl')]
      exact h1
    · intro b o n e
      have h1 := s1 _ _ e
      rw [upd_ne n, upd_ne n, upd_ne n, upd_ne (ne_of_none h1 hl')]
      exact h1
abbrev N_Rowlen : List Str := ["self"]
theorem sc_Rowlen : FnScope N_Rowlen ["self"] (defScope st_Row_len) := ⟨rfl, rfl, rfl, by decide +kernel, rfl, by decide +kernel, by decide +kernel⟩
theorem fn_Rowlen (T : LX K mg L) {fd : FuncData} (F : Fun K "__len__" "Row.__len__" st_Row_len L.m_Row_len fd) : FnOk P w K mg base CX0 1 L.m_Row_len fd ["self"] (spRLen L.c_Row) := by
  have nd := sc_Rowlen.nd
  refine F.ok sc_Rowlen (fun vs H Q E h => ?_) (fun cdv A outer S H vs Q E hr h => ?_)
  · obtain ⟨p, B, xs, ts, st, ph, rfl, _⟩ := h
    rfl
  · obtain ⟨p, B, xs, ts, st, ph, rfl, R, k⟩ := h
    refine ⟨_, (pss_one (ps_ret (pe_callB call_len_seq (by rfl) T.b_len PySem.boot_len (pa_cons (pe_fld (pv 0) rfl) pa_nil)))), ?_⟩
    obtain ⟨dx, hp⟩ := R.ob
    exact ⟨_, rfl, p, L.c_Row, dx, _, _, rfl, hp, T.cf_Row.cl, T.nf_Row_breakers, rowF_b _ _ _, B, xs, rfl, .inr (SqT.of R.tp), k⟩
theorem ok_Rowlen (T : LX K mg L) : Met P w K mg base L.c_Row "__len__" 1 L.m_Row_len ["self"] (spRLen L.c_Row) := T.mm_Row_len.met fun fd F => fn_Rowlen T F
abbrev N_Rowgetitem : List Str := ["self", "at"]
theorem sc_Rowgetitem : FnScope N_Rowgetitem ["self", "at"] (defScope st_Row_getitem) := ⟨rfl, rfl, rfl, by decide +kernel, rfl, by decide +kernel, by decide +kernel⟩
theorem fn_Rowgetitem (T : LX K mg L) {fd : FuncData} (F : Fun K "__getitem__" "Row.__getitem__" st_Row_getitem L.m_Row_getitem fd) : FnOk P w K mg base CX0 3 L.m_Row_getitem fd ["self", "at"] (spRGet L.c_Row) := by
  have G_iswithin := ok_iswithin (P := P) (w := w) (base := base) T
  have nd := sc_Rowgetitem.nd
  refine F.ok sc_Rowgetitem (fun vs H Q E h => ?_) (fun cdv A outer S H vs Q E hr h => ?_)
  · obtain ⟨p, B, xs, ts, st, ph, i, x, rfl, _⟩ := h
    rfl
  · obtain ⟨p, B, xs, ts, st, ph, i, x, rfl, R, i0, hx, i1, k⟩ := h
    refine ⟨_, (pss_cons (ps_if (pt_not (pt_val (pe_c G_iswithin (hr.mono (by decide)) rfl (pa_cons (pv 1) (pa_cons pe_int (pa_cons (pe_op op_sub (pe_callB call_len_seq (by rfl) T.b_len PySem.boot_len (pa_cons (pe_fld (pv 0) rfl) pa_nil)) pe_int) pa_nil)))))) (pss_one (ps_never)) pss_nil)
       (pss_one (ps_ret (pe_ix (r := rIxT K) ix_tup (pe_fld (pv 0) rfl) (pv 1) (fun _ _ => rfl))))), ?_⟩
    obtain ⟨dx, hp⟩ := R.ob
    refine ⟨_, rfl, _, rfl, p, L.c_Row, dx, _, _, rfl, hp, T.cf_Row.cl, T.nf_Row_breakers, rowF_b _ _ _, B, xs, rfl, .inr (SqT.of R.tp), _, _, rfl, rfl, _, _, _, _, rfl, .int _, _, rfl, ?_⟩
    have e1 : (decide ((0 : Int) ≤ i) && decide (i ≤ (xs.length : Int) - 1)) = true := k6_pos i0 (by omega)
    show if (!(decide ((0 : Int) ≤ i) && decide (i ≤ (xs.length : Int) - 1))) = true then _ else _
    rw [e1]
    refine iteF ?_
    exact ⟨_, rfl, p, L.c_Row, dx, _, _, rfl, hp, T.cf_Row.cl, T.nf_Row_breakers, rowF_b _ _ _, _, rfl, B, xs, i, x, rfl, rfl, SqT.of R.tp, hx, k⟩
theorem ok_Rowgetitem (T : LX K mg L) : Met P w K mg base L.c_Row "__getitem__" 3 L.m_Row_getitem ["self", "at"] (spRGet L.c_Row) := T.mm_Row_getitem.met fun fd F => fn_Rowgetitem T F
abbrev N_Rowcontains : List Str := ["self", "x"]
theorem sc_Rowcontains : FnScope N_Rowcontains ["self", "x"] (defScope st_Row_contains) := ⟨rfl, rfl, rfl, by decide +kernel, rfl, by decide +kernel, by decide +kernel⟩
theorem fn_Rowcontains (T : LX K mg L) {fd : FuncData} (F : Fun K "__contains__" "Row.__contains__" st_Row_contains L.m_Row_contains fd) : FnOk P w K mg base CX0 3 L.m_Row_contains fd ["self", "x"] (spRCon L.c_Row) := by
  have G_isatleast := ok_isatleast (P := P) (w := w) (base := base) T
  have nd := sc_Rowcontains.nd
  refine F.ok sc_Rowcontains (fun vs H Q E h => ?_) (fun cdv A outer S H vs Q E hr h => ?_)
  · obtain ⟨p, B, xs, ts, st, ph, x, n, rfl, _⟩ := h
    rfl
  · obtain ⟨p, B, xs, ts, st, ph, x, n, rfl, R, hx, k⟩ := h
    refine ⟨_, (pss_one (ps_ret (pe_and (pe_c G_isatleast (hr.mono (by decide)) rfl (pa_cons (pv 1) (pa_cons (pe_fld (pv 0) rfl) pa_nil))) (pe_one (pe_cmpR op_eq (pe_op op_mod (pe_op op_sub (pv 1) (pe_fld (pv 0) rfl)) (pe_fld (pv 0) rfl)) pe_int (nomark _)))))), ?_⟩
    obtain ⟨dx, hp⟩ := R.ob
    have s0 := R.s0
    refine ⟨_, rfl, _, rfl, p, L.c_Row, dx, _, _, rfl, hp, T.cf_Row.cl, T.nf_Row_phase, rowF_p _ _ _, x, n, _, rfl, hx, _, rfl, ?_⟩
    refine ite2 (fun c => ?_) (fun c => ?_)
    · cases x with
      | int i =>
        have c' : decide (ph ≤ i) = true := c
        have k' : Q (.bl (decide (ph ≤ i) && decide ((i - ph) % st = 0))) H := k
        rw [c', Bool.true_and] at k'
        refine ⟨_, rfl, _, rfl, p, L.c_Row, dx, _, _, rfl, hp, T.cf_Row.cl, T.nf_Row_phase, rowF_p _ _ _, _, _, rfl, rfl, _, rfl, p, L.c_Row, dx, _, _, rfl, hp, T.cf_Row.cl, T.nf_Row_step, rowF_s _ _ _, _, _, rfl, rfl, by omega, rfl, ?_⟩
        have e : decide (V.int ((i - ph) % st) = V.int 0) = decide ((i - ph) % st = 0) := by rw [dec_int]; rfl
        rw [e]
        exact k'
      | _ => exact absurd (show false = true from c) Bool.false_ne_true
    · cases x with
      | int i =>
        have c' : decide (ph ≤ i) = false := by
          have c2 : ¬ (decide (ph ≤ i) = true) := c
          simpa using c2
        have k' : Q (.bl (decide (ph ≤ i) && decide ((i - ph) % st = 0))) H := k
        rw [c', Bool.false_and] at k'
        exact k'
      | _ => exact k
theorem ok_Rowcontains (T : LX K mg L) : Met P w K mg base L.c_Row "__contains__" 3 L.m_Row_contains ["self", "x"] (spRCon L.c_Row) := T.mm_Row_contains.met fun fd F => fn_Rowcontains T F
abbrev N_requesttime : List Str := ["row", "number"]
theorem sc_requesttime : FnScope N_requesttime ["row", "number"] (defScope st_request_time) := ⟨rfl, rfl, rfl, by decide +kernel, rfl, by decide +kernel, by decide +kernel⟩
theorem fn_requesttime (T : LX K mg L) {fd : FuncData} (F : Fun K "request_time" "request_time" st_request_time L.f_request_time fd) : FnOk P w K mg base CX0 3 L.f_request_time fd ["row", "number"] (spRRt L.c_Row) := by
  have G_isatleast := ok_isatleast (P := P) (w := w) (base := base) T
  have nd := sc_requesttime.nd
  refine F.ok sc_requesttime (fun vs H Q E h => ?_) (fun cdv A outer S H vs Q E hr h => ?_)
  · obtain ⟨p, B, xs, ts, st, ph, i, rfl, _⟩ := h
    rfl
  · obtain ⟨p, B, xs, ts, st, ph, i, rfl, R, i0, iw, k⟩ := h
    refine ⟨_, (pss_cons (ps_if (pt_not (pt_val (pe_c G_isatleast (hr.mono (by decide)) rfl (pa_cons (pv 1) (pa_cons pe_int pa_nil))))) (pss_one (ps_never)) pss_nil)
       (pss_one (ps_ret (pe_op op_add (pe_fld (pv 0) rfl) (pe_op op_mulW (pv 1) (pe_fld (pv 0) rfl)))))), ?_⟩
    obtain ⟨dx, hp⟩ := R.ob
    have s0 := R.s0
    have s1 := st_bb R.s1
    refine ⟨_, rfl, _, _, _, rfl, .int _, _, rfl, ?_⟩
    show if (!(decide ((0 : Int) ≤ i))) = true then _ else _
    rw [decide_eq_true i0]
    refine iteF ?_
    exact ⟨_, rfl, p, L.c_Row, dx, _, _, rfl, hp, T.cf_Row.cl, T.nf_Row_phase, rowF_p _ _ _, _, rfl, _, rfl, p, L.c_Row, dx, _, _, rfl, hp, T.cf_Row.cl, T.nf_Row_step, rowF_s _ _ _, _, _, rfl, rfl, mulBB i0 (by have := BB1; omega) (by omega) (by have := BB1; omega), _, _, rfl, rfl, k⟩
theorem ok_requesttime (T : LX K mg L) : Cal P w K mg base "request_time" 3 L.f_request_time ["row", "number"] (spRRt L.c_Row) := T.d_request_time.cal fun fd F => fn_requesttime T F
end
section
variable {X : Cx} {L : LA}
theorem row_fn {K : PySem.W.Frag} {mg : Str → Option Value} (T : LX K mg L) : ∃ fd, Fun K "__init__" "Row.__init__" st_Row_init L.i_Row fd ∧ FunD K "__init__" "Row.__init__" (defArgs st_Row_init) (defBody st_Row_init) (defScope st_Row_init) [] [("phase", .int 0)] L.i_Row fd := by
  obtain ⟨fd, F⟩ := T.in_Row
  refine ⟨fd, ?_, F⟩
  obtain ⟨oc, od, dV, kV, doc, pm, an, cdv, ct, osl, rfl, lk, hcd, hD, hK⟩ := F.ex
  rcases hD with ⟨_, rfl⟩ | ⟨e, _⟩
  · exact ⟨⟨oc, od, kV, doc, pm, an, cdv, ct, osl, rfl, lk, hcd⟩, F.kp⟩
  · exact absurd rfl e
theorem row_k1 {K : PySem.W.Frag} {mg : Str → Option Value} (T : LX K mg L) : ∃ fd, Fun K "__init__" "Row.__init__" st_Row_init L.i_Row fd ∧ KBn K fd ["self", "breakers", "step", "phase"] 3 ["phase"] (fun us ws => us ++ ws) (fun us ws => us ++ ws) := by
  obtain ⟨fd, F, FD⟩ := row_fn T
  obtain ⟨mv, h⟩ := FD.kbinds0 (ps := ["self", "breakers", "step", "phase"]) 3 ["phase"] [] (fun us _ ws => us ++ ws) (by simp) (by simp) (fun r1 _ r3 => r1.append r3) (fun D doc pm an cdv ct us mv ws h1 h2 h3 => by
    match us, h1, ws, h3, mv, h2 with
    | [_, _, _], _, [_], _, [], _ => rfl)
  exact ⟨fd, F, h⟩
theorem row_k2 {K : PySem.W.Frag} {mg : Str → Option Value} (T : LX K mg L) : ∃ fd ds, Fun K "__init__" "Row.__init__" st_Row_init L.i_Row fd ∧ Vals [.int 0] ds ∧ Binds K fd ["self", "breakers", "step", "phase"] ds := by
  obtain ⟨fd, F, FD⟩ := row_fn T
  obtain ⟨ds, h1, h2⟩ := FD.binds0 (ps := ["self", "breakers", "step", "phase"]) 3 (by simp) rfl (fun D doc pm an cdv ct us ks h1 h2 => by
    match us, h1, ks, h2 with
    | [_, _, _], _, [_], _ => exact ⟨_, _, _, _, _, _, rfl, rfl, rfl⟩)
  exact ⟨fd, ds, F, h1, h2⟩
/-- Row(e, s, phase=f) -/
theorem pe_mkRow_p_phase (T : LX X.K X.mg L) (hr : Room 6 X.A) {p pos : Pos} {e e2 : Expr} {kws : List Keyword} {t tk : TA} (hg : Gl X "Row") (ha : PA X [e, e2] t) (hkw : PK X kws tk)
    (hall : (backToKw pos (keywordEach kws X.env)).all (·.1.isSome) = true := by rfl) (hks : (backToKw pos (keywordEach kws X.env)).filterMap (·.1) = (["phase"] : List Str) := by rfl)
    (he : starEach (e :: [e2]) X.env = (false, eval e X.env) :: starEach [e2] X.env := by rfl) (hpl : ((backTo pos (starEach (e :: [e2]) X.env)).any (·.1) || (backToKw pos (keywordEach kws X.env)).any (·.1.isNone)) = false := by rfl) :
    PE X (.Call (.Name "Row" p) (e :: [e2]) kws pos) (tMakeK L.c_Row 2 1 (spRInit L.c_Row) (fun us ws => us ++ ws) E0 t tk) := by
  obtain ⟨fd, F, b⟩ := row_k1 T
  exact pe_makeK T.mk_Row (fn_Rowinit T F) hr hg T.gc_Row b pass0 ha hkw hall hks (by decide) he hpl
/-- Row(e, s) -/
theorem pe_mkRow (T : LX X.K X.mg L) (hr : Room 6 X.A) {p pos : Pos} {e e2 : Expr} {t : TA} (hg : Gl X "Row") (ha : PA X [e, e2] t)
    (he : starEach (e :: [e2]) X.env = (false, eval e X.env) :: starEach [e2] X.env := by rfl) (hpl : (backTo pos (starEach [e2] X.env)).any (·.1) = false := by rfl) :
    PE X (.Call (.Name "Row" p) (e :: [e2]) [] pos) (tMake L.c_Row (spRInit L.c_Row) [.int 0] E0 t) := by
  obtain ⟨fd, ds, F, hv, b⟩ := row_k2 T
  exact pe_make T.mk_Row (fn_Rowinit T F) hr hg T.gc_Row b hv pass0 ha (by decide) he hpl
end
/-! ### states of breakers, and data of them -/
abbrev StD := Str × Int
def StAt (H : Hp) (x : V) (s : StD) : Prop := ∃ a, x = .ref a ∧ H a = some (.tup [.str s.1, .int s.2])
abbrev Sts (H : Hp) (xs : List V) (ss : List StD) : Prop := Paired (StAt H) xs ss
theorem StAt.nl {H H' : Hp} (k : NL H H') {x : V} {d : StD} (h : StAt H x d) : StAt H' x d := by
  obtain ⟨a, e, h⟩ := h
  exact ⟨a, e, k _ _ h fun _ z => nomatch z⟩
theorem Sts.nl {H H' : Hp} (k : NL H H') {xs : List V} {ss : List StD} (h : Sts H xs ss) : Sts H' xs ss := L2.Paired.mapP h fun _ _ z => z.nl k
theorem paired_len {α β : Type} {F : α → β → Prop} : ∀ {xs : List α} {ys : List β}, Paired F xs ys → xs.length = ys.length
  | _, _, .nil => rfl
  | _, _, .cons _ p => by rw [List.length_cons, List.length_cons, paired_len p]
theorem paired_get {α β : Type} {F : α → β → Prop} : ∀ {xs : List α} {ys : List β} {i : Nat} {x : α}, Paired F xs ys → xs[i]? = some x → ∃ y, ys[i]? = some y ∧ F x y
  | _, _, i, x, .nil, e => by cases e
  | _, _, 0, x, .cons h _, e => by cases e; exact ⟨_, rfl, h⟩
  | _, _, i + 1, x, .cons _ p, e => paired_get (i := i) p e
theorem paired_get2 {α β : Type} {F : α → β → Prop} : ∀ {xs : List α} {ys : List β} {i : Nat} {y : β}, Paired F xs ys → ys[i]? = some y → ∃ x, xs[i]? = some x ∧ F x y
  | _, _, i, x, .nil, e => by cases e
  | _, _, 0, x, .cons h _, e => by cases e; exact ⟨_, rfl, h⟩
  | _, _, i + 1, x, .cons _ p, e => paired_get2 (i := i) p e
theorem paired_app {α β : Type} {F : α → β → Prop} : ∀ {xs us : List α} {ys vs : List β}, Paired F xs ys → Paired F us vs → Paired F (xs ++ us) (ys ++ vs)
  | _, _, _, _, .nil, q => q
  | _, _, _, _, .cons h p, q => .cons h (paired_app p q)
theorem StAt.same {H H' : Hp} (s : Same H H') {x : V} {d : StD} (h : StAt H x d) : StAt H' x d := by
  obtain ⟨a, e, h⟩ := h
  exact ⟨a, e, s _ _ h⟩
theorem Sts.same {H H' : Hp} (s : Same H H') {xs : List V} {ss : List StD} (h : Sts H xs ss) : Sts H' xs ss := L2.Paired.mapP h fun _ _ z => z.same s
/-- the breaker passes a request at t -/
def psB (b : Tri) (s : StD) (t : Int) : Prop := s.1 = "open" → b.2.1 ≤ t - s.2
def hfS (s : StD) : StD := if s.1 = "open" then ("half", 0) else s
def okS (b : Tri) (s : StD) : StD := if (hfS s).1 = "half" ∧ (hfS s).2 + 1 < b.2.2 then ("half", (hfS s).2 + 1) else ("closed", 0)
def badS (b : Tri) (s : StD) (t : Int) : StD := if (hfS s).1 = "closed" ∧ (hfS s).2 + 1 < b.1 then ("closed", (hfS s).2 + 1) else ("open", t)
theorem sC_O : ¬ (("closed" : Str) = "open") := by decide +kernel
theorem sH_O : ¬ (("half" : Str) = "open") := by decide +kernel
theorem sO_C : ¬ (("open" : Str) = "closed") := by decide +kernel
theorem sH_C : ¬ (("half" : Str) = "closed") := by decide +kernel
theorem sC_H : ¬ (("closed" : Str) = "half") := by decide +kernel
theorem sO_H : ¬ (("open" : Str) = "half") := by decide +kernel
theorem hf_closed (n : Int) : hfS (("closed" : Str), n) = (("closed" : Str), n) := if_neg sC_O
theorem hf_half (n : Int) : hfS (("half" : Str), n) = (("half" : Str), n) := if_neg sH_O
theorem hf_open (n : Int) : hfS (("open" : Str), n) = (("half" : Str), 0) := if_pos rfl
/-- what is told of a request that k of n breakers pass -/
def outV (n k : Nat) (inS : Bool) : List V := if k < n then [.str "rejected", .int k] else if inS then [.str "failed"] else [.str "served"]
def okW (s : StD) : Prop := s.1 = "closed" ∨ s.1 = "open" ∨ s.1 = "half"
def stD (s : StD) : PyData := .tuple [.str s.1, .int s.2]
theorem Sts.dp {K : PySem.W.Frag} {H : Hp} : ∀ {xs : List V} {ss : List StD}, Sts H xs ss → DpAll K H xs (ss.map stD)
  | _, _, .nil => .nil
  | _, _, .cons ⟨a, e, h⟩ t => by
    subst e
    exact .cons (.tup (SqT.of h) (.cons (.str _) (.cons (.int _) .nil))) (Sts.dp t)
theorem stD_eq (s u : StD) : PyData.eqv (stD s) (stD u) = decide (s = u) := by
  obtain ⟨a, b⟩ := s
  obtain ⟨a', b'⟩ := u
  simp only [stD, PyData.eqv, PyData.eqvAll, Bool.and_true]
  rw [Bool.eq_iff_iff]
  simp [Prod.ext_iff]
theorem stDs_eq : ∀ ss us : List StD, PyData.eqvAll (ss.map stD) (us.map stD) = decide (ss = us)
  | [], [] => by simp [PyData.eqvAll]
  | [], _ :: _ => by simp [PyData.eqvAll]
  | _ :: _, [] => by simp [PyData.eqvAll]
  | t :: ts, u :: us => by
    rw [List.map_cons, List.map_cons, PyData.eqvAll, stD_eq, stDs_eq ts us, Bool.eq_iff_iff]
    simp
theorem sok_W {s : StD} (h : okW s) : PyData.strOk s.1 = true := by
  obtain ⟨a, b⟩ := s
  rcases h with h | h | h
  · have h : a = "closed" := h
    subst h
    show PyData.strOk "closed" = true
    decide +kernel
  · have h : a = "open" := h
    subst h
    show PyData.strOk "open" = true
    decide +kernel
  · have h : a = "half" := h
    subst h
    show PyData.strOk "half" = true
    decide +kernel
theorem canSts : ∀ {ss : List StD}, (∀ s ∈ ss, okW s) → PyData.canLayAll0 (ss.map stD) = true
  | [], _ => by simp [PyData.canLayAll0]
  | t :: ts, h => by
    rw [List.map_cons, PyData.canLayAll0, canSts fun s hs => h s (List.mem_cons_of_mem _ hs)]
    simp [stD, PyData.canLay0, PyData.canLayAll0, sok_W (h t (List.mem_cons_self ..))]
theorem depSts : ∀ ss : List StD, PyData.depthAll (ss.map stD) ≤ 10
  | [] => by simp [PyData.depthAll]
  | t :: ts => by
    have := depSts ts
    rw [List.map_cons, PyData.depthAll]
    have h2 : (stD t).depth ≤ 10 := by simp [stD, PyData.depth, PyData.depthAll]
    omega
theorem shSts {ss : List StD} (h : ∀ s ∈ ss, okW s) : SeqAt.shaped (.list (ss.map stD)) = true := by
  refine Bool.and_eq_true_iff.mpr ⟨?_, decide_eq_true ?_⟩
  · rw [PyData.canLay0]
    exact canSts h
  · have := depSts ss
    rw [PyData.depth]
    omega
theorem Sts.dpl {K : PySem.W.Frag} {H : Hp} {l : Addr} {ys : List V} {ss : List StD} (h : H l = some (.lst ys)) (s : Sts H ys ss) : Dp K H (.ref l) (.list (ss.map stD)) := .lst (SqL.of h) s.dp
theorem eqSts (ss us : List StD) : PyData.eqv (.list (ss.map stD)) (.list (us.map stD)) = decide (ss = us) := by
  rw [PyData.eqv]
  exact stDs_eq ss us
/-! ### the states before all requests -/
theorem sts_rep {H : Hp} {t : Addr} {d : StD} (h : H t = some (.tup [.str d.1, .int d.2])) : ∀ n : Nat, Sts H (List.replicate n (V.ref t)) (List.replicate n d)
  | 0 => .nil
  | n + 1 => .cons ⟨t, rfl, h⟩ (sts_rep h n)
def spClosed : Sp := fun vs H Q _ => ∃ n : Nat, vs = [.int n] ∧ n ≤ 100 ∧ ∀ l ys H', H' l = some (.lst ys) → Sts H' ys (List.replicate n ("closed", 0)) → Same H H' → H l = none → Q (.ref l) H'
section
variable {P : Program} {w : World} {K : PySem.W.Frag} {mg : Str → Option Value} {base : Heap} {L : LA}
abbrev N_closedstates : List Str := ["number"]
theorem sc_closedstates : FnScope N_closedstates ["number"] (defScope st_closed_states) := ⟨rfl, rfl, rfl, by decide +kernel, rfl, by decide +kernel, by decide +kernel⟩
theorem fn_closedstates (T : LX K mg L) {fd : FuncData} (F : Fun K "closed_states" "closed_states" st_closed_states L.f_closed_states fd) : FnOk P w K mg base CX0 3 L.f_closed_states fd ["number"] (spClosed) := by
  have nd := sc_closedstates.nd
  refine F.ok sc_closedstates (fun vs H Q E h => ?_) (fun cdv A outer S H vs Q E hr h => ?_)
  · obtain ⟨n, rfl, _⟩ := h
    rfl
  · obtain ⟨n, rfl, hn, k⟩ := h
    refine ⟨_, (pss_one (ps_ret (pe_op op_rep (pe_lst (pa_cons (pe_tup (pa_cons pe_str (pa_cons pe_int pa_nil))) pa_nil)) (pv 0)))), ?_⟩
    refine ⟨(by show 2 ≤ sizeLine; decide), fun t ht => ⟨(by show 1 ≤ sizeLine; decide), fun l hl => ?_⟩⟩
    have s1 := Same.upd (o := .tup [.str "closed", .int 0]) ht
    have s2 := s1.trans (Same.upd (o := .lst [.ref t]) hl)
    refine ⟨_, rfl, ?_⟩
    refine ⟨l, _, [.ref t], rfl, rfl, upd_same, by omega, by omega, small2 (by rw [Int.toNat_natCast]; show 1 * n ≤ 100000; omega), fun r hr => ?_⟩
    have s3 := s2.trans (Same.upd (o := .lst (List.replicate (n : Int).toNat [V.ref t]).flatten) hr)
    refine k r _ _ upd_same ?_ s3 (none_of s2 hr)
    rw [Int.toNat_natCast, List.flatten_replicate_singleton]
    have ht3 : (upd (upd (upd H t (.tup [.str "closed", .int 0])) l (.lst [.ref t])) r (.lst (List.replicate n (V.ref t)))) t = some (.tup [.str "closed", .int 0]) := by
      have h1 : (upd (upd H t (.tup [.str "closed", .int 0])) l (.lst [.ref t])) t = some (.tup [.str "closed", .int 0]) := (Same.upd hl) _ _ upd_same
      rw [upd_ne (ne_of_none h1 hr)]
      exact h1
    exact sts_rep ht3 n
theorem ok_closedstates (T : LX K mg L) : Cal P w K mg base "closed_states" 3 L.f_closed_states ["number"] (spClosed) := T.d_closed_states.cal fun fd F => fn_closedstates T F
end
/-! ### lists of ints as data; what the law asks of told times -/
def intsD (ns : List Int) : PyData := .list (ns.map PyData.int)
theorem ints_dp {K : PySem.W.Frag} {H : Hp} : ∀ ns : List Int, DpAll K H (ns.map V.int) (ns.map PyData.int)
  | [] => .nil
  | n :: ns => .cons (.int n) (ints_dp ns)
theorem canInts : ∀ ns : List Int, PyData.canLayAll0 (ns.map PyData.int) = true
  | [] => by simp [PyData.canLayAll0]
  | n :: ns => by rw [List.map_cons, PyData.canLayAll0, canInts ns]; simp [PyData.canLay0]
theorem depInts : ∀ ns : List Int, PyData.depthAll (ns.map PyData.int) ≤ 10
  | [] => by simp [PyData.depthAll]
  | n :: ns => by
    have := depInts ns
    rw [List.map_cons, PyData.depthAll]
    have h2 : (PyData.int n).depth ≤ 10 := by simp [PyData.depth]
    omega
theorem shInts (ns : List Int) : SeqAt.shaped (intsD ns) = true := by
  refine Bool.and_eq_true_iff.mpr ⟨?_, decide_eq_true ?_⟩
  · unfold intsD
    rw [PyData.canLay0]
    exact canInts ns
  · have := depInts ns
    unfold intsD
    rw [PyData.depth]
    omega
theorem eqInts1 : ∀ ns ms : List Int, PyData.eqvAll (ns.map PyData.int) (ms.map PyData.int) = decide (ns = ms)
  | [], [] => by simp [PyData.eqvAll]
  | [], _ :: _ => by simp [PyData.eqvAll]
  | _ :: _, [] => by simp [PyData.eqvAll]
  | n :: ns, m :: ms => by
    rw [List.map_cons, List.map_cons, PyData.eqvAll, eqInts1 ns ms, Bool.eq_iff_iff]
    simp [PyData.eqv]
theorem eqInts (ns ms : List Int) : PyData.eqv (intsD ns) (intsD ms) = decide (ns = ms) := by
  unfold intsD
  rw [PyData.eqv]
  exact eqInts1 ns ms
theorem Dp.ints {K : PySem.W.Frag} {H : Hp} {a : Addr} {ns : List Int} (h : H a = some (.lst (ns.map V.int))) : Dp K H (.ref a) (intsD ns) := .lst (SqL.of h) (ints_dp ns)
/-! ### rules inside comprehensions -/
theorem call_lenK {X : Cx} {K : PySem.W.Frag} (h : X.K = K) : CallR X (.builtin "len") (fun xs H Q => ∃ p ys, xs = [.ref p] ∧ (SqL K H p ys ∨ SqT K H p ys) ∧ Q (.int ys.length) H) := h ▸ call_len_seq
theorem call_listK {X : Cx} {K : PySem.W.Frag} (h : X.K = K) : CallR X (.type "list") (fun xs H Q => ∃ p ys, xs = [.ref p] ∧ (SqL K H p ys ∨ SqT K H p ys) ∧ ∀ l, H l = none → Q (.ref l) (upd H l (.lst ys))) := h ▸ call_list_of
theorem op_neDK {X : Cx} {K : PySem.W.Frag} (h : X.K = K) (hu : X.A.units + 64 < cLine) : OpR X (compareOp .NotEq) (rNeD K) := h ▸ op_neD hu
theorem op_eqDK {X : Cx} {K : PySem.W.Frag} (h : X.K = K) (hu : X.A.units + 64 < cLine) : OpR X (compareOp .Eq) (rEqD K) := h ▸ op_eqD hu
theorem op_inK {X : Cx} {K : PySem.W.Frag} (h : X.K = K) : OpR X (compareOp CmpOp.In) (rIn K false) := h ▸ op_in_seq
theorem op_notInK {X : Cx} {K : PySem.W.Frag} (h : X.K = K) : OpR X (compareOp CmpOp.NotIn) (rIn K true) := h ▸ op_notIn_seq
/-! ### list.count of strings -/
def eqs (k : Str) (v : Value) : Bool := match v with
  | .str n _ => n == k
  | _ => false
def rCntS (K : PySem.W.Frag) : V → List V → Hp → VK → Prop := fun x xs H Q => ∃ (p : Addr) (ss : List Str) (k : Str), x = .ref p ∧ xs = [.str k] ∧ SqL K H p (ss.map V.str) ∧ Q (.int (ss.countP (fun y => decide (y = k)) : Nat)) H
theorem eqs_at {k : Str} {t : Tok} {A : Around} {s : Shared} : ∀ {ss : List Str} {us : List Value}, Vals (ss.map V.str) us → ∀ y ∈ us, SeqAt.EqAt A s y (.str k t) (eqs k y)
  | [], us, r => by
    rw [List.map_nil] at r
    cases r
    exact fun y hy => nomatch hy
  | n :: ss, us, r => by
    rw [List.map_cons] at r
    cases r with
    | cons r1 r2 =>
      obtain ⟨t', rfl⟩ := r1
      intro y hy
      rcases List.mem_cons.mp hy with q | q
      · rw [q]
        exact SeqAt.EqAt.str_str n t' k t
      · exact eqs_at r2 y q
theorem eqs_count {k : Str} : ∀ {ss : List Str} {us : List Value}, Vals (ss.map V.str) us → us.countP (eqs k) = ss.countP fun y => decide (y = k)
  | [], us, r => by
    rw [List.map_nil] at r
    cases r
    rfl
  | n :: ss, us, r => by
    rw [List.map_cons] at r
    cases r with
    | cons r1 r2 =>
      obtain ⟨t', rfl⟩ := r1
      have ih := eqs_count (k := k) r2
      rw [List.countP_cons, List.countP_cons, ih]
      rfl
theorem mt_scount {X : Cx} : MtR X "list.count" (rCntS X.K) := by
  intro pins s σ H x xs v us Q I rx rxs h
  obtain ⟨p, ns, k, rfl, rfl, hs, q⟩ := h
  cases rx
  obtain ⟨u, rfl, ru⟩ := rxs.one
  obtain ⟨t, rfl⟩ := ru
  obtain ⟨its, rv, ⟨⟨cls, dd, data, sl⟩, n, ho, hc, hdn, hd⟩, hlen⟩ := I.list hs
  simp only at hc hd
  subst hc hd
  refine call_meets PySem.F.slot_list_count ⟨_, ho, rfl⟩ PySem.F.entry_list_count (PySem.F.args_list_count_2 _ _)
    (SeqAt.list_countAt p its.toArray n dd sl (.str k t) (eqs k)) ⟨ho, fun y hy => eqs_at rv y (by simpa using hy), ?_⟩
  have ec : its.toArray.toList.countP (eqs k) = ns.countP fun y => decide (y = k) := eqs_count rv
  refine ⟨.int (ns.countP (fun y => decide (y = k)) : Nat), H, I.tok _, ⟨s.toks, ?_⟩, q⟩
  show Value.int ((its.toArray.toList.countP (eqs k) : Nat) : Int) s.toks = Value.int ((ns.countP (fun y => decide (y = k)) : Nat) : Int) s.toks
  rw [ec]
/-- a comprehension over enumerate -/
theorem lc_enum {K : PySem.W.Frag} {a : Addr} {xs : List V} {g : TG} {tt : TT} {te : TE} {vs : List Nat} {σ : L2.St} {H1 : Hp} {D : Addr} {Qd : Hp → Prop} (Pv : Nat → Hp → Prop) (h0 : Pv 0 (upd H1 D (.lst []))) (hl : ∀ i H, Pv i H → SqL K H a xs)
    (hs : ∀ (i : Nat) (x : V) (T : Addr) (H : Hp), xs[i]? = some x → Pv i H → H T = none → g (.ref T) (wipe σ vs) (upd H T (.tup [.int (i : Nat), x])) fun σ2 H2 => wipe σ2 vs = wipe σ vs ∧ tt σ2 H2 fun b H3 =>
      if b = true then te σ2 H3 fun y H4 => ∃ acc, H4 D = some (.lst acc) ∧ acc.length < sizeLine ∧ Pv (i + 1) (upd H4 D (.lst (acc ++ [y]))) else Pv (i + 1) H3) (hd : ∀ H, Pv xs.length H → Qd H) :
    ∃ W : Nat → Nat → Hp → Prop, (∃ m, W 0 m (upd H1 D (.lst []))) ∧ ∀ i m H, W i m H → ((Ite K a).stop i H ∧ Qd H) ∨ ((Ite K a).go i H ∧ ∃ Nx : Hp → Prop, (∀ H', Nx H' → ∃ m', m' < m ∧ W (i + 1) m' H') ∧ ∀ x H', (Ite K a).yld i H x H' → g x (wipe σ vs) H' fun σ2 H2 => wipe σ2 vs = wipe σ vs ∧ tt σ2 H2 fun b H3 =>
        if b = true then te σ2 H3 fun y H4 => ∃ acc, H4 D = some (.lst acc) ∧ acc.length < sizeLine ∧ Nx (upd H4 D (.lst (acc ++ [y]))) else Nx H3) := by
  refine ⟨fun i m H => m = xs.length - i ∧ i ≤ xs.length ∧ Pv i H, ⟨xs.length, by omega, Nat.zero_le _, h0⟩, ?_⟩
  rintro i m H ⟨rfl, hi, p⟩
  have q := hl i H p
  by_cases hlt : i < xs.length
  · refine .inr ⟨⟨xs, xs[i], q, List.getElem?_eq_getElem hlt⟩, Pv (i + 1), fun H' p' => ⟨xs.length - (i + 1), by omega, rfl, hlt, p'⟩, fun v H' y => ?_⟩
    obtain ⟨T, x', rfl, hT, rfl, f⟩ := y
    exact hs i x' T H (f xs q) p hT
  · have e : i = xs.length := by omega
    subst e
    exact .inl ⟨⟨xs, q, Nat.le_refl _⟩, hd H p⟩
theorem op_powW {X : Cx} : OpR X (binaryOp .Pow) (rI (fun i j => 0 ≤ j ∧ (Builtin.Int.intBits i : Int) * j ≤ 2 ^ 27) fun i j => .int (i ^ j.toNat)) := opI fun _ _ _ _ _ _ _ hc q => PyProof.Rows.pow_int hc.1 hc.2 q
/-! ### zip of a tuple and a list -/
section
open PySem.Builtin.SmallTypes
/-- what next() walks: an iterator over a sequence -/
structure Wk (prog : Program) (w : World) where
  it : Heap → Addr → Addr → Nat → Prop
  sq : Heap → Addr → Array Value → Prop
  itx : ∀ {g g' : Heap} {a b l : Addr} {n : Nat}, it g a l n → Heap.ExtBut b g g' → a ≠ b → it g' a l n
  sqx : ∀ {g g' : Heap} {a b : Addr} {xs : Array Value}, sq g a xs → Heap.ExtBut b g g' → a ≠ b → sq g' a xs
  ita : ∀ {g g' : Heap} {a l : Addr} {n : Nat}, it g a l n → (∀ o, g.get? a = some o → g'.get? a = some o) → it g' a l n
  ito : ∀ {g : Heap} {a l : Addr} {n : Nat}, it g a l n → ∃ o, g.get? a = some o ∧ ∃ f, o.data = .fields f
  nxt : ∀ {A : Around} {E : Value → Shared → Prop} {s : Shared} {a l : Addr} {n : Nat} {xs : Array Value} {x : Value} {Q : Value → Shared → Prop}, it s.heap a l n → sq s.heap l xs → xs[n]? = some x →
    (∀ g, it g a l (n + 1) → Heap.SameBut a s.heap g → Q x { s with heap := g }) → wpAny (model prog w) A (nextOf (.ref a)) Q E s
  fin : ∀ {A : Around} {E : Value → Shared → Prop} {s : Shared} {a l : Addr} {n : Nat} {xs : Array Value} {Q : Value → Shared → Prop}, A.handled = none → it s.heap a l n → sq s.heap l xs → xs[n]? = none →
    (∀ g e, Heap.ExtBut a s.heap g → (∃ o, g.get? e = some o ∧ o.cls = .type "StopIteration") → E (.ref e) { s with heap := g }) → wpAny (model prog w) A (nextOf (.ref a)) Q E s
def wkL (prog : Program) (w : World) : Wk prog w where
  it := Heap.IsListIter
  sq := Heap.IsList
  itx := fun x h n => x.extBut h n
  sqx := fun x h n => x.extBut h n
  ita := fun x e => x.at e
  ito := fun x => by obtain ⟨o, e, _, d⟩ := x; exact ⟨o, e, _, d⟩
  nxt := fun a b c d => wpAny_nextOf_list_item a b c d
  fin := fun a b c d e => wpAny_nextOf_list_end a b c d e
def wkT (prog : Program) (w : World) : Wk prog w where
  it := Heap.IsTupleIter
  sq := Heap.IsTuple
  itx := fun x h n => x.extBut h n
  sqx := fun x h n => x.extBut h n
  ita := fun x e => x.at e
  ito := fun x => by obtain ⟨o, e, _, d⟩ := x; exact ⟨o, e, _, d⟩
  nxt := fun a b c d => RZ.nextOf_tuple_item a b c d
  fin := fun a b c d e => RZ.nextOf_tuple_end a b c d e
section
variable {prog : Program} {w : World} {A : Around} {E : Value → Shared → Prop} {s : Shared} (U V : Wk prog w)
/-- the kept of a step -/
def Kz (z T i j : Addr) (g g' : Heap) : Prop := ∀ c o, c ≠ z → c ≠ T → c ≠ i → c ≠ j → g.get? c = some o → g'.get? c = some o
theorem zw_item {z T R i j a b : Addr} {m n : Nat} {xs ys : Array Value} {x y p q : Value} {Q : Value → Shared → Prop} (D : ZipApart z T R i j a b) (hz : IsZip s.heap z T R .none) (hT : IsPair s.heap T (.ref i) (.ref j)) (hR : IsPair s.heap R p q)
    (hi : U.it s.heap i a m) (hj : V.it s.heap j b n) (ha : U.sq s.heap a xs) (hb : V.sq s.heap b ys) (ex : xs[m]? = some x) (ey : ys[n]? = some y)
    (k : ∀ g, IsZip g z T R (rawInt s.heap.objs.size) → IsPair g R x y → U.it g i a (m + 1) → V.it g j b (n + 1) → IsPair g s.heap.objs.size x y → g.objs.size = s.heap.objs.size + 1 → Kz z R i j s.heap g → Q (.ref s.heap.objs.size) { s with heap := g }) :
    wpAny (model prog w) A (Builtin.«zip.__next__» ⟨[.ref z], []⟩) (fun r s' => ∃ v, r = .done (.ret v) ∧ Q v s') E s := by
  show wpAny _ _ (field (.ref z) 2 >>= fun _ => _) _ _ _
  refine wpAny_bind (wpAny_field hz rfl (x := .bool false) rfl (show wpAny _ _ (field (.ref z) 3 >>= fun _ => _) _ _ _ from ?_))
  refine wpAny_bind (wpAny_field hz rfl (x := .ref T) rfl (wpAny_bind (wpAny_seqItems hT rfl (show wpAny _ _ (ownedTupleIsFree (.ref z) >>= fun _ => _) _ _ _ from wpAny_bind ?_))))
  unfold Builtin.SmallTypes.ownedTupleIsFree
  refine wpAny_bind (wpAny_field hz rfl (x := .none) rfl (wpAny_pure ?_)); simp only [if_true]
  refine wpAny_bind (wpAny_rule (wpAny_bind (wpAny_field hz rfl (x := .ref R) rfl (wpAny_bind (wpAny_setField_rec hz (by simp) fun g1 z1 s1 => ?_)))))
  replace z1 : IsZip g1 z T R .ellipsis := z1
  refine wpAny_bind ?_; simp only [List.zipIdx_cons, List.zipIdx_nil, List.forIn_cons, List.forIn_nil]
  refine wpAny_bind (wpAny_bind (wpAny_onRaise (show wpAny _ _ (nextOf (.ref i) >>= fun _ => _) _ _ _ from ?_)))
  refine wpAny_bind (U.nxt (U.itx hi s1.extBut D.i1z) (U.sqx ha s1.extBut D.l1z) ex fun g2 i2 s2 => wpAny_pure ?_)
  have R2 : IsPair g2 R p q := s2.extBut _ _ D.TOi1 (s1.extBut _ _ D.TOz hR)
  refine wpAny_bind (wpAny_seqItems R2 rfl (wpAny_bind (wpAny_updateSeq_pair R2 fun g3 R3 s3 => wpAny_bind (wpAny_letGo (wpAny_pure ?_)))))
  replace R3 : IsPair g3 R x q := R3
  refine wpAny_bind (wpAny_bind (wpAny_onRaise (show wpAny _ _ (nextOf (.ref j) >>= fun _ => _) _ _ _ from ?_)))
  refine wpAny_bind (V.nxt (V.itx (V.itx (V.itx hj s1.extBut D.i2z) s2.extBut D.i12.symm) s3.extBut D.TOi2.symm) (V.sqx (V.sqx (V.sqx hb s1.extBut D.l2z) s2.extBut D.l2i1) s3.extBut D.l2TO) ey fun g4 j4 s4 => wpAny_pure ?_)
  have R4 : IsPair g4 R x q := s4.extBut _ _ D.TOi2 R3
  refine wpAny_bind (wpAny_seqItems R4 rfl (wpAny_bind (wpAny_updateSeq_pair R4 fun g5 R5 s5 => wpAny_bind (wpAny_letGo (wpAny_pure (wpAny_pure ?_))))))
  replace R5 : IsPair g5 R x y := R5
  refine wpAny_bind (wpAny_seqItems R5 rfl (wpAny_bind (wpAny_newTuple ?_)))
  have e5 : g5.objs.size = s.heap.objs.size := by rw [s5.1, s4.1, s3.1, s2.1, s1.1]
  have z5 : IsZip g5 z T R .ellipsis := s5.extBut _ _ D.TOz.symm (s4.extBut _ _ D.i2z.symm (s3.extBut _ _ D.TOz.symm (s2.extBut _ _ D.i1z.symm z1)))
  have k5 : Kz z R i j s.heap g5 := fun c o c1 c2 c3 c4 e => s5.extBut _ _ c2 (s4.extBut _ _ c4 (s3.extBut _ _ c2 (s2.extBut _ _ c3 (s1.extBut _ _ c1 e))))
  have i5 : U.it g5 i a (m + 1) := U.itx (U.itx (U.itx i2 s3.extBut D.TOi1.symm) s4.extBut D.i12) s5.extBut D.TOi1.symm
  have j5 : V.it g5 j b (n + 1) := V.itx j4 s5.extBut D.TOi2.symm
  show wpAny _ _ (ownedTupleHandOut (.ref z) (.ref g5.objs.size) >>= fun _ => _) _ _ _
  refine wpAny_bind ?_; unfold Builtin.SmallTypes.ownedTupleHandOut
  have z6 : IsZip (g5.push { cls := .type "tuple", data := .seq #[x, y] }) z T R .ellipsis := Heap.get?_push_of_some _ z5
  refine wpAny_bind (wpAny_setField_rec z6 (by simp) fun g7 z7 s7 => ?_)
  replace z7 : IsZip g7 z T R (rawInt g5.objs.size) := z7
  refine wpAny_setField_rec z7 (by simp) fun g8 z8 s8 => ?_
  replace z8 : IsZip g8 z T R (rawInt g5.objs.size) := z8
  have up : ∀ c o, c ≠ z → g5.get? c = some o → g8.get? c = some o := fun c o c1 e => s8.extBut _ _ c1 (s7.extBut _ _ c1 (Heap.get?_push_of_some _ e))
  have T8 : IsPair g8 g5.objs.size x y := s8.extBut _ _ (Nat.ne_of_gt (Heap.lt_size z5)) (s7.extBut _ _ (Nat.ne_of_gt (Heap.lt_size z5)) (Heap.get?_push_size _ rfl))
  have e8 : g8.objs.size = g5.objs.size + 1 := by rw [s8.1, s7.1, Heap.size_push]
  rw [e5] at z8 T8 e8
  refine wpAny_pure ⟨_, rfl, (show Q (.ref g5.objs.size) _ from ?_)⟩
  rw [e5]
  exact k g8 z8 (up _ _ D.TOz R5) (U.ita i5 fun o e => up _ o D.i1z e) (V.ita j5 fun o e => up _ o D.i2z e) T8 e8 fun c o c1 c2 c3 c4 e => up c o c1 (k5 c o c1 c2 c3 c4 e)
theorem zw_fin {z T R i j a b : Addr} {m n : Nat} {xs ys : Array Value} {p q : Value} {Q : Fin → Shared → Prop} (hh : A.handled = none) (D : ZipApart z T R i j a b) (hz : IsZip s.heap z T R .none) (hT : IsPair s.heap T (.ref i) (.ref j)) (hR : IsPair s.heap R p q)
    (hi : U.it s.heap i a m) (hj : V.it s.heap j b n) (ha : U.sq s.heap a xs) (hb : V.sq s.heap b ys) (en : xs[m]? = none ∨ ys[n]? = none)
    (k : ∀ g e, Kz z R i j s.heap g → (∃ o, g.get? e = some o ∧ o.cls = .type "StopIteration") → E (.ref e) { s with heap := g }) :
    wpAny (model prog w) A (Builtin.«zip.__next__» ⟨[.ref z], []⟩) Q E s := by
  show wpAny _ _ (field (.ref z) 2 >>= fun _ => _) _ _ _
  refine wpAny_bind (wpAny_field hz rfl (x := .bool false) rfl (show wpAny _ _ (field (.ref z) 3 >>= fun _ => _) _ _ _ from ?_))
  refine wpAny_bind (wpAny_field hz rfl (x := .ref T) rfl (wpAny_bind (wpAny_seqItems hT rfl (show wpAny _ _ (ownedTupleIsFree (.ref z) >>= fun _ => _) _ _ _ from wpAny_bind ?_))))
  unfold Builtin.SmallTypes.ownedTupleIsFree
  refine wpAny_bind (wpAny_field hz rfl (x := .none) rfl (wpAny_pure ?_)); simp only [if_true]
  refine wpAny_bind (wpAny_rule (wpAny_bind (wpAny_field hz rfl (x := .ref R) rfl (wpAny_bind (wpAny_setField_rec hz (by simp) fun g1 z1 s1 => ?_)))))
  replace z1 : IsZip g1 z T R .ellipsis := z1
  refine wpAny_bind ?_; simp only [List.zipIdx_cons, List.zipIdx_nil, List.forIn_cons, List.forIn_nil]
  refine wpAny_bind (wpAny_bind (wpAny_onRaise (show wpAny _ _ (nextOf (.ref i) >>= fun _ => _) _ _ _ from ?_)))
  cases ex : xs[m]? with
  | none =>
    refine wpAny_bind (U.fin hh (U.itx hi s1.extBut D.i1z) (U.sqx ha s1.extBut D.l1z) ex fun g2 e s2 he => ?_)
    obtain ⟨oe, h1, h2⟩ := he
    have z2 : IsZip g2 z T R .ellipsis := s2 _ _ D.i1z.symm z1
    have ne : e ≠ z := fun c => by subst c; rw [z2] at h1; cases h1; simp at h2
    exact wpAny_setField_rec z2 (by simp) fun g3 _ s3 => k g3 e (fun c o c1 _ c3 _ r => s3.extBut _ _ c1 (s2 _ _ c3 (s1.extBut _ _ c1 r))) ⟨oe, s3.extBut _ _ ne h1, h2⟩
  | some x =>
    have ey : ys[n]? = none := by rcases en with h | h; (rw [ex] at h; cases h); exact h
    refine wpAny_bind (U.nxt (U.itx hi s1.extBut D.i1z) (U.sqx ha s1.extBut D.l1z) ex fun g2 i2 s2 => wpAny_pure ?_)
    have R2 : IsPair g2 R p q := s2.extBut _ _ D.TOi1 (s1.extBut _ _ D.TOz hR)
    refine wpAny_bind (wpAny_seqItems R2 rfl (wpAny_bind (wpAny_updateSeq_pair R2 fun g3 R3 s3 => wpAny_bind (wpAny_letGo (wpAny_pure ?_)))))
    refine wpAny_bind (wpAny_bind (wpAny_onRaise (show wpAny _ _ (nextOf (.ref j) >>= fun _ => _) _ _ _ from ?_)))
    refine wpAny_bind (V.fin hh (V.itx (V.itx (V.itx hj s1.extBut D.i2z) s2.extBut D.i12.symm) s3.extBut D.TOi2.symm) (V.sqx (V.sqx (V.sqx hb s1.extBut D.l2z) s2.extBut D.l2i1) s3.extBut D.l2TO) ey fun g4 e s4 he => ?_)
    obtain ⟨oe, h1, h2⟩ := he
    have z4 : IsZip g4 z T R .ellipsis := s4 _ _ D.i2z.symm (s3.extBut _ _ D.TOz.symm (s2.extBut _ _ D.i1z.symm z1))
    have ne : e ≠ z := fun c => by subst c; rw [z4] at h1; cases h1; simp at h2
    exact wpAny_setField_rec z4 (by simp) fun g5 _ s5 => k g5 e (fun c o c1 c2 c3 c4 r => s5.extBut _ _ c1 (s4 _ _ c4 (s3.extBut _ _ c2 (s2.extBut _ _ c3 (s1.extBut _ _ c1 r))))) ⟨oe, s5.extBut _ _ ne h1, h2⟩
theorem zw_next {z T R i j a b : Addr} {m n : Nat} {xs ys : Array Value} {x y p q : Value} {Q : Option Value → Shared → Prop} (D : ZipApart z T R i j a b) (hz : IsZip s.heap z T R .none) (hT : IsPair s.heap T (.ref i) (.ref j)) (hR : IsPair s.heap R p q)
    (hi : U.it s.heap i a m) (hj : V.it s.heap j b n) (ha : U.sq s.heap a xs) (hb : V.sq s.heap b ys) (ex : xs[m]? = some x) (ey : ys[n]? = some y)
    (k : ∀ g, IsZip g z T R (rawInt s.heap.objs.size) → IsPair g R x y → U.it g i a (m + 1) → V.it g j b (n + 1) → IsPair g s.heap.objs.size x y → g.objs.size = s.heap.objs.size + 1 → Kz z R i j s.heap g → Q (some (.ref s.heap.objs.size)) { s with heap := g }) :
    wpAny (model prog w) A (pyNext (.ref z)) Q E s := by
  have hT' : s.TypeIs (.ref z) "zip" := ⟨_, hz, rfl⟩
  unfold pyNext
  exact wpAny_bind (wpAny_attempt (wpAny_callSpecial?_slot (name := Str.ofString "__next__") hT' F.slot_zip_next (wpAny_call_entry F.slot_zip_next hT' F.entry_zip_next
    (zw_item U V D hz hT hR hi hj ha hb ex ey fun g a1 a2 a3 a4 a5 a6 a7 => wpAny_pure (k g a1 a2 a3 a4 a5 a6 a7)) (F.args_zip_next_1 _))))
theorem zw_done {z T R i j a b : Addr} {m n : Nat} {xs ys : Array Value} {p q : Value} {Q : Option Value → Shared → Prop} (hh : A.handled = none) (D : ZipApart z T R i j a b) (hz : IsZip s.heap z T R .none) (hT : IsPair s.heap T (.ref i) (.ref j)) (hR : IsPair s.heap R p q)
    (hi : U.it s.heap i a m) (hj : V.it s.heap j b n) (ha : U.sq s.heap a xs) (hb : V.sq s.heap b ys) (en : xs[m]? = none ∨ ys[n]? = none) (k : ∀ g, Kz z R i j s.heap g → Q none { s with heap := g }) : wpAny (model prog w) A (pyNext (.ref z)) Q E s := by
  have hT' : s.TypeIs (.ref z) "zip" := ⟨_, hz, rfl⟩
  unfold pyNext
  refine wpAny_bind (wpAny_attempt (wpAny_callSpecial?_slot (name := Str.ofString "__next__") hT' F.slot_zip_next (wpAny_call_entry F.slot_zip_next hT' F.entry_zip_next (zw_fin U V hh D hz hT hR hi hj ha hb en fun g e hk he => ?_) (F.args_zip_next_1 _))))
  obtain ⟨o, ho, hc⟩ := he
  exact wpAny_bind (wpAny_isInstance (T := "StopIteration") (b := true) ⟨o, ho, hc⟩ isSubtype_stop (wpAny_pure (k _ hk)))
end
abbrev zmA (h : Heap) (a : Addr) : Heap := h.push { cls := .type "tuple_iterator", data := .fields #[.ref a, .int 0 0] }
abbrev zmB (h : Heap) (a b : Addr) : Heap := (zmA h a).push { cls := .type "list_iterator", data := .fields #[.ref b, .int 0 0] }
abbrev zmC (h : Heap) (a b : Addr) : Heap := (zmB h a b).push { cls := .type "tuple", data := .seq #[.ref h.objs.size, .ref (zmA h a).objs.size] }
abbrev zmD (h : Heap) (a b : Addr) : Heap := (zmC h a b).push { cls := .type "tuple", data := .seq #[.none, .none] }
abbrev zmE (h : Heap) (a b : Addr) : Heap := (zmD h a b).push { cls := .type "zip", data := .fields #[.none, .bool false, .bool false, .ref (zmB h a b).objs.size, .ref (zmC h a b).objs.size] }
theorem zm_new (a b : Addr) (xs ys : Array Value) :
    Meets (Builtin.«zip.__new__» ⟨[.type "zip", .ref a, .ref b], []⟩) (fun _ R s => s.heap.IsTuple a xs ∧ s.heap.IsList b ys ∧ R (.ok (.ret (.ref (zmD s.heap a b).objs.size))) { s with heap := zmE s.heap a b }) :=
  .of_wp fun prog w A R s h => by
    obtain ⟨hp, g, d, tk, os⟩ := s; obtain ⟨h1, h2, h⟩ := h
    have hsub := sub_zip
    have h3 : Heap.IsTuple (Shared.heap ⟨hp, g, d, tk, os⟩) a xs := h1
    have h4 : Heap.IsList (Shared.heap ⟨hp.push { cls := .type "tuple_iterator", data := .fields #[.ref a, .int 0 0] }, g, d, tk, os⟩) b ys := Heap.IsList.push h2 _
    wp_walk using wpAny_pyIter_tuple h3, wpAny_pyIter_list h4
    exact ⟨_, rfl, h⟩
theorem call_zipM {prog : Program} {w : World} {A : Around} {E : Value → Shared → Prop} {s : Shared} {a b : Addr} {xs ys : Array Value} {Q : Value → Shared → Prop} (h1 : s.heap.IsTuple a xs) (h2 : s.heap.IsList b ys)
    (k : ∀ g, IsZip g (s.heap.objs.size + 4) (s.heap.objs.size + 2) (s.heap.objs.size + 3) .none → IsPair g (s.heap.objs.size + 2) (.ref s.heap.objs.size) (.ref (s.heap.objs.size + 1)) → IsPair g (s.heap.objs.size + 3) .none .none →
      g.IsTupleIter s.heap.objs.size a 0 → g.IsListIter (s.heap.objs.size + 1) b 0 → (∀ c o, s.heap.get? c = some o → g.get? c = some o) → Q (.ref (s.heap.objs.size + 4)) { s with heap := g }) :
    wpAny (model prog w) A (call (.type "zip") [.ref a, .ref b]) Q E s := by
  refine callType_new F.called_zip (by decide) (F.typeCall_zip_2 _ _) (F.newCall_zip_2 _ _) (fun o => F.args_object_init_3 o _ _) F.entry_zip_new (zm_new a b xs ys) ⟨h1, h2, ?_⟩
  have z1 : (zmA s.heap a).objs.size = s.heap.objs.size + 1 := Heap.size_push ..
  have z2 : (zmB s.heap a b).objs.size = s.heap.objs.size + 2 := by rw [Heap.size_push, z1]
  have z3 : (zmC s.heap a b).objs.size = s.heap.objs.size + 3 := by rw [Heap.size_push, z2]
  have z4 : (zmD s.heap a b).objs.size = s.heap.objs.size + 4 := by rw [Heap.size_push, z3]
  have g5 : (zmE s.heap a b).get? (zmD s.heap a b).objs.size = some _ := Heap.get?_push_size _ rfl
  have g4 : (zmE s.heap a b).get? (zmC s.heap a b).objs.size = some _ := Heap.get?_push_of_some _ (Heap.get?_push_size _ rfl)
  have g3 : (zmE s.heap a b).get? (zmB s.heap a b).objs.size = some _ := Heap.get?_push_of_some _ (Heap.get?_push_of_some _ (Heap.get?_push_size _ rfl))
  have g2 : (zmE s.heap a b).get? (zmA s.heap a).objs.size = some _ := Heap.get?_push_of_some _ (Heap.get?_push_of_some _ (Heap.get?_push_of_some _ (Heap.get?_push_size _ rfl)))
  have g1 : (zmE s.heap a b).get? s.heap.objs.size = some _ := Heap.get?_push_of_some _ (Heap.get?_push_of_some _ (Heap.get?_push_of_some _ (Heap.get?_push_of_some _ (Heap.get?_push_size _ rfl))))
  show _ ∧ _
  rw [z2, z3, z4] at g5
  rw [z1, z2] at g3
  rw [z3] at g4
  rw [z1] at g2
  rw [z4]
  exact ⟨⟨_, g5, rfl⟩, k _ g5 g3 g4 ⟨_, g1, rfl, rfl⟩ ⟨_, g2, rfl, rfl⟩ fun c o x => Heap.get?_push_of_some _ (Heap.get?_push_of_some _ (Heap.get?_push_of_some _ (Heap.get?_push_of_some _ (Heap.get?_push_of_some _ x))))⟩
end
section
open PyProof.Rows
/-- the tuple at a and the list at b, item by item in new pairs -/
def ItzM (K : PySem.W.Frag) (a b : Addr) : It :=
  ⟨fun i H => ∃ (xs ys : List V) (x y : V), SqT K H a xs ∧ SqL K H b ys ∧ xs[i]? = some x ∧ ys[i]? = some y,
    fun i H v H' => ∃ T x y, v = .ref T ∧ H T = none ∧ H' = upd H T (.tup [x, y]) ∧ (∀ xs, SqT K H a xs → xs[i]? = some x) ∧ ∀ ys, SqL K H b ys → ys[i]? = some y,
    fun i H => ∃ xs ys : List V, SqT K H a xs ∧ SqL K H b ys ∧ (xs.length ≤ i ∨ ys.length ≤ i)⟩
theorem turn_zipM {P : Program} {w : World} {K : PySem.W.Frag} {elts : List Expr} {kk : Nat} {tpos : Pos} {a b z T R i j : Addr} (D : ZipApart z T R i j a b) :
    Turn P w K (.Tuple elts kk tpos) (ItzM K a b) [z, T, R, i, j] z (fun n h => IsZip h z T R .none ∧ IsPair h T (.ref i) (.ref j) ∧ (∃ x y, IsPair h R x y) ∧ h.IsTupleIter i a n ∧ h.IsListIter j b n) where
  mem := List.mem_cons_self ..
  obj := fun n h st c hc => by
    obtain ⟨hz, hT, ⟨x, y, hR⟩, ⟨o1, e1, _, d1⟩, ⟨o2, e2, _, d2⟩⟩ := st
    simp only [List.mem_cons, List.mem_nil_iff, or_false] at hc
    rcases hc with rfl | rfl | rfl | rfl | rfl
    · exact ⟨_, hz, fun v q => nomatch q⟩
    · exact ⟨_, hT, fun v q => nomatch q⟩
    · exact ⟨_, hR, fun v q => nomatch q⟩
    · exact ⟨o1, e1, fun v q => by rw [d1] at q; cases q⟩
    · exact ⟨o2, e2, fun v q => by rw [d2] at q; cases q⟩
  keep := fun n h h' st k => by
    obtain ⟨hz, hT, ⟨x, y, hR⟩, h1, h2⟩ := st
    exact ⟨k z (by simp) _ hz, k T (by simp) _ hT, ⟨x, y, k R (by simp) _ hR⟩, h1.at fun o q => k i (by simp) o q, h2.at fun o q => k j (by simp) o q⟩
  item := by
    intro X eP ew eK hc n pins s σ H E I hf st hg
    subst eP ew eK
    obtain ⟨hz, hT, ⟨x0, y0, hR⟩, h1, h2⟩ := st
    obtain ⟨xs, ys, x, y, qx, qy, hx, hy⟩ := hg
    obtain ⟨its, rv, p, _⟩ := I.tuple qx
    obtain ⟨its2, rv2, p2, _⟩ := I.list qy
    obtain ⟨u, hu, ru⟩ := rv.get hx
    obtain ⟨u2, hu2, ru2⟩ := rv2.get hy
    have lz : z < s.heap.objs.size := Heap.lt_size hz
    refine zw_next (wkT X.prog X.w) (wkL X.prog X.w) D hz hT hR h1 h2 p p2.isList (x := u) (y := u2) (by simpa using hu) (by simpa using hu2) fun h' z' R' h1' h2' hN hsz hk => ?_
    refine ⟨_, rfl, wpAny_letOwnedTupleGo_zip (s := { s with heap := h' }) z' fun h'' z'' sb => ?_⟩
    have hN2 : h''.get? s.heap.objs.size = some { cls := .type "tuple", data := .seq #[u, u2] } := (sb.2 _ (Nat.ne_of_gt lz)).trans hN
    have new : ObjOk X.prog X.w (upd H s.heap.objs.size (.tup [x, y])) h'' s.heap.objs.size (.tup [x, y]) := ⟨by show 2 ≤ sizeLine; decide, [u, u2], .cons ru (.cons ru2 .nil), ⟨_, hN2, rfl, _, rfl⟩⟩
    have I1 : Inv X pins σ (upd H s.heap.objs.size (.tup [x, y])) { s with heap := h'' } := I.turnedNew (t' := s.toks) (ch := [z, T, R, i, j])
      (fun c o hb q => (sb.2 c (fun r => hb (by simp [r]))).trans (hk c o (fun r => hb (by simp [r])) (fun r => hb (by simp [r])) (fun r => hb (by simp [r])) (fun r => hb (by simp [r])) q)) hf (Nat.le_refl _) new
    refine ⟨.ref s.heap.objs.size, _, I1, rfl, ⟨_, x, y, rfl, I.hok.fresh (Nat.le_refl _), rfl, fun l hl => by rw [I.tuple_inj hl qx]; exact hx, fun l hl => by rw [I.list_inj hl qy]; exact hy⟩, ⟨z'', ?_, ⟨u, u2, ?_⟩, ?_, ?_⟩, fun c hcm => ?_⟩
    · exact (sb.2 _ D.TIz).trans (hk _ _ D.TIz D.TITO D.TIi1 D.TIi2 hT)
    · exact (sb.2 _ D.TOz).trans R'
    · exact (wkT X.prog X.w).ita h1' fun o q => (sb.2 _ D.i1z).trans q
    · exact (wkL X.prog X.w).ita h2' fun o q => (sb.2 _ D.i2z).trans q
    · have lt : c < s.heap.objs.size := by
        have hc2 := hcm
        simp only [List.mem_cons, List.mem_nil_iff, or_false] at hc2
        rcases hc2 with rfl | rfl | rfl | rfl | rfl
        · exact lz
        · exact Heap.lt_size hT
        · exact Heap.lt_size hR
        · obtain ⟨_, e1, _⟩ := h1; exact Heap.lt_size e1
        · obtain ⟨_, e2, _⟩ := h2; exact Heap.lt_size e2
      rw [upd_ne (Nat.ne_of_lt lt)]
      exact (hf c hcm).1
  done := by
    intro X eP ew eK hc n pins s σ H E I hf st hg
    subst eP ew eK
    obtain ⟨hz, hT, ⟨x0, y0, hR⟩, h1, h2⟩ := st
    obtain ⟨xs, ys, qx, qy, hend⟩ := hg
    obtain ⟨its, rv, p, _⟩ := I.tuple qx
    obtain ⟨its2, rv2, p2, _⟩ := I.list qy
    have l1 := rv.length
    have l2 := rv2.length
    have he : its.toArray[n]? = none ∨ its2.toArray[n]? = none := by
      rcases hend with q | q
      · left; simp; omega
      · right; simp; omega
    exact zw_done (wkT X.prog X.w) (wkL X.prog X.w) (I.ok.hd hc) D hz hT hR h1 h2 p p2.isList he fun h' hk => ⟨rfl, I.turnedL (t' := s.toks) (ch := [z, T, R, i, j])
      (fun c o hb q => hk c o (fun r => hb (by simp [r])) (fun r => hb (by simp [r])) (fun r => hb (by simp [r])) (fun r => hb (by simp [r])) q) hf⟩
  self := fun A n s Q E st h => wpAny_pyIter_zip st.1 h
def iZipM (K : PySem.W.Frag) (ta : TA) : TI := fun σ H R => ta σ H fun vs H1 => ∃ a b xs ys, vs = [.ref a, .ref b] ∧ SqT K H1 a xs ∧ SqL K H1 b ys ∧ R (ItzM K a b) H1
theorem pi_zipM {X : Cx} {e e2 : Expr} {ta : TA} {p pos tpos : Pos} {elts : List Expr} {kk : Nat} (hg : Gl X "zip") (hm : X.mg "zip" = none) (ha : PA X [e, e2] ta)
    (hs : starEach [e, e2] X.env = (false, eval e X.env) :: starEach [e2] X.env := by rfl) (hpl : (backTo pos (starEach [e2] X.env)).any (·.1) = false := by rfl) : PI X (.Tuple elts kk tpos) (.Call (.Name "zip" p) [e, e2] [] pos) (iZipM X.K ta) := by
  refine ⟨fun pins s σ H R I w0 => ?_⟩
  refine Call_ (ld_blt I hg hm PyProof.Rows.boot_zip (PyProof.Rows.callWith_type1 (thn (ha.run pos pins s σ H _ I w0) fun us s1 ⟨vs, H1, I1, r1, q1⟩ => ?_) hs hpl))
  obtain ⟨a, b, xs, ys, ex, qx, qy, q⟩ := q1
  subst ex
  cases r1 with
  | cons r rr =>
    cases rr with
    | cons r' rr =>
      cases rr; cases r; cases r'
      obtain ⟨its, rv, p1, _⟩ := I1.tuple qx
      obtain ⟨its2, rv2, p2, _⟩ := I1.list qy
      obtain ⟨o1, ho1, _⟩ := id p1
      have fr : ∀ c, c ∈ [s1.heap.objs.size + 4, s1.heap.objs.size + 2, s1.heap.objs.size + 3, s1.heap.objs.size, s1.heap.objs.size + 1] → FpOk X pins H1 c := fun c hcm => by
        have e' : c = s1.heap.objs.size + 4 ∨ c = s1.heap.objs.size + 2 ∨ c = s1.heap.objs.size + 3 ∨ c = s1.heap.objs.size ∨ c = s1.heap.objs.size + 1 := by simpa using hcm
        have le : s1.heap.objs.size ≤ c := by
          rcases e' with c | c | c | c | c
          · rw [c]; exact Nat.le_add_right _ _
          · rw [c]; exact Nat.le_add_right _ _
          · rw [c]; exact Nat.le_add_right _ _
          · rw [c]; exact Nat.le_refl _
          · rw [c]; exact Nat.le_add_right _ _
        exact I1.fpOk le (I1.hok.fresh le)
      refine call_zipM (show s1.heap.IsTuple a its.toArray from p1) p2.isList fun h' hz hT hR h1 h2 hk => wpAny_pyIter_zip hz ?_
      have I2 : Inv X pins σ H1 { s1 with heap := h' } := I1.kept (t' := s1.toks) hk
      exact ⟨s1.heap.objs.size + 4, [s1.heap.objs.size + 4, s1.heap.objs.size + 2, s1.heap.objs.size + 3, s1.heap.objs.size, s1.heap.objs.size + 1], _, _, H1, rfl, I2, turn_zipM (PySem.W.ktu_apart s1.heap.objs.size a b (Heap.lt_size ho1) p2.lt), ⟨hz, hT, ⟨_, _, hR⟩, h1, h2⟩, fr, q⟩
/-- a comprehension over zip of a tuple and a list -/
theorem lc_zipM {K : PySem.W.Frag} {a b : Addr} {xs ys : List V} {g : TG} {tt : TT} {te : TE} {vs : List Nat} {σ : L2.St} {H1 : Hp} {D : Addr} {Qd : Hp → Prop} (hlen : xs.length ≤ ys.length) (Pv : Nat → Hp → Prop) (h0 : Pv 0 (upd H1 D (.lst []))) (hl : ∀ i H, Pv i H → SqT K H a xs ∧ SqL K H b ys)
    (hs : ∀ (i : Nat) (x y : V) (T : Addr) (H : Hp), xs[i]? = some x → ys[i]? = some y → Pv i H → H T = none → g (.ref T) (wipe σ vs) (upd H T (.tup [x, y])) fun σ2 H2 => wipe σ2 vs = wipe σ vs ∧ tt σ2 H2 fun b H3 =>
      if b = true then te σ2 H3 fun y H4 => ∃ acc, H4 D = some (.lst acc) ∧ acc.length < sizeLine ∧ Pv (i + 1) (upd H4 D (.lst (acc ++ [y]))) else Pv (i + 1) H3) (hd : ∀ H, Pv xs.length H → Qd H) :
    ∃ W : Nat → Nat → Hp → Prop, (∃ m, W 0 m (upd H1 D (.lst []))) ∧ ∀ i m H, W i m H → ((ItzM K a b).stop i H ∧ Qd H) ∨ ((ItzM K a b).go i H ∧ ∃ Nx : Hp → Prop, (∀ H', Nx H' → ∃ m', m' < m ∧ W (i + 1) m' H') ∧ ∀ x H', (ItzM K a b).yld i H x H' → g x (wipe σ vs) H' fun σ2 H2 => wipe σ2 vs = wipe σ vs ∧ tt σ2 H2 fun b H3 =>
        if b = true then te σ2 H3 fun y H4 => ∃ acc, H4 D = some (.lst acc) ∧ acc.length < sizeLine ∧ Nx (upd H4 D (.lst (acc ++ [y]))) else Nx H3) := by
  refine ⟨fun i m H => m = xs.length - i ∧ i ≤ xs.length ∧ Pv i H, ⟨xs.length, by omega, Nat.zero_le _, h0⟩, ?_⟩
  rintro i m H ⟨rfl, hi, p⟩
  obtain ⟨qx, qy⟩ := hl i H p
  by_cases c : i < xs.length
  · have hx : xs[i]? = some xs[i] := List.getElem?_eq_getElem c
    have hy : ys[i]? = some ys[i] := List.getElem?_eq_getElem (by omega)
    refine .inr ⟨⟨xs, ys, _, _, qx, qy, hx, hy⟩, Pv (i + 1), fun H' p' => ⟨xs.length - (i + 1), by omega, rfl, c, p'⟩, fun v H' yl => ?_⟩
    obtain ⟨T, x', y', rfl, hT, rfl, f1, f2⟩ := yl
    exact hs i x' y' T H (f1 xs qx) (f2 ys qy) p hT
  · have e : i = xs.length := by omega
    subst e
    exact .inl ⟨⟨xs, ys, qx, qy, .inl (Nat.le_refl _)⟩, hd H p⟩
end
/-! ### list.count over data -/
def rCntD (K : PySem.W.Frag) : V → List V → Hp → VK → Prop := fun x xs H Q => ∃ (p : Addr) (ys : List V) (ds : List PyData) (y : V) (d : PyData), x = .ref p ∧ xs = [y] ∧ SqL K H p ys ∧ DpAll K H ys ds ∧ Dp K H y d ∧ PyData.plainAll ds = true ∧ d.plain = true ∧ d.depth ≤ 10 ∧ Q (.int (ds.countP (fun e => PyData.eqv e d) : Nat)) H
theorem mt_dcount {X : Cx} (hu : X.A.units + 64 < cLine) : MtR X "list.count" (rCntD X.K) := by
  intro pins s σ H x xs v us Q I rx rxs h
  obtain ⟨p, ys, ds, y, d, rfl, rfl, hs, hd, hy, p1, p2, dl, q⟩ := h
  cases rx
  obtain ⟨u, rfl, ru⟩ := rxs.one
  obtain ⟨its, rv, hl, hlen⟩ := I.list hs
  obtain ⟨as, r1⟩ := Dp.readsAll I ds _ its hd rv
  obtain ⟨bs, r2⟩ := Dp.reads I d y u hy ru
  refine SeqAt.count_list_data hl.isList r1 r2 p1 p2 (by omega) ?_
  exact ⟨.int _, H, I.tok _, ⟨s.toks, rfl⟩, q⟩
theorem call_tupK {X : Cx} {K : PySem.W.Frag} (h : X.K = K) : CallR X (.type "tuple") (fun xs H Q => ∃ p ys, xs = [V.ref p] ∧ ((SqL K H p ys ∧ ∀ l : Addr, H l = none → Q (.ref l) (upd H l (.tup ys))) ∨ SqT K H p ys ∧ Q (.ref p) H)) := h ▸ call_tuple_of
/-! ### defs that may raise -/
/-- a def that may raise, called by its name -/
structure CalX (P : Program) (w : World) (K : PySem.W.Frag) (mg : Str → Option Value) (base : Heap) (x : Str) (k : Nat) (f : Addr) (ps : List Str) (sp : Sp) : Prop where
  ex : ∃ fd, FnOk P w K mg base (L2.CX P w) k f fd ps sp ∧ Binds K fd ps []
  g : mg x = some (.ref f)
  kp : PySem.W.keepIn K (.ref f) = true
theorem Dfn.calX {P : Program} {w : World} {K : PySem.W.Frag} {mg : Str → Option Value} {base : Heap} {x : Str} {st : Stmt} {f : Addr} {ps : List Str} {k : Nat} {sp : Sp} (D : Dfn K mg x st f ps) (h : ∀ fd, Fun K x x st f fd → FnOk P w K mg base (L2.CX P w) k f fd ps sp) : CalX P w K mg base x k f ps sp := by
  obtain ⟨fd, F, b⟩ := D.ex
  exact ⟨⟨fd, h fd F, b⟩, D.g, F.kp⟩
theorem pe_cX {X : Cx} {x : Str} {k : Nat} {f : Addr} {ps : List Str} {sp : Sp} {t : TA} {e : Expr} {es : List Expr} {p pos : Pos} {E : L2.St → XK} (c : CalX X.prog X.w X.K X.mg X.base x k f ps sp) (hr : Room k X.A) (hg : Gl X x) (hx : ∀ σ, L2.PassesAt (L2.CX X.prog X.w) X σ (E σ))
    (ha : PA X (e :: es) t) (hdb : (x == ("__debug__" : Str)) = false := by decide) (he : starEach (e :: es) X.env = (false, eval e X.env) :: starEach es X.env := by rfl) (hpl : (backTo pos (starEach es X.env)).any (·.1) = false := by rfl) :
    PE X (.Call (.Name x p) (e :: es) [] pos) (L2.tCallS sp E t) := by
  obtain ⟨fd, F, b⟩ := c.ex
  exact L2.pe_callS F hr hg c.g c.kp b hx ha hdb he hpl
/-- the making of an error with one field -/
def spEI1 (C : Addr) (f : Str) : Sp := fun vs H Q _ => ∃ a v, vs = [.ref a, v] ∧ H a = some (L2.exo a C none) ∧ ∀ dx, H dx = none → dx ≠ a → Q .non (upd (upd H dx (L2.exd dx [(f, v)])) a (L2.exo a C (some dx)))
theorem raise1 {C : Addr} {f : Str} {v : V} {H : Hp} {Q E : XK} (k : ∀ d H', H' d = some (.xd [(f, v)]) → Same H H' → Q (.ref C) (some d) H') : ∀ a, H a = none → spEI1 C f [.ref a, v] (upd H a (L2.exo a C none))
    (fun u H2 => u = .non ∧ ∃ (d : Addr) (fs : List (Str × V)), H2 a = some (L2.exo a C (some d)) ∧ H2 d = some (L2.exd d fs) ∧ H d = none ∧ Q (.ref C) (some d) (upd (L2.del H2 a) d (.xd fs))) E := fun a na => by
  refine ⟨a, v, rfl, upd_same, fun dx nx ne => ⟨rfl, dx, [(f, v)], upd_same, by rw [upd_ne ne, upd_same], by rwa [upd_ne ne] at nx, k dx _ upd_same fun b o e => ?_⟩⟩
  rw [upd_ne ne] at nx
  have ba : b ≠ a := ne_of_none e na
  have bd : b ≠ dx := ne_of_none e nx
  rw [upd_ne bd, L2.del_ne ba, upd_ne ba, upd_ne bd, upd_ne ba]
  exact e
/-- in a suite the term may not speak of the suite's own context -/
theorem ix_listK {X : Cx} {K : PySem.W.Frag} (hK : X.K = K) : IxR X (rIxL K) := by
  subst hK
  exact ix_list
theorem mt_dcountK {X : Cx} {K : PySem.W.Frag} (hK : X.K = K) (hu : X.A.units + 64 < cLine) : MtR X "list.count" (rCntD K) := by
  subst hK
  exact mt_dcount hu
/-! ### a suite that is told of any error of the text -/
def rIsZ (K : PySem.W.Frag) (a : Addr) (cls : Value) (d : Option Addr) : List V → Hp → VK → Prop := fun xs H Q => ∃ D dd : Addr, cls = .ref D ∧ d = some dd ∧ IsC K D ∧ rIsX K D a dd xs H Q
theorem call_isZ {X : Cx} {K : PySem.W.Frag} {a : Addr} {cls : Value} {d : Option Addr} {oe : Obj} {pn : List (Addr × Obj)} (hK : X.K = K) (hz : L2.Zc cls d oe) (hf : ∃ vs, oe.data = .fields vs) : CallR (X.suite a ((a, oe) :: pn)) (.builtin "isinstance") (rIsZ K a cls d) := by
  subst hK
  rintro pins s σ H xs us Q I r ⟨D, dd, rfl, rfl, T, h⟩
  exact call_isX T hz hf pins s σ H xs us Q I r h
def rIsTZ (K : PySem.W.Frag) (a : Addr) (cls : Value) (d : Option Addr) : List V → Hp → VK → Prop := fun xs H Q => ∃ D : Addr, IsC K D ∧ rIsT K D a cls d xs H Q
theorem call_isTZ {X : Cx} {K : PySem.W.Frag} {a : Addr} {cls : Value} {d : Option Addr} {oe : Obj} {pn : List (Addr × Obj)} (hK : X.K = K) (hz : L2.Zc cls d oe) (hf : ∃ vs, oe.data = .fields vs) : CallR (X.suite a ((a, oe) :: pn)) (.builtin "isinstance") (rIsTZ K a cls d) := by
  subst hK
  rintro pins s σ H xs us Q I r ⟨D, T, h⟩
  exact call_isT T hz hf pins s σ H xs us Q I r h
def tXfZ (K : PySem.W.Frag) (a : Addr) (cls : Value) (d : Option Addr) (f : Str) (te : TE) : TE := fun σ H Q => ∃ C : Addr, L2.XfC K C ∧ PySem.W.findIn K (.ref C) f = some none ∧ L2.tXf a cls d C f te σ H Q
theorem pe_xfZ {X : Cx} {K : PySem.W.Frag} {a : Addr} {oe : Obj} {cls : Value} {d : Option Addr} {pn : List (Addr × Obj)} {e : Expr} {te : TE} {pos : Pos} {n : Str} (hK : X.K = K) (hz : L2.Zc cls d oe) (hf : ∃ vs, oe.data = .fields vs) (he : PE (X.suite a ((a, oe) :: pn)) e te) (hb : attributeBase e n X.env (eval e X.env) = eval e X.env := by rfl) :
    PE (X.suite a ((a, oe) :: pn)) (.Attribute e n pos) (tXfZ K a cls d n te) := by
  subst hK
  refine ⟨fun pins s σ H Q I ⟨C, T, no, h⟩ => ?_⟩
  exact (L2.pe_xf T no hz hf he hb).run pins s σ H Q I h
/-- a method of a builtin, the term over a K of its own -/
theorem pe_bmK {X : Cx} {K : PySem.W.Frag} {o e : Expr} {es : List Expr} {to : TE} {t : TA} {name : Str} {apos cpos : Pos} {T id : String} {r : V → List V → Hp → VK → Prop} (hK : X.K = K) (pa : PlainAttrs T) (slot : Slot T name id) (hty : typeOf (.builtin id) = pure (.type "method_descriptor")) (hm : L2.MtR X id r) (ho : PE X o to) (ha : PA X (e :: es) t)
    (hbase : attributeBase o name X.env (eval o X.env) = eval o X.env := by rfl)
    (hfew : ((backTo cpos (starEach (e :: es) X.env)).all (fun x => !x.1) && (backToKw cpos (keywordEach [] X.env)).all (fun x => x.1.isSome) && decide ((e :: es).length + ([] : List Keyword).length + (if ([] : List Keyword).isEmpty then 0 else 1) < 30)) = true := by rfl)
    (hline : (apos.endLine == cpos.line) = true := by rfl) (hs : starEach (e :: es) X.env = (false, eval e X.env) :: starEach es X.env := by rfl) (hplain : (backTo cpos (starEach es X.env)).any (·.1) = false := by rfl) :
    PE X (.Call (.Attribute o name apos) (e :: es) [] cpos) (L2.tBM K T r to t) := by
  subst hK
  exact pe_bm pa slot hty hm ho ha hbase hfew hline hs hplain
theorem clsIn_of {K : PySem.W.Frag} {B : Addr} (h : PySem.W.hasDictIn K B = true) : (PySem.W.clsIn K B).isSome = true := by
  obtain ⟨cd, hc, _⟩ := PySem.W.any_some h
  rw [hc] <;> rfl
/-- whether the error D is a B -/
theorem kit_of {K : PySem.W.Frag} {D B : Addr} {b : Bool} (xB : L2.XfC K B) (tB : PySem.W.typeIn K (.ref B) = some (.type "type")) (sd : PySem.W.subIn K (.ref D) (.ref D) = some true) (s : PySem.W.subIn K (.ref D) (.ref B) = some b) : PySem.W.kitOne K (.ref D) (.ref B) = some b := by
  unfold PySem.W.kitOne
  by_cases e : D = B
  · subst e
    rw [sd] at s
    rw [if_pos (beq_self_eq_true _)]
    exact s
  · rw [if_neg (by simpa using e)]
    have e2 : ((PySem.W.clsIn K B).isSome && PySem.W.typeIn K (.ref B) == some (.type "type")) = true := by rw [clsIn_of xB.hdC, tB] <;> rfl
    show (if ((PySem.W.clsIn K B).isSome && PySem.W.typeIn K (.ref B) == some (.type "type")) = true then PySem.W.subIn K (.ref D) (.ref B) else none) = some b
    rw [if_pos e2]
    exact s
theorem kit_ar {K : PySem.W.Frag} {D : Addr} {b : Bool} {x : String} (hm : PySem.W.kitMeta x = true) (s : PySem.W.subIn K (.ref D) (.type x) = some b) : PySem.W.kitOne K (.ref D) (.type x) = some b := by
  unfold PySem.W.kitOne
  rw [if_neg (by intro z; exact absurd (beq_iff_eq.mp z) (by intro q; cases q))]
  show (if PySem.W.kitMeta x = true then PySem.W.subIn K (.ref D) (.type x) else none) = some b
  rw [if_pos hm]
  exact s
/-- the text of repr, of what has a plain one -/
inductive ReprV : V → Str → Prop
  | int (i : Int) (h : i.natAbs.log2 < 1920) : ReprV (.int i) (toString i : String)
  | non : ReprV .non "None"
  | bl (b : Bool) : ReprV (.bl b) (if b then "True" else "False")
  | str (x : Str) (h : (reprText x).length ≤ sizeLine) : ReprV (.str x) (reprText x)
theorem call_reprP {X : Cx} : CallR X (.builtin "repr") (fun xs H Q => ∃ v s, xs = [v] ∧ ReprV v s ∧ Q (.str s) H) := by
  rintro pins s σ H xs us Q I r ⟨v, x, rfl, h, q⟩
  match us, r with
  | [_], .cons rx .nil =>
    cases h with
    | int i h =>
      obtain ⟨t, rfl⟩ := rx
      exact PySem.P.repr_of_int h ⟨.str _, H, I.tok _, ⟨_, rfl⟩, q⟩
    | non =>
      cases rx
      exact PySem.P.repr_of_none ⟨.str _, H, I.tok _, ⟨_, rfl⟩, q⟩
    | bl b =>
      cases rx
      cases b <;> exact PySem.P.repr_of_bool ⟨.str _, H, I.tok _, ⟨_, rfl⟩, q⟩
    | str x h =>
      obtain ⟨t, rfl⟩ := rx
      exact PySem.P.repr_of_str ⟨.str _, H, I.tok _, ⟨_, rfl⟩, q⟩ h
theorem exm_of {K : PySem.W.Frag} {D B : Addr} {b : Bool} (xB : L2.XfC K B) (tB : PySem.W.typeIn K (.ref B) = some (.type "type")) (s : PySem.W.subIn K (.ref D) (.ref B) = some b) : PySem.W.exmOne K (.ref D) (.ref B) = some b := by
  unfold PySem.W.exmOne
  rw [if_pos (by rw [xB.exC] <;> rfl)]
  have e2 : ((PySem.W.clsIn K B).isSome && PySem.W.typeIn K (.ref B) == some (.type "type")) = true := by rw [clsIn_of xB.hdC, tB] <;> rfl
  show (if ((PySem.W.clsIn K B).isSome && PySem.W.typeIn K (.ref B) == some (.type "type")) = true then PySem.W.subIn K (.ref D) (.ref B) else none) = some b
  rw [if_pos e2]
  exact s
/-! ### defs in which lambdas are made -/
theorem DfnT.cal {P : Program} {w : World} {K : PySem.W.Frag} {mg : Str → Option Value} {base : Heap} {x : Str} {st : Stmt} {f c : Addr} {ps : List Str} {k : Nat} {sp : Sp} (D : DfnT K mg x st f c ps) (h : ∀ fd, FunT K x x st f c fd → FnOk P w K mg base CX0 k f fd ps sp) : Cal P w K mg base x k f ps sp := by
  obtain ⟨fd, F, b⟩ := D.ex
  exact ⟨⟨fd, h fd F, b⟩, D.g, F.kp⟩
/-- x(lambda: body), x a def of the text -/
theorem pe_lamc {X : Cx} {T : List (Addr × Str)} {TT : (XK → Hp → VK → Prop) → Hp → VK → Prop} {x a : Str} {g c P : Addr} {k : Nat} {st : Stmt} {Ng : List Str} {params : Arguments} {body : Expr} {scope : Scope} {t : XK → TE} {p lpos pos : Pos} (D : Dfn X.K X.mg x st g [a]) (Sg : FnScope Ng [a] (defScope st)) (hNg : Ng[0]? = some a) (hva : L2.Vis (defScope st) a)
    (hG : ∀ cdv : Value, LamX.GivesTo X Ng x (defScope st) g cdv (defBody st) a (X.env.qual ++ "<lambda>") TT) (TB : LamX.TabB X.base X.mg c P) (hcode : X.env.code = .ref c) (hmT : (P, X.env.qual ++ "<lambda>") ∈ T) (hu : ∀ p ∈ T, p.1 = P → p.2 = X.env.qual ++ "<lambda>") (hr : Room (k + 2) X.A) (Ls : LamX.LamS X.env.scope scope) (hdef : defaultsOf params X.env = ([], []))
    (hbind : ∀ (q : Str) (cl : List (Str × Addr)) (pm cv ctv : Value), bindArgs (PySem.W.kla_fn "<lambda>" q params body scope cl pm cv ctv) ⟨[], []⟩ = pure [])
    (hbody : ∀ (A : Around) (outer : List Env) (s : Shared) (H : Hp) (E : XK) (f c' : Addr), Room k (A.deeper (LamX.lamEnv X scope s.heap.objs.size f c')) → PE (LamX.lamCx X A outer s H E scope f c') body (t E))
    (hg : Gl X x := by rfl) (hdb : (x == ("__debug__" : Str)) = false := by decide) (hd : (a == ("__debug__" : Str)) = false := by decide) (hcd : (a == ("__classdict__" : Str)) = false := by decide) :
    PE X (.Call (.Name x p) [.Lambda params body scope lpos] [] pos) (LamX.tLam T TT t) := by
  obtain ⟨fd, F, b⟩ := D.ex
  obtain ⟨oc, od, kV, doc, pm, an, cdv, ct, osl, rfl, lk, hc⟩ := F.ex
  exact LamX.pe_lamcall hg D.g F.kp lk hc b Sg hNg hva (hG cdv) TB hcode hmT hu hr Ls hdef hbind hbody hdb hd hcd
/-- what stays of a heap over calls that make lambdas -/
theorem ExtN.lst {H H' : Hp} (e : LamX.ExtN H H') {a : Addr} {xs : List V} (h : H a = some (.lst xs)) : H' a = some (.lst xs) := e _ _ h fun _ z => nomatch z
theorem mk_dfnT {K : PySem.W.Frag} {h : Heap} {mg : Str → Option Value} {x : Str} {st : Stmt} {f c : Addr} {oc : Value} {od an : Option Addr} {osl : Array (Option Value)} {kV doc pm ct : Value} {ps : List Str} (X : K.In h) (G : h.Ns mainGlobals mg) (g : PySem.W.nsIn K mainGlobals x = some (some (.ref f)))
    (l : K.lookup f = some ⟨oc, od, .func (PySem.W.fnOf x x (defArgs st) (defBody st) (defScope st) .none kV doc pm an (.ref c) ct), osl⟩) (cd : PySem.W.codeIn K (.ref c) x = true) (k : PySem.W.keepIn K (.ref f) = true)
    (hb : ∀ (kV doc pm : Value) (an : Option Addr) (cdv ct : Value) (us : List Value), us.length = ps.length → bindArgs (PySem.W.fnOf x x (defArgs st) (defBody st) (defScope st) .none kV doc pm an cdv ct) ⟨us, []⟩ = pure (ps.zip us)) : DfnT K mg x st f c ps :=
  ⟨⟨_, ⟨⟨oc, od, kV, doc, pm, an, ct, osl, rfl, l, cd⟩, k⟩, .all (hb kV doc pm an (.ref c) ct)⟩, PySem.W.mg_of X G g⟩
/-- what the end knows of a table and its code object -/
def TabE (K : PySem.W.Frag) (h : Heap) (c P : Addr) : Prop := h.get? P = some { cls := .none, data := .fields #[] } ∧ PySem.W.codeHdIn K c P = true ∧ K.lookup P = none
theorem tabE_of {K : PySem.W.Frag} {h : Heap} {c P : Addr} (h1 : h.get? P = some (PySem.W.tabObj #[])) (h2 : PySem.W.codeHdIn K c P = true) (h3 : K.lookup P = none) : TabE K h c P := ⟨h1, h2, h3⟩
/-! ### the making of errors -/
def spEI2 (C : Addr) (f g : Str) : Sp := fun vs H Q _ => ∃ a v u, vs = [.ref a, v, u] ∧ H a = some (L2.exo a C none) ∧ ∀ dx, H dx = none → dx ≠ a → Q .non (upd (upd (upd H dx (L2.exd dx [(f, v)])) a (L2.exo a C (some dx))) dx (L2.exd dx [(g, u), (f, v)]))
section
variable {P : Program} {w : World} {K : PySem.W.Frag} {mg : Str → Option Value} {base : Heap} {L : LA}
abbrev N_InvalidRowinit : List Str := ["self", "part", "at"]
theorem sc_InvalidRowinit : FnScope N_InvalidRowinit ["self", "part", "at"] (defScope st_InvalidRow_init) := ⟨rfl, rfl, rfl, by decide +kernel, rfl, by decide +kernel, by decide +kernel⟩
theorem fn_InvalidRowinit (T : LX K mg L) {fd : FuncData} (F : Fun K "__init__" "InvalidRow.__init__" st_InvalidRow_init L.i_InvalidRow fd) : FnOk P w K mg base CX0 1 L.i_InvalidRow fd ["self", "part", "at"] (spEI2 L.e_InvalidRow "part" "at") := by
  have nd := sc_InvalidRowinit.nd
  refine F.ok sc_InvalidRowinit (fun vs H Q E h => ?_) (fun cdv A outer S H vs Q E hr h => ?_)
  · obtain ⟨a, v, v2, rfl, _⟩ := h
    rfl
  · obtain ⟨a, v, v2, rfl, ha, k⟩ := h
    refine ⟨_, (pss_cons (ps_ae (pv 0) (pv 1))
       (pss_one (ps_ae (pv 0) (pv 2)))), ?_⟩
    exact ⟨_, rfl, _, rfl, a, L.e_InvalidRow, rfl, T.ae_InvalidRow, T.ne_InvalidRow_part, .inl ⟨ha, fun dx nx ne => ⟨_, rfl, _, rfl, a, L.e_InvalidRow, rfl, T.ae_InvalidRow, T.ne_InvalidRow_at, .inr ⟨dx, _, upd_same, by rw [upd_ne ne, upd_same], (by show 1 ≤ 900; decide), k dx nx ne⟩⟩⟩⟩
end
theorem mk_InvalidRow {X : Cx} {L : LA} (T : LX X.K X.mg L) (hr : Room 2 X.A) {e e2 : Expr} {ta : TA} {p pos : Pos} (hg : Gl X "InvalidRow") (ha : PA X [e, e2] ta)
    (he : starEach (e :: [e2]) X.env = (false, eval e X.env) :: starEach [e2] X.env := by rfl) (hpl : (backTo pos (starEach [e2] X.env)).any (·.1) = false := by rfl) :
    L2.PMk X (.Call (.Name "InvalidRow" p) [e, e2] [] pos) (L2.tMkO L.e_InvalidRow (spEI2 L.e_InvalidRow "part" "at") [] ta) := by
  obtain ⟨fd, F, b⟩ := T.in_InvalidRow
  exact pmk_ae T.ae_InvalidRow T.hi_InvalidRow T.ti_InvalidRow (fn_InvalidRowinit T F) hr b .nil pass0 hg T.ge_InvalidRow ha (by decide) he hpl
section
variable {P : Program} {w : World} {K : PySem.W.Frag} {mg : Str → Option Value} {base : Heap} {L : LA}
abbrev N_InvalidLoginit : List Str := ["self", "at"]
theorem sc_InvalidLoginit : FnScope N_InvalidLoginit ["self", "at"] (defScope st_InvalidLog_init) := ⟨rfl, rfl, rfl, by decide +kernel, rfl, by decide +kernel, by decide +kernel⟩
theorem fn_InvalidLoginit (T : LX K mg L) {fd : FuncData} (F : Fun K "__init__" "InvalidLog.__init__" st_InvalidLog_init L.i_InvalidLog fd) : FnOk P w K mg base CX0 1 L.i_InvalidLog fd ["self", "at"] (spEI1 L.e_InvalidLog "at") := by
  have nd := sc_InvalidLoginit.nd
  refine F.ok sc_InvalidLoginit (fun vs H Q E h => ?_) (fun cdv A outer S H vs Q E hr h => ?_)
  · obtain ⟨a, v, rfl, _⟩ := h
    rfl
  · obtain ⟨a, v, rfl, ha, k⟩ := h
    refine ⟨_, (pss_one (ps_ae (pv 0) (pv 1))), ?_⟩
    exact ⟨_, rfl, _, rfl, a, L.e_InvalidLog, rfl, T.ae_InvalidLog, T.ne_InvalidLog_at, .inl ⟨ha, fun dx nx ne => k dx nx ne⟩⟩
end
theorem mk_InvalidLog {X : Cx} {L : LA} (T : LX X.K X.mg L) (hr : Room 2 X.A) {e : Expr} {ta : TA} {p pos : Pos} (hg : Gl X "InvalidLog") (ha : PA X [e] ta)
    (he : starEach (e :: []) X.env = (false, eval e X.env) :: starEach [] X.env := by rfl) (hpl : (backTo pos (starEach [] X.env)).any (·.1) = false := by rfl) :
    L2.PMk X (.Call (.Name "InvalidLog" p) [e] [] pos) (L2.tMkO L.e_InvalidLog (spEI1 L.e_InvalidLog "at") [] ta) := by
  obtain ⟨fd, F, b⟩ := T.in_InvalidLog
  exact pmk_ae T.ae_InvalidLog T.hi_InvalidLog T.ti_InvalidLog (fn_InvalidLoginit T F) hr b .nil pass0 hg T.ge_InvalidLog ha (by decide) he hpl

/-! ### repr of plain lists, tuples and of the empty dict, whatever the guards are -/
theorem codeAny_guards {M : Model} {A : Around} {c : Code} {R : Result → Shared → Prop} {s : Shared} (h : ∀ g, codeAny M { A with guards := some g } c R s) : codeAny M A c R s := fun Γ p hc hb =>
  h (guardsOf Γ.below) Γ p hc ⟨hb.1, hb.2.1, hb.2.2.1, fun g' e => by cases e; rfl, hb.2.2.2.2⟩
def listGF (self : Value) : Code × Pos → Bool := fun
  | (.builtin "list.__repr__.loop" ⟨v :: _, _⟩, _) => Builtin.List.listSameRef v self
  | _ => false
theorem listGF_cons (self : Value) (id : String) (v : Value) (rest : List Value) (kw : List (Str × Value)) (p : Pos) : listGF self (.builtin id ⟨v :: rest, kw⟩, p) = (decide (id = "list.__repr__.loop") && Builtin.List.listSameRef v self) := by
  by_cases h : id = "list.__repr__.loop"
  · subst h
    simp [listGF]
  · unfold listGF
    split
    · simp_all
    · simp [h]
theorem listGF_nil (self : Value) (id : String) (kw : List (Str × Value)) (p : Pos) : listGF self (.builtin id ⟨[], kw⟩, p) = false := by
  unfold listGF
  split <;> simp_all
theorem listGF_pos (self : Value) (c : Code) (p : Pos) : listGF self (c, p) = listGF self (c, default) := by
  cases c with
  | builtin id args =>
    obtain ⟨pos, kw⟩ := args
    cases pos with
    | nil => rw [listGF_nil, listGF_nil]
    | cons v rest => rw [listGF_cons, listGF_cons]
  | _ => rfl
theorem listGF_off (self : Value) (c : Code) (p : Pos) (hc : c.isGuard = false) : listGF self (c, p) = false := by
  cases c with
  | builtin id args =>
    obtain ⟨pos, kw⟩ := args
    cases pos with
    | nil => exact listGF_nil _ _ _ _
    | cons v rest =>
      simp [Code.isGuard, guardIds] at hc
      rw [listGF_cons]
      simp [hc]
  | _ => rfl
def listHit (g : List Code) (a : Addr) : Bool := g.any fun c => listGF (.ref a) (c, default)
def tupHit (g : List Code) (a : Addr) : Bool := g.any fun c => tupGuardF (.ref a) (c, default)
def dictHit (g : List Code) (a : Addr) : Bool := g.any fun c => dictGuardF (.ref a) (c, default)
section
variable {prog : Program} {w : World} {A : Around} {E : Value → Shared → Prop} {s : Shared} {a : Addr} {g : List Code}
theorem own_list_repr {Q : Fin → Shared → Prop} {o : Obj} {x : Value} {l : List Value} {n : Nat} {c : Code} {b : Nat} (hg : A.guards = some g) (hget : s.heap.get? a = some o) (hd : o.data = .seq (x :: l).toArray n)
    (h1 : listHit g a = true → Q (.done (.ret (.str "[...]" s.toks))) { s with toks := s.toks + 1 })
    (h2 : listHit g a = false → wpAny (model prog w) (A.under c) (do again (.builtin "list.__repr__.loop" ⟨[.ref a, rawInt 0, ← newList [], rawInt b], []⟩)) Q E s) :
    wpOwn (model prog w) A c (Builtin.listReprAt b ⟨[.ref a], []⟩) Q E s := by
  intro Γ p hc hb
  have e : Γ.below.any (listGF (.ref a)) = listHit g a := by
    rw [any_eq_guards (listGF_off _) (listGF_pos _), hb.2.2.2.1 g hg]
    rfl
  unfold Builtin.listReprAt
  simp [slotArgs, Builtin.List.listItems, seqItems?, Sem.wp_load_of (h := hget), hd, stack]
  show Sem.wp (model prog w) Γ (if (Γ.below.any (listGF (.ref a))) = true then _ else _) _ _ p s
  rw [e]
  cases q : listHit g a with
  | true =>
    rw [if_pos rfl]
    simp [rule, retStr, ret]
    exact h1 q
  | false =>
    rw [if_neg Bool.false_ne_true]
    exact h2 q Γ p (hc ▸ hb.in)
theorem call_list_flat {Q : Value → Shared → Prop} {oa : Obj} {x : Value} {l : List Value} {na : Nat} {ts : List Str} (hTy : s.TypeIs (.ref a) "list") (hg : A.guards = some g)
    (ha : s.heap.get? a = some oa) (hda : oa.data = .seq (x :: l).toArray na) (hlen : ts.length = (x :: l).toArray.size)
    (hT : ∀ (i : Nat) (y : Value), (x :: l).toArray[i]? = some y → ∃ t, ts[i]? = some t ∧ ReprIs prog w y t)
    (hQ : ∀ h' u tk, (∀ b o, s.heap.get? b = some o → h'.get? b = some o) → Q (.str (if listHit g a then "[...]" else listText ts) u) { s with heap := h', toks := tk })
    (hsz : (listText ts).length ≤ sizeLine) : wpAny (model prog w) A (call (.builtin "list.__repr__") [.ref a]) Q E s := by
  refine wpAny_call (codeAny_call_builtin_own (Code.quiet_builtin _ (by decide +kernel)) F.entry_list_repr (F.slot_list_repr.check _ _ _ _ _ _ _ _ hTy (F.args_list_repr_1 _) (own_list_repr (b := 0) hg ha hda (fun q => ?_) fun q => ?_)))
  · have := hQ s.heap s.toks (s.toks + 1) fun _ _ z => z
    rw [q, if_pos rfl] at this
    exact this
  · have hQ : ∀ h' u tk, (∀ b o, s.heap.get? b = some o → h'.get? b = some o) → Q (.str (listText ts) u) { s with heap := h', toks := tk } := fun h' u tk k => by
      have := hQ h' u tk k
      rw [q, if_neg Bool.false_ne_true] at this
      exact this
    refine wpAny_bind (m := newList []) (wpAny_newObj_type ?_)
    refine wpAny_pure ⟨F.quiet_list_repr_loop _, ?_⟩
    exact codeAny_list_repr_start (P := s.heap.objs.size) (Nat.ne_of_lt (Heap.lt_size ha)) hlen hT (Heap.get?_push_of_some _ ha) hda (Heap.get?_push_size _ rfl) (fun h' u tk k => hQ h' u tk fun b o z => k b o (Nat.ne_of_lt (Heap.lt_size z)) (Heap.get?_push_of_some _ z)) (by omega)
theorem call_tup_flat {Q : Value → Shared → Prop} {o : Obj} {items : Array Value} {n : Nat} {ts : List Str} (hTy : s.TypeIs (.ref a) "tuple") (hg : A.guards = some g) (ha : s.heap.get? a = some o) (hd : o.data = .seq items n) (hT : ReprAll prog w items.toList ts)
    (hQ : ∀ u tk, Q (.str (if tupHit g a then "(...)" else tupleText ts) u) { s with toks := tk }) (hsz : (tupleText ts).length ≤ sizeLine) : wpAny (model prog w) A (call (.builtin "tuple.__repr__") [.ref a]) Q E s := by
  refine wpAny_call (codeAny_call_builtin_own (Code.quiet_builtin _ (by decide +kernel)) F.entry_tuple_repr (F.slot_tuple_repr.check _ _ _ _ _ _ _ _ hTy (F.args_tuple_repr_1 _) ?_))
  show wpOwn _ _ _ (Builtin.tupleReprAt 0 ⟨[.ref a], []⟩) _ _ _
  rw [tuple_repr_tree, tupleReprUnderWay_eq]
  refine wpOwn_bind (wpOwn_stackTailAny hg (tupGuardF_off _) (tupGuardF_pos _) ?_)
  cases q : (g.any fun c => tupGuardF (.ref a) (c, default)) with
  | true =>
    have q : tupHit g a = true := q
    rw [if_pos rfl]
    refine wpOwn_of_wpAny ?_
    have := hQ s.toks (s.toks + 1)
    rw [q, if_pos rfl] at this
    intro Γ p hΓ
    simp [rule, retStr, ret]
    exact this
  | false =>
    have q : tupHit g a = false := q
    rw [if_neg Bool.false_ne_true]
    refine wpOwn_of_wpAny (wpAny_tupleReprRest ha hd hT (fun u tk => ?_) (by omega))
    have := hQ u tk
    rw [q, if_neg Bool.false_ne_true] at this
    exact this
end
theorem call_dict_flat {prog : Program} {w : World} {A : Around} {E : Value → Shared → Prop} {s : Shared} {a : Addr} {g : List Code} {Q : Value → Shared → Prop} {o : Obj} {n : Nat} (hTy : s.TypeIs (.ref a) "dict") (hg : A.guards = some g) (ha : s.heap.get? a = some o) (hd : o.data = .dict #[] n) (hsys : (a == sysModules) = false)
    (hQ : ∀ u tk, Q (.str (if dictHit g a then "{...}" else "{}") u) { s with toks := tk }) : wpAny (model prog w) A (call (.builtin "dict.__repr__") [.ref a]) Q E s := by
  refine wpAny_call (codeAny_call_builtin_own (Code.quiet_builtin _ (by decide +kernel)) F.entry_dict_repr (F.slot_dict_repr.check _ _ _ _ _ _ _ _ hTy (F.args_dict_repr_1 _) ?_))
  show wpOwn _ _ _ (Builtin.dictReprAt 0 ⟨[.ref a], []⟩) _ _ _
  unfold Builtin.dictReprAt
  refine wpOwn_bind (wpOwn_of_wpAny ?_)
  unfold Builtin.Dict.dictSlotNone
  refine wpAny_bind (wpAny_notOrdered_dict hTy ?_)
  show wpAny _ _ (pure (Value.ref a)) _ _ s
  refine wpAny_pure ?_
  rw [dictReprRunning_eq]
  refine wpOwn_bind (wpOwn_stackTailAny hg (dictGuardF_off _) (dictGuardF_pos _) ?_)
  cases q : (g.any fun c => dictGuardF (.ref a) (c, default)) with
  | true =>
    have q : dictHit g a = true := q
    rw [if_pos rfl]
    refine wpOwn_of_wpAny ?_
    have := hQ s.toks (s.toks + 1)
    rw [q, if_pos rfl] at this
    intro Γ p hΓ
    simp [rule, retStr, ret]
    exact this
  | false =>
    have q : dictHit g a = false := q
    rw [if_neg Bool.false_ne_true]
    refine wpOwn_of_wpAny ?_
    show wpAny _ _ (Builtin.Dict.addrOf (.ref a) >>= _) _ _ s
    refine wpAny_bind (wpAny_pure ?_)
    show wpAny _ _ (Builtin.Dict.showsAll a >>= _) _ _ s
    unfold Builtin.Dict.showsAll
    rw [if_neg (by rw [hsys]; exact Bool.false_ne_true)]
    refine wpAny_bind (wpAny_pure ?_)
    refine wpAny_bind (wpAny_dictEpoch ha hd ?_)
    refine wpAny_bind (wpAny_dictEntries ha hd ?_)
    have := hQ s.toks (s.toks + 1)
    rw [q, if_neg Bool.false_ne_true] at this
    intro Γ p hΓ
    simp [rule, retStr, ret]
    exact this
/-! ### repr as a rule of the hand layer -/
inductive ReprG (g : List Code) (H : Hp) : V → Str → Prop
  | plain {v : V} {s : Str} (h : ReprV v s) : ReprG g H v s
  | lst {a : Addr} {x : V} {xs : List V} {ts : List Str} (e : H a = some (.lst (x :: xs))) (h : Paired ReprV (x :: xs) ts) (z : (listText ts).length ≤ sizeLine) : ReprG g H (.ref a) (if listHit g a then "[...]" else listText ts)
  | tup {a : Addr} {xs : List V} {ts : List Str} (e : H a = some (.tup xs)) (h : Paired ReprV xs ts) (z : (tupleText ts).length ≤ sizeLine) : ReprG g H (.ref a) (if tupHit g a then "(...)" else tupleText ts)
  | dic {a : Addr} (e : H a = some (.dK [])) : ReprG g H (.ref a) (if dictHit g a then "{...}" else "{}")
theorem ReprV.one {v : V} {s s' : Str} (h : ReprV v s) (h' : ReprV v s') : s = s' := by
  cases h <;> cases h' <;> rfl
theorem reprs_one {xs : List V} {ts us : List Str} (h : Paired ReprV xs ts) : Paired ReprV xs us → ts = us := by
  induction h generalizing us with
  | nil => intro h'; cases h'; rfl
  | cons a _ ih => intro h'; cases h' with | cons b t => rw [a.one b, ih t]
theorem ReprG.one {g : List Code} {H : Hp} {v : V} {s s' : Str} (h : ReprG g H v s) (h' : ReprG g H v s') : s = s' := by
  cases h with
  | plain h =>
    cases h' with
    | plain h' => exact h.one h'
    | _ => cases h
  | lst e h z =>
    cases h' with
    | plain h' => cases h'
    | lst e' h' z' =>
      rw [e] at e'
      cases e'
      rw [reprs_one h h']
    | tup e' => rw [e] at e'; cases e'
    | dic e' => rw [e] at e'; cases e'
  | tup e h z =>
    cases h' with
    | plain h' => cases h'
    | lst e' => rw [e] at e'; cases e'
    | tup e' h' z' =>
      rw [e] at e'
      cases e'
      rw [reprs_one h h']
    | dic e' => rw [e] at e'; cases e'
  | dic e =>
    cases h' with
    | plain h' => cases h'
    | lst e' => rw [e] at e'; cases e'
    | tup e' => rw [e] at e'; cases e'
    | dic e' => rfl
theorem ReprG.mv {g : List Code} {H H' : Hp} {v : V} {s : Str} (h : ReprG g H v s) (k : ∀ a o, v = .ref a → H a = some o → (∀ ps, o ≠ .tbl ps) → H' a = some o) : ReprG g H' v s := by
  cases h with
  | plain h => exact .plain h
  | lst e h z => exact .lst (k _ _ rfl e fun _ q => nomatch q) h z
  | tup e h z => exact .tup (k _ _ rfl e fun _ q => nomatch q) h z
  | dic e => exact .dic (k _ _ rfl e fun _ q => nomatch q)
theorem ReprV.is {prog : Program} {w : World} {v : V} {s : Str} {u : Value} (h : ReprV v s) (r : RelV v u) : ReprIs prog w u s := by
  cases h with
  | int i h =>
    obtain ⟨t, rfl⟩ := r
    exact ReprIs.int t h
  | non =>
    cases r
    exact ReprIs.none
  | bl b =>
    cases r
    cases b
    · exact ReprIs.bool false
    · exact ReprIs.bool true
  | str x h =>
    obtain ⟨t, rfl⟩ := r
    exact ReprIs.str x t h
theorem reprs_is {prog : Program} {w : World} : ∀ {xs : List V} {ts : List Str} {us : List Value}, Paired ReprV xs ts → Vals xs us → ReprAll prog w us ts
  | _, _, _, .nil, .nil => .nil
  | _, _, _, .cons h t, .cons r rs => .cons (h.is r) (reprs_is t rs)
theorem reprs_len {xs : List V} {ts : List Str} (h : Paired ReprV xs ts) : xs.length = ts.length := by
  induction h with
  | nil => rfl
  | cons _ _ ih => rw [List.length_cons, List.length_cons, ih]
theorem reprs_at {prog : Program} {w : World} : ∀ {us : List Value} {ts : List Str}, ReprAll prog w us ts → ∀ (i : Nat) (y : Value), us[i]? = some y → ∃ t, ts[i]? = some t ∧ ReprIs prog w y t
  | _, _, .nil, i, y, h => by simp at h
  | _, _, .cons h _, 0, y, e => by
    cases e
    exact ⟨_, rfl, h⟩
  | _, _, .cons _ t, i + 1, y, e => reprs_at t i y e
theorem call_reprG {X : Cx} {g : List Code} (hg : X.A.guards = some g) (hu : X.A.units + 64 < cLine) : CallR X (.builtin "repr") (fun xs H Q => ∃ v s, xs = [v] ∧ ReprG g H v s ∧ Q (.str s) H) := by
  rintro pins s σ H xs us Q I r ⟨v, x, rfl, h, q⟩
  cases h with
  | plain h => exact call_reprP pins s σ H [v] us Q I r ⟨v, x, rfl, h, q⟩
  | @lst a y ys ts e h z =>
    match us, r with
    | [_], .cons rx .nil =>
      cases rx
      obtain ⟨_, its, n, rv, ho⟩ := I.hok a _ e
      have hTy : s.TypeIs (.ref a) "list" := ⟨_, ho, rfl⟩
      cases rv with
      | cons r1 rs =>
        have ra := reprs_is (prog := X.prog) (w := X.w) h (.cons r1 rs)
        refine PySem.call_repr_slot (by omega) hTy F.slot_list_repr.toG (call_list_flat hTy hg ho rfl (by rw [← reprs_len h]; simp [rs.length]) (fun i y' hy => reprs_at ra i y' (by simpa using hy)) (fun h' u tk k => ⟨_, _, rfl, ⟨.str _, H, I.kept k, ⟨_, rfl⟩, q⟩⟩) z)
  | @tup a ys ts e h z =>
    match us, r with
    | [_], .cons rx .nil =>
      cases rx
      obtain ⟨_, its, rv, p⟩ := I.hok a _ e
      obtain ⟨⟨tc, tdd, tda, tsl⟩, hto, htc, n, htd⟩ := p
      dsimp only at htc htd
      subst htc htd
      have hTy : s.TypeIs (.ref a) "tuple" := ⟨_, hto, rfl⟩
      exact PySem.call_repr_slot (by omega) hTy F.slot_tuple_repr (call_tup_flat hTy hg hto rfl (by simpa using reprs_is h rv) (fun u tk => ⟨_, _, rfl, ⟨.str _, H, I.kept (t' := tk) fun _ _ z => z, ⟨_, rfl⟩, q⟩⟩) z)
  | @dic a e =>
    match us, r with
    | [_], .cons rx .nil =>
      cases rx
      obtain ⟨_, hsys, kvs, kv, o, es, ep, ho, ex, hd, kk, pr, _⟩ := I.hok a _ e
      cases kv
      have e0 : es = #[] := by
        have : es.toList = [] := by cases hh : es.toList with
          | nil => rfl
          | cons _ _ => rw [hh] at pr; cases pr
        exact Array.toList_eq_nil_iff.mp this
      subst e0
      have hTy : s.TypeIs (.ref a) "dict" := ⟨o, ho, ex.1⟩
      exact PySem.call_repr_slot (by omega) hTy F.slot_dict_repr (call_dict_flat hTy hg ho hd hsys fun u tk => ⟨_, _, rfl, ⟨.str _, H, I.kept (t' := tk) fun _ _ z => z, ⟨_, rfl⟩, q⟩⟩)
/-! ### try with several clauses, some of them naming their error -/
/-- a clause: what it names (a class), the slot of its name if it has one, its suite's reading -/
abbrev ClauseT := Value × Option Nat × (Addr → Value → Option Addr → TS)
def endsX (i : Nat) (D : Ends) : Ends := { nx := fun σ H => D.nx (σ.set i none) H, rt := D.rt, bk := fun σ H => D.bk (σ.set i none) H, ct := fun σ H => D.ct (σ.set i none) H }
/-- what the clauses, one behind another, ask of an error of the body -/
def wMix (K : PySem.W.Frag) (Wout : L2.WX) (D : Ends) : List ClauseT → L2.WX
  | [] => Wout
  | (c, none, ts) :: r => fun cls d σ H => ∃ b, PySem.W.exmOne K cls c = some b ∧ (b = true → ∀ a, H a = none → ts a cls d D σ H) ∧ (b = false → wMix K Wout D r cls d σ H)
  | (c, some i, ts) :: r => fun cls d σ H => ∃ b, PySem.W.exmOne K cls c = some b ∧ (b = true → ∀ a, H a = none → ts a cls d (endsX i D) (σ.set i (some (.ref a))) H) ∧ (b = false → wMix K Wout D r cls d σ H)
inductive ClsOk (X : Cx) : List ExceptHandler → List ClauseT → Prop
  | nil : ClsOk X [] []
  | plain {x : Str} {c : Value} {ts : Addr → Value → Option Addr → TS} {b₀ : Stmt} {suite : List Stmt} {np p2 : Pos} {hds : List ExceptHandler} {l : List ClauseT} (hc : L2.Names X x c)
      (hsu : ∀ (a : Addr) (oe : Obj) (cls : Value) (d : Option Addr) (pn : List (Addr × Obj)), L2.Zc cls d oe → (∃ vs, oe.data = .fields vs) → PSs (X.suite a ((a, oe) :: pn)) (b₀ :: suite) (ts a cls d)) (r : ClsOk X hds l) : ClsOk X (.ExceptHandler (some (.Name x np)) none (b₀ :: suite) p2 :: hds) ((c, none, ts) :: l)
  | named {x n : Str} {c : Value} {i : Nat} {ts : Addr → Value → Option Addr → TS} {b₀ : Stmt} {suite : List Stmt} {np p2 : Pos} {hds : List ExceptHandler} {l : List ClauseT} (hc : L2.Names X x c) (hi : X.N[i]? = some n) (hln : X.env.kindOf n = some .local)
      (hsu : ∀ (a : Addr) (oe : Obj) (cls : Value) (d : Option Addr) (pn : List (Addr × Obj)), L2.Zc cls d oe → (∃ vs, oe.data = .fields vs) → PSs (X.suite a ((a, oe) :: pn)) (b₀ :: suite) (ts a cls d)) (r : ClsOk X hds l) : ClsOk X (.ExceptHandler (some (.Name x np)) (some n) (b₀ :: suite) p2 :: hds) ((c, some i, ts) :: l)
section
variable {X : Cx} {body : List Stmt} {h₀ : ExceptHandler} {hds : List ExceptHandler} {l : List ClauseT} {pos : Pos} {tb : L2.WX → TS} {Wout : L2.WX}
theorem ps_try_mix (stk : X.stack = X.env :: X.outer) (frm : X.env.frame = some X.env.locals) (nd : X.N.Nodup) (tk : L2.Takes X Wout)
    (hbody : ∀ (W : L2.WX) (pn : List (Addr × Obj)) (xe : Value → Shared → Prop), L2.Takes (X.tr pn xe) W → PassesOwn (model X.prog X.w) X.A X.env xe → PSs (X.tr pn xe) body (tb W)) (hcl : ClsOk X (h₀ :: hds) l) :
    PS X (.Try body (h₀ :: hds) [] [] pos) (fun D σ H => tb (wMix X.K Wout D l) D σ H) := by
  refine ⟨fun pins s σ H D I start => ?_⟩
  have good := I.ok
  have frames : X.A.frames = some (X.env :: X.outer) := by rw [good.frames, stk]
  refine wpAny_Try_except ?_
  refine wpAny_mono ((hbody (wMix X.K Wout D l) (X.pn ++ pins) (fun er sA => wpAny (model X.prog X.w) X.A (noteFrame er X.env) (fun _ sB => wpAny (model X.prog X.w) X.A (setFlight er none) (fun _ sC => wpAny (model X.prog X.w) X.A (handleBy er X.env (h₀ :: hds)) (SP X pins D) X.xe sC) X.xe sB) X.xe sA) (fun u sX flying => ?_) PassesOwn.looking).run [] s σ H D (I.toTry _) start) (fun fl sN ended => ?_) (fun er sE out => out)
  rotate_left
  · match fl, ended with
    | .next, ⟨_, _, JN, q⟩ => exact wpAny_execs_nil ⟨_, _, JN.ofTry good, q⟩
    | .brk, ⟨_, _, JN, q⟩ => exact ⟨_, _, JN.ofTry good, q⟩
    | .cont, ⟨_, _, JN, q⟩ => exact ⟨_, _, JN.ofTry good, q⟩
    | .ret _, ⟨_, _, _, JN, r, q⟩ => exact ⟨_, _, _, JN.ofTry good, r, q⟩
  obtain ⟨ea, Bs, sI, pinsI, σI, HI, cls, d, rfl, JI, nbase, upS, skyS, fresh, osE, bareE, wished⟩ := flying
  have J := JI.ofTry good
  have skyX : L2.Sky Bs (X.env :: X.outer) ea (L2.Zc cls d) X.env.locals sX.heap := stk ▸ skyS
  show wpAny (model X.prog X.w) X.A (noteFrame (.ref ea) X.env) _ _ _
  refine L2.Sky.land L2.Zc.steady frames frm skyX fun hL flL upL => ?_
  have JL : Inv X pins σI HI { sX with heap := hL } := J.landed nbase flL.1 (upS.trans upL) osE bareE
  obtain ⟨oL, vL, getL, zL, dataL⟩ := flL.there
  have noFrame : ea ∉ frs (X.env :: X.outer) := fun mem => by
    obtain ⟨_, oM, getM, notFields⟩ := flL.2.2.1.mem mem
    rw [getL] at getM
    exact notFields _ (by cases getM; exact dataL)
  have notLocals : ea ≠ X.env.locals := fun eq => noFrame (List.mem_filterMap.mpr ⟨X.env, List.mem_cons_self, by rw [frm, eq]⟩)
  have notOuter : ea ∉ X.fs := fun mem => let ⟨en, inO, fr⟩ := List.mem_filterMap.mp mem; noFrame (List.mem_filterMap.mpr ⟨en, List.mem_cons_of_mem _ inO, fr⟩)
  have SL := JL.suite getL dataL fresh notLocals notOuter
  have named : ∀ {x : Str} {c : Value} {np : Pos} {Q E : Value → Shared → Prop}, L2.Names X x c → Q c { sX with heap := hL } → wpAny (model X.prog X.w) (X.A.mark (some (.ref ea))) (eval (.Name x np) X.env) Q E { sX with heap := hL } := by
    rintro x c np Q E ⟨glob, dbg, own | ⟨free, boot, notNone⟩⟩ goal
    · exact L2.ld_glob (X := X.suite ea ((ea, oL) :: (X.pn ++ pins))) SL glob own goal dbg
    · exact L2.ld_blt (X := X.suite ea ((ea, oL) :: (X.pn ++ pins))) SL glob free boot goal notNone dbg
  have typed : PySem.W.Looks (model X.prog X.w) hL (typeOf (.ref ea)) cls := fun _ _ _ _ more res => wpAny_typeOf_ref (more _ _ getL) (by rw [zL.1]; exact res)
  have walk : ∀ {hs2 : List ExceptHandler} {l2 : List ClauseT}, ClsOk X hs2 l2 → wMix X.K Wout D l2 cls d σI HI → wpAny (model X.prog X.w) X.A (handleBy (.ref ea) X.env hs2) (SP X pins D) X.xe { sX with heap := hL } := by
    intro hs2 l2 ok2
    induction ok2 with
    | nil =>
      intro wish
      refine wpAny_handleBy_nil ?_
      have flown := flL
      obtain ⟨_, _, _, oF, vF, TF, oT, _, getF, zF, dataF, tbF, _⟩ := flown
      unfold PySem.passOn
      refine wpAny_bind (wpAny_field getF dataF tbF ?_)
      rw [if_neg (by simp : ¬ ((Value.ref TF == Value.none) = true))]
      have up : wpAny (model X.prog X.w) X.A (setFlight (.ref ea) X.env.frame) (fun _ sU => wpAny (model X.prog X.w) X.A (throw (.ref ea) : Sem Flow) (SP X pins D) X.xe sU) X.xe { sX with heap := hL } := by
        rw [frm]
        exact HandSPX.setFlight_upZ flL fun hU heldU upU => wpAny_throw (tk _ _ ⟨ea, Bs, sI, pins, σI, HI, cls, d, rfl, J, nbase, (upS.trans upL).trans upU, .inr (.inr (stk ▸ heldU)), fresh, osE, bareE, wish⟩)
      first
        | exact wpAny_bind up
        | exact wpAny_bind (wpAny_pure (wpAny_bind up))
    | @plain x c ts b₀ suite np p2 hds3 l3 hc hsu r ih =>
      rintro ⟨b, look, yes, no⟩
      refine wpAny_handleBy_cons (codeAny_handlers_test ?_) (fun q => nomatch q)
      refine named hc ((PySem.W.exm_one (M := model X.prog X.w) JL.kIn typed look).here ?_)
      cases b with
      | false => exact ih (no rfl)
      | true =>
        refine codeAny_handlers_suite (HandSPX.lands_againZ flL fun hM flM upM => ?_)
        obtain ⟨oM, vM, getM, zM, dataM⟩ := flM.there
        have JM : Inv X pins σI HI { sX with heap := hM } := J.landed nbase flM.1 ((upS.trans upL).trans upM) osE bareE
        have SM := JM.suite getM dataM fresh notLocals notOuter
        refine wpAny_mono ((hsu ea oM cls d (X.pn ++ pins) zM ⟨_, dataM⟩).run [] _ _ HI _ SM (yes rfl ea fresh)) (fun fl sE done_ => ?_) (fun _ _ z => z.elim)
        match fl, done_ with
        | .next, ⟨_, _, SE, q⟩ => exact ⟨_, _, SE.unsuite good, q⟩
        | .brk, ⟨_, _, SE, q⟩ => exact ⟨_, _, SE.unsuite good, q⟩
        | .cont, ⟨_, _, SE, q⟩ => exact ⟨_, _, SE.unsuite good, q⟩
        | .ret _, ⟨_, _, _, SE, rv, q⟩ => exact ⟨_, _, _, SE.unsuite good, rv, q⟩
    | @named x n c i ts b₀ suite np p2 hds3 l3 hc hi hln hsu r ih =>
      rintro ⟨b, look, yes, no⟩
      refine wpAny_handleBy_cons (codeAny_handlers_test ?_) (fun q => nomatch q)
      refine named hc ((PySem.W.exm_one (M := model X.prog X.w) JL.kIn typed look).here ?_)
      cases b with
      | false => exact ih (no rfl)
      | true =>
        refine codeAny_handlers_suite_as (HandSPX.lands_againZ flL fun hM flM upM => ?_)
        obtain ⟨oM, vM, getM, zM, dataM⟩ := flM.there
        have JM : Inv X pins σI HI { sX with heap := hM } := J.landed nbase flM.1 ((upS.trans upL).trans upM) osE bareE
        have SM := JM.suite getM dataM fresh notLocals notOuter
        refine L2.store_ok (X := X.suite ea ((ea, oM) :: (X.pn ++ pins))) (v := .ref ea) SM nd hi (.inl hln) rfl (fun sB SB => ?_) (.inr hln)
        refine wpAny_mono ((hsu ea oM cls d (X.pn ++ pins) zM ⟨_, dataM⟩).run [] sB _ HI _ SB (yes rfl ea fresh)) (fun fl sE done_ => ?_) (fun _ _ z => z.elim)
        have gone : ∀ {σ6 : L2.St} {H6 : Hp} {Q : Shared → Prop}, Inv (X.suite ea ((ea, oM) :: (X.pn ++ pins))) [] σ6 H6 sE → (∀ sG, Inv X pins (σ6.set i none) H6 sG → Q sG) → wpAny (model X.prog X.w) X.A (do bindName X.env n .none; unbindBehindTheSuite X.env n p2) (fun _ sG => Q sG) X.xe sE :=
          fun SE more => L2.gone_ok (SE.unsuite good) nd hi hln more
        match fl, done_ with
        | .next, ⟨_, _, SE, q⟩ => exact gone SE fun _ JG => ⟨_, _, JG, q⟩
        | .brk, ⟨_, _, SE, q⟩ => exact gone SE fun _ JG => ⟨_, _, JG, q⟩
        | .cont, ⟨_, _, SE, q⟩ => exact gone SE fun _ JG => ⟨_, _, JG, q⟩
        | .ret _, ⟨_, _, _, SE, rv, q⟩ => exact gone SE fun _ JG => ⟨_, _, _, JG, rv, q⟩
  exact walk hcl wished
end
/-! ### defs whose bodies know of the guards around them -/
theorem FunT.okG {P : Program} {w : World} {K : PySem.W.Frag} {mg : Str → Option Value} {base : Heap} {x q : Str} {st : Stmt} {f c : Addr} {fd : FuncData} {N ps : List Str} {k : Nat} {sp : Sp} (F : FunT K x q st f c fd) (S : FnScope N ps (defScope st)) (len : ∀ vs H Q E, sp vs H Q E → vs.length = ps.length)
    (hbody : ∀ (g : List Code) (A : Around) (outer : List Env) (s : Shared) (H : Hp) (vs : List V) (Q : VK) (E : XK), A.guards = some g → Room k (A.deeper (PyProof.Rows.envOfC q (defScope st) s.heap.objs.size f (.ref c))) → sp vs H Q E →
      ∃ t, PSs (cxOf CX0 P w K mg base N q (defScope st) f (.ref c) A outer s H E).nox (defBody st) t ∧ t { nx := fun _ H' => Q .non H', rt := Q } (start N vs) H) : FnOk P w K mg base CX0 (k + 1) f fd ps sp := by
  obtain ⟨oc, od, kV, doc, pm, an, ct, osl, rfl, lk, hcd⟩ := F.ex
  refine ⟨len, fun A outer s H args us vs Q E hr e0 hb r hsp => codeAny_guards fun g => ?_⟩
  refine LamX.run_ofS (A := { A with guards := some g }) lk hcd S (N := N) ⟨hr.hd, hr.dp, hr.un⟩ ⟨e0.frames, e0.mod, e0.bs, e0.bsz, e0.funs, e0.frf, e0.hok, e0.bare⟩ hb r (len _ _ _ _ hsp) fun hr2 => ?_
  obtain ⟨t, h, z⟩ := hbody g { A with guards := some g } outer s H vs Q E rfl hr2 hsp
  exact ⟨t, h.nox, z⟩
theorem deeper_guards {A : Around} {env : Env} {g : List Code} (h : A.guards = some g) : (A.deeper env).guards = some g := h
/-! ### methods and makings that may raise -/
structure MetX (P : Program) (w : World) (K : PySem.W.Frag) (mg : Str → Option Value) (base : Heap) (C : Addr) (m : Str) (k : Nat) (f : Addr) (ps : List Str) (sp : Sp) : Prop where
  ex : ∃ fd, FnOk P w K mg base (L2.CX P w) k f fd ps sp ∧ Binds K fd ps []
  me : Meth K C m f
theorem Mth.metX {P : Program} {w : World} {K : PySem.W.Frag} {mg : Str → Option Value} {base : Heap} {C : Addr} {m q : Str} {st : Stmt} {f : Addr} {ps : List Str} {k : Nat} {sp : Sp} (D : Mth K C m q st f ps) (h : ∀ fd, Fun K m q st f fd → FnOk P w K mg base (L2.CX P w) k f fd ps sp) : MetX P w K mg base C m k f ps sp := by
  obtain ⟨fd, F, b⟩ := D.ex
  exact ⟨⟨fd, h fd F, b⟩, ⟨D.at_, D.fn, F.kp⟩⟩
theorem pass1 {X : Cx} {E : XK} (tk : L2.Takes X fun cls d _ H => E cls d H) : Passes (L2.CX X.prog X.w) X E := fun pins σ H s e s' I c => L2.passAt tk σ pins H s e s' I c
theorem MetX.p_m1 {X : Cx} {C : Addr} {k : Nat} {f : Addr} {ps : List Str} {sp : Sp} {E : XK} {m : Str} {o e : Expr} {es : List Expr} {ta : TE} {t : TA} {apos pos : Pos} {pl : Sem Bool} (c : MetX X.prog X.w X.K X.mg X.base C m k f ps sp) (tk : L2.Takes X fun cls d _ H => E cls d H) (cl : Cls X.K C) (hr : Room k X.A) (he : PE X o ta) (ha : PA X (e :: es) t)
    (hst : starEach (e :: es) X.env = (false, eval e X.env) :: starEach es X.env := by rfl) (hpl : (backTo pos (starEach es X.env)).any (·.1) = false := by rfl)
    (ht : eval (.Call (.Attribute o m apos) (e :: es) [] pos) X.env = (do let ov ← eval o X.env; standAt apos.atName; let (f, first) ← holding [ov] (getMethod ov m pl); callWith pos f first (backTo pos (starEach (e :: es) X.env)) (backToKw pos (keywordEach [] X.env))) := by rfl) :
    PE X (.Call (.Attribute o m apos) (e :: es) [] pos) (tMeth C m sp [] E ta t) := by
  obtain ⟨fd, F, b⟩ := c.ex
  exact pe_meth he cl c.me F hr b .nil (pass1 tk) ha hst hpl ht
theorem raise2 {C : Addr} {f g : Str} {v u : V} {H : Hp} {Q E : XK} (k : ∀ d H', H' d = some (.xd [(g, u), (f, v)]) → Same H H' → Q (.ref C) (some d) H') : ∀ a, H a = none → spEI2 C f g [.ref a, v, u] (upd H a (L2.exo a C none))
    (fun x H2 => x = .non ∧ ∃ (d : Addr) (fs : List (Str × V)), H2 a = some (L2.exo a C (some d)) ∧ H2 d = some (L2.exd d fs) ∧ H d = none ∧ Q (.ref C) (some d) (upd (L2.del H2 a) d (.xd fs))) E := fun a na => by
  refine ⟨a, v, u, rfl, upd_same, fun dx nx ne => ⟨rfl, dx, [(g, u), (f, v)], ?_, upd_same, by rwa [upd_ne ne] at nx, k dx _ upd_same fun b o e => ?_⟩⟩
  · rw [upd_ne (Ne.symm ne), upd_same]
  · rw [upd_ne ne] at nx
    have ba : b ≠ a := ne_of_none e na
    have bd : b ≠ dx := ne_of_none e nx
    rw [upd_ne bd, L2.del_ne ba, upd_ne bd, upd_ne ba, upd_ne bd, upd_ne ba]
    exact e
/-! ### a def that a name of the body holds -/
def tVC (Ok : Addr → Sp → Prop) (i : Nat) (E : XK) (t : TA) : TE := fun σ H Q => ∃ f sp, Ok f sp ∧ σ[i]? = some (some (.ref f)) ∧ t σ H fun vs H1 => sp vs H1 Q E
theorem pe_vcall {X : Cx} {Ok : Addr → Sp → Prop} {E : XK} {i : Nat} {x : Str} {e : Expr} {es : List Expr} {t : TA} {p pos : Pos} (hok : ∀ f sp, Ok f sp → ∃ y k ps, CalX X.prog X.w X.K X.mg X.base y k f ps sp ∧ Room k X.A) (tk : L2.Takes X fun cls d _ H => E cls d H) (hx : PE X (.Name x p) (tVar i)) (ha : PA X (e :: es) t)
    (he : starEach (e :: es) X.env = (false, eval e X.env) :: starEach es X.env := by rfl) (hpl : (backTo pos (starEach es X.env)).any (·.1) = false := by rfl) : PE X (.Call (.Name x p) (e :: es) [] pos) (tVC Ok i E t) := by
  refine ⟨fun pins s σ H Q I h => ?_⟩
  obtain ⟨f, sp, ok, hs, h⟩ := h
  obtain ⟨y, k, ps, c, hr⟩ := hok f sp ok
  obtain ⟨fd, F, b⟩ := c.ex
  refine wpAny_Call_Name_kw (thn (hx.run pins s σ H (fun v H1 => v = .ref f ∧ H1 = H) I ⟨.ref f, hs, rfl, rfl⟩) fun u s1 ⟨v, H1, I1, r1, q1⟩ => ?_)
  obtain ⟨ev, eH⟩ := q1
  subst ev
  rw [eH] at I1
  obtain rfl : u = Value.ref f := r1
  refine PySem.W.callWith_K (h₀ := X.base) I1.ok.mod.kin c.kp (thn (ha.run pos pins s1 σ H _ I1 h) fun us s2 ⟨vs, H2, I2, r, q⟩ => ⟨I2.kIn, ?_⟩) he hpl
  exact run_fn F hr b .nil (pass1 tk) I2 r (by rw [List.append_nil]; exact q)
/-! ### one request, by the law -/
def mixE (bs : List Tri) (ss : List StD) (t : Int) (f : Bool) (j k i : Nat) : StD := match bs[i]?, ss[i]? with
  | some b, some s => if i < j then (if f = true then okS b s else badS b s t) else if i < k then hfS s else s
  | _, _ => ("closed", 0)
def mixS (bs : List Tri) (ss : List StD) (t : Int) (f : Bool) (j k : Nat) : List StD := (List.range bs.length).map (mixE bs ss t f j k)
theorem mixE_is {bs : List Tri} {ss : List StD} {t : Int} {f : Bool} {j k i : Nat} {b : Tri} {s : StD} (hb : bs[i]? = some b) (hs : ss[i]? = some s) : mixE bs ss t f j k i = if i < j then (if f = true then okS b s else badS b s t) else if i < k then hfS s else s := by
  unfold mixE
  rw [hb, hs]
theorem mixS_get {bs : List Tri} {ss : List StD} {t : Int} {f : Bool} {j k i : Nat} (h : i < bs.length) : (mixS bs ss t f j k)[i]? = some (mixE bs ss t f j k i) := by
  unfold mixS
  rw [List.getElem?_map, List.getElem?_range h]
  rfl
theorem mixS_len {bs : List Tri} {ss : List StD} {t : Int} {f : Bool} {j k : Nat} : (mixS bs ss t f j k).length = bs.length := by
  unfold mixS
  rw [List.length_map, List.length_range]
theorem map_set {α : Type} {n : Nat} {f g : Nat → α} {i : Nat} {v : α} (hi : i < n) (h1 : v = g i) (h2 : ∀ j, j ≠ i → j < n → f j = g j) : ((List.range n).map f).set i v = (List.range n).map g := by
  refine List.ext_getElem? fun j => ?_
  rw [List.getElem?_set, List.length_map, List.length_range, List.getElem?_map, List.getElem?_map]
  by_cases c : i = j
  · subst c
    rw [if_pos rfl, if_pos hi, List.getElem?_range hi, h1]
    rfl
  · rw [if_neg c]
    by_cases d : j < n
    · rw [List.getElem?_range d]
      exact congrArg some (h2 j (fun e => c e.symm) d)
    · rw [List.getElem?_eq_none (by rw [List.length_range]; omega)]
      rfl
theorem mixS_0 {bs : List Tri} {ss : List StD} {t : Int} {f : Bool} (h : ss.length = bs.length) : mixS bs ss t f 0 0 = ss := by
  refine List.ext_getElem? fun j => ?_
  by_cases c : j < bs.length
  · have hb : bs[j]? = some bs[j] := List.getElem?_eq_getElem c
    have hs : ss[j]? = some (ss[j]'(by omega)) := List.getElem?_eq_getElem (by omega)
    rw [mixS_get c, mixE_is hb hs, hs, if_neg (Nat.not_lt_zero j), if_neg (Nat.not_lt_zero j)]
  · rw [List.getElem?_eq_none (by rw [mixS_len]; omega), List.getElem?_eq_none (by omega)]
theorem mixS_half {bs : List Tri} {ss : List StD} {t : Int} {f : Bool} {i : Nat} {b : Tri} {s : StD} (hb : bs[i]? = some b) (hs : ss[i]? = some s) : (mixS bs ss t f 0 i).set i (hfS s) = mixS bs ss t f 0 (i + 1) := by
  refine map_set (List.getElem?_eq_some_iff.mp hb).1 ?_ fun j ne hj => ?_
  · rw [mixE_is hb hs, if_neg (Nat.not_lt_zero i), if_pos (Nat.lt_succ_self i)]
  · unfold mixE
    cases bs[j]? with
    | none => rfl
    | some b' =>
      cases ss[j]? with
      | none => rfl
      | some s' =>
        show (if j < 0 then _ else if j < i then _ else _) = (if j < 0 then _ else if j < i + 1 then _ else _)
        rw [if_neg (Nat.not_lt_zero j), if_neg (Nat.not_lt_zero j)]
        by_cases c : j < i
        · rw [if_pos c, if_pos (show j < i + 1 by omega)]
        · rw [if_neg c, if_neg (show ¬ j < i + 1 by omega)]
theorem mixS_fin {bs : List Tri} {ss : List StD} {t : Int} {f : Bool} {j k : Nat} {b : Tri} {s : StD} (hb : bs[j]? = some b) (hs : ss[j]? = some s) : (mixS bs ss t f j k).set j (if f = true then okS b s else badS b s t) = mixS bs ss t f (j + 1) k := by
  refine map_set (List.getElem?_eq_some_iff.mp hb).1 ?_ fun i ne hi => ?_
  · rw [mixE_is hb hs, if_pos (Nat.lt_succ_self j)]
  · unfold mixE
    cases bs[i]? with
    | none => rfl
    | some b' =>
      cases ss[i]? with
      | none => rfl
      | some s' =>
        show (if i < j then _ else _) = (if i < j + 1 then _ else _)
        by_cases c : i < j
        · rw [if_pos c, if_pos (show i < j + 1 by omega)]
        · rw [if_neg c, if_neg (show ¬ i < j + 1 by omega)]
theorem mixS_same {bs : List Tri} {ss : List StD} {t : Int} {f g : Bool} {k : Nat} : mixS bs ss t f 0 k = mixS bs ss t g 0 k := by
  refine List.map_congr_left fun i _ => ?_
  unfold mixE
  cases bs[i]? with
  | none => rfl
  | some b' =>
    cases ss[i]? with
    | none => rfl
    | some s' => rfl
theorem mixS_keep {bs : List Tri} {ss : List StD} {t : Int} {f : Bool} {i : Nat} {b : Tri} {s : StD} (hb : bs[i]? = some b) (hs : ss[i]? = some s) (h : hfS s = s) : mixS bs ss t f 0 i = mixS bs ss t f 0 (i + 1) := by
  have hi := (List.getElem?_eq_some_iff.mp hb).1
  rw [← mixS_half hb hs, h]
  refine (List.ext_getElem? fun j => ?_)
  rw [List.getElem?_set, mixS_len]
  by_cases c : i = j
  · subst c
    rw [if_pos rfl, if_pos hi, mixS_get hi, mixE_is hb hs, if_neg (Nat.not_lt_zero i), if_neg (Nat.lt_irrefl i)]
  · rw [if_neg c]
theorem paired_set {α β : Type} {F : α → β → Prop} : ∀ {xs : List α} {ys : List β} (i : Nat) {x : α} {y : β}, Paired F xs ys → F x y → Paired F (xs.set i x) (ys.set i y)
  | _, _, _, _, _, .nil, _ => .nil
  | _, _, 0, _, _, .cons _ t, h => .cons h t
  | _, _, i + 1, _, _, .cons r t, h => .cons r (paired_set i t h)
theorem sts_kp {H H' : Hp} (k : ∀ b xs, H b = some (.tup xs) → H' b = some (.tup xs)) {xs : List V} {ss : List StD} (h : Sts H xs ss) : Sts H' xs ss := L2.Paired.mapP h fun _ _ ⟨a, e, h⟩ => ⟨a, e, k _ _ h⟩
theorem ixN_of {n j : Nat} (h : j < n) : ixN n (j : Int) = some j := by
  unfold ixN
  rw [if_pos (show (0 : Int) ≤ j by omega), if_pos (show (j : Int) < n by omega)]
  congr 1
theorem outV_n (n : Nat) (b : Bool) : outV n n b = if b = true then [.str "failed"] else [.str "served"] := by
  unfold outV
  rw [if_neg (Nat.lt_irrefl n)]
theorem outV_k {n k : Nat} (h : k < n) (b : Bool) : outV n k b = [.str "rejected", .int k] := if_pos h
def outD (n k : Nat) (inS : Bool) : PyData := if k < n then .tuple [.str "rejected", .int k] else if inS then .tuple [.str "failed"] else .tuple [.str "served"]
theorem outV_dp {K : PySem.W.Frag} {H : Hp} {p : Addr} {n k : Nat} {b : Bool} (h : H p = some (.tup (outV n k b))) : Dp K H (.ref p) (outD n k b) := by
  unfold outV at h
  unfold outD
  split
  · rename_i c
    rw [if_pos c] at h
    exact .tup (SqT.of h) (.cons (.str _) (.cons (.int _) .nil))
  · rename_i c
    rw [if_neg c] at h
    cases b with
    | true => exact .tup (SqT.of h) (.cons (.str _) .nil)
    | false => exact .tup (SqT.of h) (.cons (.str _) .nil)
theorem tup_sh {ds : List PyData} (h1 : PyData.canLayAll0 ds = true) (h2 : PyData.depthAll ds ≤ 10) : SeqAt.shaped (.tuple ds) = true := by
  refine Bool.and_eq_true_iff.mpr ⟨?_, decide_eq_true ?_⟩
  · rw [PyData.canLay0]
    exact h1
  · rw [PyData.depth]
    omega
theorem sok_R : PyData.strOk "rejected" = true := by decide +kernel
theorem sok_S : PyData.strOk "served" = true := by decide +kernel
theorem sok_F : PyData.strOk "failed" = true := by decide +kernel
theorem outD_sh (n k : Nat) (b : Bool) : SeqAt.shaped (outD n k b) = true := by
  unfold outD
  split
  · exact tup_sh (by simp [PyData.canLayAll0, PyData.canLay0, sok_R]) (by simp [PyData.depthAll, PyData.depth])
  · cases b <;> exact tup_sh (by simp [PyData.canLayAll0, PyData.canLay0, sok_S, sok_F]) (by simp [PyData.depthAll, PyData.depth])
theorem served_sh : SeqAt.shaped (.tuple [.str "served"]) = true := tup_sh (by simp [PyData.canLayAll0, PyData.canLay0, sok_S]) (by simp [PyData.depthAll, PyData.depth])
theorem outD_served (n k : Nat) (b : Bool) (h : k ≤ n) : PyData.eqv (outD n k b) (.tuple [.str "served"]) = (decide (k = n) && !b) := by
  unfold outD
  split
  · rename_i c
    rw [decide_eq_false (show ¬ k = n by omega)]
    rfl
  · rw [decide_eq_true (show k = n by omega)]
    cases b <;> rfl
theorem outD_eq (n k : Nat) (b : Bool) : PyData.eqv (outD n k b) (outD n k b) = true := by
  unfold outD
  split
  · simp [PyData.eqv, PyData.eqvAll]
  · cases b <;> simp [PyData.eqv, PyData.eqvAll]
def spOne1 : Sp := fun vs H Q _ => ∃ a l xs ys bs ss t good, vs = [.ref a, .ref l, .int t, .bl good] ∧ H a = some (.lst xs) ∧ Brs H xs bs ∧ H l = some (.lst ys) ∧ Sts H ys ss ∧ a ≠ l ∧ ss.length = bs.length ∧ bs.length ≤ 12 ∧ ∀ (k : Nat) td H' ys', k ≤ bs.length → (∀ (i : Nat) (b : Tri) (s : StD), i < k → bs[i]? = some b → ss[i]? = some s → psB b s t) → (∀ (b : Tri) (s : StD), bs[k]? = some b → ss[k]? = some s → ¬ psB b s t) →
  H' td = some (.tup (outV bs.length k (!good))) → H' l = some (.lst ys') → Sts H' ys' (mixS bs ss t (decide (k = bs.length) && good) k k) → Kp l H H' → H td = none → Q (.ref td) H'
/-! ### a request at one breaker -/
instance psDec (b : Tri) (s : StD) (t : Int) : Decidable (psB b s t) := by
  unfold psB
  infer_instance
def stpS (b : Tri) (s : StD) (t : Int) (g : Bool) : StD := if g = true then okS b s else badS b s t
theorem okS_closed {b : Tri} {s : StD} (h : s.1 = "closed") : okS b s = (("closed", 0) : StD) := by
  have e : hfS s = s := if_neg (by rw [h]; exact sC_O)
  unfold okS
  rw [e]
  exact if_neg fun q => sC_H (h.symm.trans q.1)
theorem okS_half {b : Tri} {s : StD} (h : s.1 = "half") : okS b s = if s.2 + 1 < b.2.2 then (("half", s.2 + 1) : StD) else ("closed", 0) := by
  have e : hfS s = s := if_neg (by rw [h]; exact sH_O)
  unfold okS
  rw [e]
  by_cases c : s.2 + 1 < b.2.2
  · rw [if_pos c, if_pos ⟨h, c⟩]
  · rw [if_neg c, if_neg fun q => c q.2]
theorem okS_open {b : Tri} {s : StD} (h : s.1 = "open") : okS b s = if 1 < b.2.2 then (("half", 1) : StD) else ("closed", 0) := by
  have e : hfS s = (("half", 0) : StD) := if_pos h
  unfold okS
  rw [e]
  by_cases c : (1 : Int) < b.2.2
  · rw [if_pos c, if_pos ⟨rfl, by show (0 : Int) + 1 < b.2.2; omega⟩]
    rfl
  · rw [if_neg c, if_neg fun q => c (by have q2 : (0 : Int) + 1 < b.2.2 := q.2; omega)]
theorem badS_closed {b : Tri} {s : StD} {t : Int} (h : s.1 = "closed") : badS b s t = if s.2 + 1 < b.1 then (("closed", s.2 + 1) : StD) else ("open", t) := by
  have e : hfS s = s := if_neg (by rw [h]; exact sC_O)
  unfold badS
  rw [e]
  by_cases c : s.2 + 1 < b.1
  · rw [if_pos c, if_pos ⟨h, c⟩]
  · rw [if_neg c, if_neg fun q => c q.2]
theorem badS_other {b : Tri} {s : StD} {t : Int} (h : ¬ s.1 = "closed") : badS b s t = (("open", t) : StD) := by
  unfold badS
  refine if_neg fun q => ?_
  have q1 := q.1
  unfold hfS at q1
  split at q1
  · exact sH_C q1
  · exact h q1
def spPasses : Sp := fun vs H Q _ => ∃ x y b s t, vs = [x, y, .int t] ∧ BrAt H x b ∧ StAt H y s ∧ Q (.bl (decide (psB b s t))) H
def spBehind : Sp := fun vs H Q _ => ∃ x y b s t g, vs = [x, y, .int t, .bl g] ∧ BrAt H x b ∧ StAt H y s ∧ okW s ∧ ∀ c H', H' c = some (.tup [.str (stpS b s t g).1, .int (stpS b s t g).2]) → Same H H' → H c = none → Q (.ref c) H'
section
variable {P : Program} {w : World} {K : PySem.W.Frag} {mg : Str → Option Value} {base : Heap} {L : LA}
abbrev N_passes : List Str := ["breaker", "state", "time"]
theorem sc_passes : FnScope N_passes ["breaker", "state", "time"] (defScope st_passes) := ⟨rfl, rfl, rfl, by decide +kernel, rfl, by decide +kernel, by decide +kernel⟩
theorem fn_passes (T : LX K mg L) {fd : FuncData} (F : Fun K "passes" "passes" st_passes L.f_passes fd) : FnOk P w K mg base CX0 1 L.f_passes fd ["breaker", "state", "time"] (spPasses) := by
  have nd := sc_passes.nd
  refine F.ok sc_passes (fun vs H Q E h => ?_) (fun cdv A outer S H vs Q E hr h => ?_)
  · obtain ⟨x, y, b, s, t, rfl, _⟩ := h
    rfl
  · obtain ⟨x, y, b, s, t, rfl, ⟨ab, rfl, hb⟩, ⟨as, rfl, hs⟩, k⟩ := h
    refine ⟨_, (pss_one (ps_ret (pe_or (pe_cmpR op_ne (pe_ix (r := rIxT K) ix_tup (pv 1) pe_int (fun _ _ => rfl)) pe_str (nomark _)) (pe_one (pe_cmpR op_ge (pe_op op_sub (pv 2) (pe_ix (r := rIxT K) ix_tup (pv 1) pe_int (fun _ _ => rfl))) (pe_ix (r := rIxT K) ix_tup (pv 0) pe_int (fun _ _ => rfl)) (nomark _)))))), ?_⟩
    refine ⟨_, rfl, as, _, 0, .str s.1, rfl, rfl, SqT.of hs, rfl, rfl, _, rfl, ite2 (fun c => ?_) (fun c => ?_)⟩
    · have c' : ¬ s.1 = "open" := fun e => by simp [e] at c
      rw [decide_eq_true (show psB b s t from fun e => absurd e c')] at k
      exact k
    · have c' : s.1 = "open" := by simpa using c
      have e : decide (psB b s t) = decide (b.2.1 ≤ t - s.2) := by
        rw [Bool.eq_iff_iff, decide_eq_true_iff, decide_eq_true_iff]
        exact ⟨fun h => h c', fun h _ => h⟩
      rw [e] at k
      exact ⟨_, rfl, _, rfl, as, _, 1, .int s.2, rfl, rfl, SqT.of hs, rfl, _, _, rfl, rfl, _, rfl, ab, _, 1, .int b.2.1, rfl, rfl, SqT.of hb, rfl, _, _, rfl, rfl, k⟩
theorem ok_passes (T : LX K mg L) : Cal P w K mg base "passes" 1 L.f_passes ["breaker", "state", "time"] (spPasses) := T.d_passes.cal fun fd F => fn_passes T F
abbrev N_statebehind : List Str := ["breaker", "state", "time", "succeeded", "failures", "wait", "successes", "kind", "number", "reached"]
theorem sc_statebehind : FnScope N_statebehind ["breaker", "state", "time", "succeeded"] (defScope st_state_behind) := ⟨rfl, rfl, rfl, by decide +kernel, rfl, by decide +kernel, by decide +kernel⟩
theorem fn_statebehind (T : LX K mg L) {fd : FuncData} (F : Fun K "state_behind" "state_behind" st_state_behind L.f_state_behind fd) : FnOk P w K mg base CX0 1 L.f_state_behind fd ["breaker", "state", "time", "succeeded"] (spBehind) := by
  have nd := sc_statebehind.nd
  refine F.ok sc_statebehind (fun vs H Q E h => ?_) (fun cdv A outer S H vs Q E hr h => ?_)
  · obtain ⟨x, y, b, s, t, g, rfl, _⟩ := h
    rfl
  · obtain ⟨x, y, b, s, t, g, rfl, ⟨ab, rfl, hb⟩, ⟨as, rfl, hs⟩, ok, k⟩ := h
    refine ⟨_, (pss_cons (ps_asg (pv 0) (pg_tup rfl (pgs_cons (pg_name (i := 4) nd rfl (Or.inl rfl)) (pgs_cons (pg_name (i := 5) nd rfl (Or.inl rfl)) (pgs_cons (pg_name (i := 6) nd rfl (Or.inl rfl)) pgs_nil)))))
       (pss_cons (ps_asg (pv 1) (pg_tup rfl (pgs_cons (pg_name (i := 7) nd rfl (Or.inl rfl)) (pgs_cons (pg_name (i := 8) nd rfl (Or.inl rfl)) pgs_nil))))
       (pss_cons (ps_if (PW.pt (pw_and (pt_val (pv 3)) (pw_and1 (pt_cmpR op_ne (pv 7) pe_str (nomark _))))) (pss_cons (ps_set (i := 9) nd rfl (Or.inl rfl) (pe_ifExp (pt_cmpR op_eq (pv 7) pe_str (nomark _)) (pe_op op_add (pv 8) pe_int) pe_int))
       (pss_one (ps_ret (pe_ifExp (pt_cmpR op_lt (pv 9) (pv 6) (nomark _)) (pe_tup (pa_cons pe_str (pa_cons (pv 9) pa_nil))) (pe_tup (pa_cons pe_str (pa_cons pe_int pa_nil))))))) pss_nil)
       (pss_cons (ps_if (pt_val (pv 3)) (pss_one (ps_ret (pe_tup (pa_cons pe_str (pa_cons pe_int pa_nil))))) pss_nil)
       (pss_cons (ps_if (PW.pt (pw_and (pt_cmpR op_eq (pv 7) pe_str (nomark _)) (pw_and1 (pt_cmpR op_lt (pe_op op_add (pv 8) pe_int) (pv 4) (nomark _))))) (pss_one (ps_ret (pe_tup (pa_cons pe_str (pa_cons (pe_op op_add (pv 8) pe_int) pa_nil))))) pss_nil)
       (pss_one (ps_ret (pe_tup (pa_cons pe_str (pa_cons (pv 2) pa_nil)))))))))), ?_⟩
    refine ⟨_, rfl, ab, _, rfl, SqT.of hb, rfl, _, _, rfl, _, _, rfl, _, _, rfl, rfl, ?_⟩
    refine ⟨_, rfl, as, _, rfl, SqT.of hs, rfl, _, _, rfl, _, _, rfl, rfl, ?_⟩
    have fin : ∀ (d : StD), stpS b s t g = d → ∀ p, H p = none → Q (.ref p) (upd H p (.tup [.str d.1, .int d.2])) := fun d e p hp => by
      subst e
      exact k p _ upd_same (Same.upd hp) hp
    clear k
    cases g with
    | true =>
      refine ⟨_, rfl, _, rfl, iteT ⟨_, rfl, rfl, _, rfl, ite2 (fun c => ?_) (fun c => ?_)⟩⟩
      · have c' : ¬ s.1 = "closed" := fun e => by simp [e] at c
        refine ⟨_, rfl, rfl, _, rfl, ite2 (fun h => ?_) (fun h => ?_)⟩
        · have h' : s.1 = "half" := V.str.inj (of_decide_eq_true h)
          refine ⟨_, rfl, _, _, rfl, rfl, _, rfl, _, rfl, _, _, rfl, rfl, _, rfl, ite2 (fun l => ?_) (fun l => ?_)⟩
          · exact ⟨_, rfl, (by show 2 ≤ sizeLine; decide), fin ("half", s.2 + 1) ((okS_half h').trans (if_pos (of_decide_eq_true l)))⟩
          · exact ⟨(by show 2 ≤ sizeLine; decide), fin ("closed", 0) ((okS_half h').trans (if_neg fun q => l (decide_eq_true q)))⟩
        · have h' : ¬ s.1 = "half" := fun e => h (decide_eq_true (congrArg V.str e))
          have o : s.1 = "open" := by
            rcases ok with e | e | e
            · exact absurd e c'
            · exact e
            · exact absurd e h'
          refine ⟨_, rfl, _, rfl, _, _, rfl, rfl, _, rfl, ite2 (fun l => ?_) (fun l => ?_)⟩
          · exact ⟨_, rfl, (by show 2 ≤ sizeLine; decide), fin ("half", 1) ((okS_open o).trans (if_pos (of_decide_eq_true l)))⟩
          · exact ⟨(by show 2 ≤ sizeLine; decide), fin ("closed", 0) ((okS_open o).trans (if_neg fun q => l (decide_eq_true q)))⟩
      · have c' : s.1 = "closed" := by simpa using c
        exact ⟨_, rfl, _, rfl, iteT ⟨(by show 2 ≤ sizeLine; decide), fin ("closed", 0) (okS_closed c')⟩⟩
    | false =>
      refine ⟨_, rfl, _, rfl, iteF ⟨_, rfl, _, rfl, iteF ⟨_, rfl, rfl, _, rfl, ite2 (fun c => ?_) (fun c => ?_)⟩⟩⟩
      · have c' : s.1 = "closed" := V.str.inj (of_decide_eq_true c)
        refine ⟨_, rfl, _, _, rfl, rfl, _, rfl, _, _, rfl, rfl, _, rfl, ite2 (fun l => ?_) (fun l => ?_)⟩
        · exact ⟨_, rfl, _, _, rfl, rfl, (by show 2 ≤ sizeLine; decide), fin ("closed", s.2 + 1) ((badS_closed c').trans (if_pos (of_decide_eq_true l)))⟩
        · exact ⟨_, rfl, (by show 2 ≤ sizeLine; decide), fin ("open", t) ((badS_closed c').trans (if_neg fun q => l (decide_eq_true q)))⟩
      · have c' : ¬ s.1 = "closed" := fun e => c (decide_eq_true (congrArg V.str e))
        refine iteF ⟨_, rfl, (by show 2 ≤ sizeLine; decide), fin ("open", t) (badS_other c')⟩
theorem ok_statebehind (T : LX K mg L) : Cal P w K mg base "state_behind" 1 L.f_state_behind ["breaker", "state", "time", "succeeded"] (spBehind) := T.d_state_behind.cal fun fd F => fn_statebehind T F
end
/-! ### one request sent by the program -/
/-- how many breakers a request reaches and is passed by -/
def kOf : List Tri → List StD → Int → Nat
  | b :: bs, s :: ss, t => if psB b s t then kOf bs ss t + 1 else 0
  | [], _, _ => 0
  | _ :: _, [], _ => 0
theorem kOf_le : ∀ (bs : List Tri) (ss : List StD) (t : Int), kOf bs ss t ≤ bs.length
  | [], _, _ => Nat.le_refl _
  | _ :: _, [], _ => Nat.zero_le _
  | b :: bs, s :: ss, t => by
    unfold kOf
    split
    · exact Nat.succ_le_succ (kOf_le bs ss t)
    · exact Nat.zero_le _
theorem kOf_ps : ∀ {bs : List Tri} {ss : List StD} {t : Int} {i : Nat} {b : Tri} {s : StD}, i < kOf bs ss t → bs[i]? = some b → ss[i]? = some s → psB b s t
  | [], _, _, _, _, _, h, _, _ => absurd h (Nat.not_lt_zero _)
  | _ :: _, [], _, _, _, _, h, _, _ => absurd h (Nat.not_lt_zero _)
  | b :: bs, s :: ss, t, i, b', s', h, e1, e2 => by
    unfold kOf at h
    split at h
    · rename_i c
      cases i with
      | zero => cases e1; cases e2; exact c
      | succ i => exact kOf_ps (i := i) (Nat.lt_of_succ_lt_succ h) e1 e2
    · exact absurd h (Nat.not_lt_zero _)
theorem kOf_rj : ∀ {bs : List Tri} {ss : List StD} {t : Int} {b : Tri} {s : StD}, bs[kOf bs ss t]? = some b → ss[kOf bs ss t]? = some s → ¬ psB b s t
  | [], _, _, _, _, e1, _ => by cases e1
  | _ :: _, [], _, _, _, _, e2 => by cases e2
  | b :: bs, s :: ss, t, b', s', e1, e2 => by
    unfold kOf at e1 e2
    by_cases c : psB b s t
    · rw [if_pos c] at e1 e2
      exact kOf_rj (bs := bs) (ss := ss) e1 e2
    · rw [if_neg c] at e1 e2
      cases e1
      cases e2
      exact c
theorem kOf_is {bs : List Tri} {ss : List StD} {t : Int} (sl : ss.length = bs.length) {k : Nat} (hk : k ≤ bs.length) (h1 : ∀ (i : Nat) (b : Tri) (s : StD), i < k → bs[i]? = some b → ss[i]? = some s → psB b s t) (h2 : ∀ (b : Tri) (s : StD), bs[k]? = some b → ss[k]? = some s → ¬ psB b s t) : k = kOf bs ss t := by
  have kl := kOf_le bs ss t
  have get : ∀ {j : Nat}, j < bs.length → ∃ b s, bs[j]? = some b ∧ ss[j]? = some s := fun {j} l => ⟨_, _, List.getElem?_eq_getElem l, List.getElem?_eq_getElem (by omega)⟩
  rcases Nat.lt_trichotomy k (kOf bs ss t) with c | c | c
  · obtain ⟨b, s, e1, e2⟩ := get (j := k) (by omega)
    exact absurd (kOf_ps c e1 e2) (h2 b s e1 e2)
  · exact c
  · obtain ⟨b, s, e1, e2⟩ := get (j := kOf bs ss t) (by omega)
    exact absurd (h1 _ b s c e1 e2) (kOf_rj e1 e2)
/-- the states behind a request -/
def sntS (bs : List Tri) (ss : List StD) (t : Int) (up : Bool) : List StD := mixS bs ss t (decide (kOf bs ss t = bs.length) && up) (kOf bs ss t) (kOf bs ss t)
theorem okS_W (b : Tri) (s : StD) : okW (okS b s) := by
  unfold okS
  split
  · exact .inr (.inr rfl)
  · exact .inl rfl
theorem badS_W (b : Tri) (s : StD) (t : Int) : okW (badS b s t) := by
  unfold badS
  split
  · exact .inl rfl
  · exact .inr (.inl rfl)
theorem stpS_W (b : Tri) (s : StD) (t : Int) (g : Bool) : okW (stpS b s t g) := by
  unfold stpS
  split
  · exact okS_W b s
  · exact badS_W b s t
theorem sntS_len {bs : List Tri} {ss : List StD} {t : Int} {up : Bool} : (sntS bs ss t up).length = bs.length := mixS_len
theorem sntS_get {bs : List Tri} {ss : List StD} {t : Int} {up : Bool} {i : Nat} {b : Tri} {s : StD} (hb : bs[i]? = some b) (hs : ss[i]? = some s) :
    (sntS bs ss t up)[i]? = some (if i < kOf bs ss t then stpS b s t (decide (kOf bs ss t = bs.length) && up) else s) := by
  have hi := (List.getElem?_eq_some_iff.mp hb).1
  unfold sntS
  rw [mixS_get hi, mixE_is hb hs]
  congr 1
  by_cases c : i < kOf bs ss t
  · rw [if_pos c, if_pos c]
    rfl
  · rw [if_neg c, if_neg c, if_neg c]
theorem sntS_W {bs : List Tri} {ss : List StD} {t : Int} {up : Bool} (sl : ss.length = bs.length) (h : ∀ s ∈ ss, okW s) : ∀ s ∈ sntS bs ss t up, okW s := by
  intro s hs
  obtain ⟨i, hi⟩ := List.mem_iff_getElem?.mp hs
  have l := (List.getElem?_eq_some_iff.mp hi).1
  rw [sntS_len] at l
  have e1 : bs[i]? = some bs[i] := List.getElem?_eq_getElem l
  have e2 : ss[i]? = some ss[i] := List.getElem?_eq_getElem (by omega)
  rw [sntS_get e1 e2] at hi
  cases hi
  split
  · exact stpS_W _ _ _ _
  · exact h _ (List.getElem_mem _)
theorem sntS_cut {bs : List Tri} {ss : List StD} {t : Int} {up : Bool} (sl : ss.length = bs.length) : sntS bs ss t up = (List.zipWith (fun b s => stpS b s t (decide (kOf bs ss t = bs.length) && up)) (bs.take (kOf bs ss t)) ss) ++ ss.drop (kOf bs ss t) := by
  have kl := kOf_le bs ss t
  apply List.ext_getElem?
  intro i
  by_cases c : i < bs.length
  · have e1 : bs[i]? = some bs[i] := List.getElem?_eq_getElem c
    have e2 : ss[i]? = some ss[i] := List.getElem?_eq_getElem (by omega)
    rw [sntS_get e1 e2]
    by_cases q : i < kOf bs ss t
    · rw [if_pos q, List.getElem?_append_left (by rw [List.length_zipWith, List.length_take]; omega), List.getElem?_zipWith, List.getElem?_take, if_pos q, e1, e2]
    · rw [if_neg q, List.getElem?_append_right (by rw [List.length_zipWith, List.length_take]; omega), List.length_zipWith, List.length_take, List.getElem?_drop, show kOf bs ss t + (i - min (min (kOf bs ss t) bs.length) ss.length) = i by omega, e2]
  · rw [List.getElem?_eq_none (by rw [sntS_len]; omega), List.getElem?_eq_none (by rw [List.length_append, List.length_zipWith, List.length_take, List.length_drop]; omega)]
/-- what is told of a request -/
def TldAt (K : PySem.W.Frag) (H : Hp) (x : V) (n k : Nat) (up : Bool) : Prop := ∃ a, x = .ref a ∧ SqT K H a (outV n k (!up))
theorem TldAt.same {K : PySem.W.Frag} {H H' : Hp} {x : V} {n k : Nat} {up : Bool} (h : TldAt K H x n k up) (s : Same H H') : TldAt K H' x n k up := by
  obtain ⟨a, e, q⟩ := h
  exact ⟨a, e, q.ext fun b o e => s b o e⟩
theorem TldAt.dp {K : PySem.W.Frag} {H : Hp} {x : V} {n k : Nat} {up : Bool} (h : TldAt K H x n k up) : Dp K H x (outD n k (!up)) := by
  obtain ⟨a, rfl, h⟩ := h
  unfold outV at h
  unfold outD
  split
  · rename_i c
    rw [if_pos c] at h
    exact .tup h (.cons (.str _) (.cons (.int _) .nil))
  · rename_i c
    rw [if_neg c] at h
    cases up with
    | true => exact .tup h (.cons (.str _) .nil)
    | false => exact .tup h (.cons (.str _) .nil)
theorem cut_take0 (xs : List V) (k : Nat) (h : k ≤ xs.length) : cutV xs none (some (k : Int)) = xs.take k := by
  unfold cutV
  rw [HT.sIx_nat, HT.sIx_none, List.drop_zero, Nat.sub_zero, Nat.min_eq_left h]
theorem cut_drop0 (xs : List V) (k : Nat) (h : k ≤ xs.length) : cutV xs (some (k : Int)) none = xs.drop k := by
  unfold cutV
  rw [HT.sIx_nat, HT.sIx_none, Nat.min_eq_left h, List.take_of_length_le (by rw [List.length_drop]; exact Nat.le_refl _)]
theorem slA_by {K : PySem.W.Frag} {a : Addr} {xs : List V} {lo hi : Option Int} {H : Hp} {Q : VK} (h : SqT K H a xs) (k : ∀ p H', SqT K H' p (cutV xs lo hi) → Same H H' → Q (.ref p) H') : rSlA K (.ref a) lo hi H Q := by
  refine ⟨a, xs, rfl, h, fun c => k a H ?_ (Same.refl H), fun _ p np => k p _ (SqT.of upd_same) (Same.upd np)⟩
  have e : cutV xs lo hi = xs := by
    unfold cutV
    rw [c.1, c.2, List.drop_zero, Nat.sub_zero, List.take_length]
  rw [e]
  exact h
theorem paired_drop {α β : Type} {F : α → β → Prop} : ∀ {xs : List α} {ys : List β} (n : Nat), Paired F xs ys → Paired F (xs.drop n) (ys.drop n)
  | _, _, 0, h => h
  | _, _, n + 1, .nil => .nil
  | _, _, n + 1, .cons _ p => paired_drop n p
def spSent (K : PySem.W.Frag) : Sp := fun vs H Q _ => ∃ B l xs ys bs ss t up, vs = [.ref B, .ref l, .int t, .bl up] ∧ SqT K H B xs ∧ Brs H xs bs ∧ H l = some (.lst ys) ∧ Sts H ys ss ∧ ss.length = bs.length ∧ bs.length ≤ 100 ∧ (∀ s ∈ ss, okW s) ∧
  ∀ q x l2 ys2 H', H' q = some (.tup [x, .ref l2]) → TldAt K H' x bs.length (kOf bs ss t) up → H' l2 = some (.lst ys2) → Sts H' ys2 (sntS bs ss t up) → Same H H' → H q = none → H l2 = none → Q (.ref q) H'
section
variable {P : Program} {w : World} {K : PySem.W.Frag} {mg : Str → Option Value} {base : Heap} {L : LA}
abbrev N_sent : List Str := ["breakers", "states", "time", "up", "reached", "told", "behind", "breaker", "state"]
theorem sc_sent : FnScope N_sent ["breakers", "states", "time", "up"] (defScope st_sent) := ⟨rfl, rfl, rfl, by decide +kernel, rfl, by decide +kernel, by decide +kernel⟩
theorem fn_sent (T : LX K mg L) {fd : FuncData} (F : Fun K "sent" "sent" st_sent L.f_sent fd) : FnOk P w K mg base CX0 3 L.f_sent fd ["breakers", "states", "time", "up"] (spSent K) := by
  obtain ⟨a_SERVED, c_SERVED, t_SERVED⟩ := T.n_SERVED
  obtain ⟨a_FAILED, c_FAILED, t_FAILED⟩ := T.n_FAILED
  have G_passes := ok_passes (P := P) (w := w) (base := base) T
  have G_statebehind := ok_statebehind (P := P) (w := w) (base := base) T
  have nd := sc_sent.nd
  refine F.ok sc_sent (fun vs H Q E h => ?_) (fun cdv A outer S H vs Q E hr h => ?_)
  · obtain ⟨B, l, xs, ys, bs, ss, t, up, rfl, _⟩ := h
    rfl
  · obtain ⟨B, l, xs, ys, bs, ss, t, up, rfl, hB, hb, hl, hs, sl, bl, ok, k⟩ := h
    refine ⟨_, (pss_cons (ps_set (i := 4) nd rfl (Or.inl rfl) pe_int)
       (C8.pss_cut (ps_while PassesOwn.never (PW.pt (pw_and (pt_cmpR op_lt (pv 4) (pe_callB call_len_seq (by rfl) T.b_len PySem.boot_len (pa_cons (pv 0) pa_nil)) (nomark _)) (pw_and1 (pt_val (pe_c G_passes (hr.mono (by decide)) rfl (pa_cons (pe_ix (r := rIxT K) ix_tup (pv 0) (pv 4) (fun _ _ => rfl)) (pa_cons (pe_ix (r := rIxL K) ix_list (pv 1) (pv 4) (fun _ _ => rfl)) (pa_cons (pv 2) pa_nil)))))))) (pss_one (ps_aug (i := 4) nd rfl (Or.inl rfl) pe_int ip_add)))
       (C8.pss_cut (ps_set (i := 5) nd rfl (Or.inr rfl) (pe_ifExp (pt_val (pv 3)) (pe_glob (by rfl) c_SERVED rr) (pe_glob (by rfl) c_FAILED rr)))
       (C8.pss_cut (ps_if (pt_cmpR op_lt (pv 4) (pe_callB call_len_seq (by rfl) T.b_len PySem.boot_len (pa_cons (pv 0) pa_nil)) (nomark _)) (pss_one (ps_set (i := 5) nd rfl (Or.inr rfl) (pe_tup (pa_cons pe_str (pa_cons (pv 4) pa_nil))))) pss_nil)
       (pss_cons (ps_setLc (i := 6) (own := [("breaker", 7), ("state", 8)]) (g := gTup K 2 (gCons (gName 7) (gCons (gName 8) (gNil)))) (tt := tYes) rfl nd rfl rfl (sw_true rfl rfl rfl (by decide +kernel)) (pi_zipM (by rfl) T.b_zip (pa_cons (pe_slice (r := rSlA K) sl_tupA (pv 0) po_none (po_some (pv 4))) (pa_cons (pv 1) pa_nil))) (blkOk_by (own := [("breaker", 7), ("state", 8)]) (N := N_sent) (sc := defScope st_sent) (by decide +kernel)) (fun _ _ _ _ _ => pg_tup rfl (pgs_cons (pg_name (i := 7) nd rfl (Or.inl rfl)) (pgs_cons (pg_name (i := 8) nd rfl (Or.inl rfl)) pgs_nil))) (fun _ _ _ _ _ => pts_nil) (fun _ _ _ _ _ => (pe_c G_statebehind (hr.mono (by decide)) rfl (pa_cons (pv 7) (pa_cons (pv 8) (pa_cons (pv 2) (pa_cons (pe_cmpR (op_eqDK (K := K) rfl hr.units) (pv 5) (pe_glob (by rfl) c_SERVED rr) (nomark _)) pa_nil)))))))
       (pss_one (ps_ret (pe_tup (pa_cons (pv 5) (pa_cons (pe_op op_cat (pv 6) (pe_slice (r := rSlL K) sl_list (pv 1) (po_some (pv 4)) po_none)) pa_nil)))))))))), ?_⟩
    have xl := hb.len
    have yl := paired_len hs
    refine ⟨fun σ' H' => σ' = [some (.ref B), some (.ref l), some (.int t), some (.bl up), some (.int (kOf bs ss t : Nat)), none, none, none, none] ∧ H' = H, ?_, ?_⟩
    · refine while_by (fun σ H2 => ∃ j : Nat, σ = [some (.ref B), some (.ref l), some (.int t), some (.bl up), some (.int (j : Nat)), none, none, none, none] ∧ j ≤ bs.length ∧ (∀ (i : Nat) (b : Tri) (s : StD), i < j → bs[i]? = some b → ss[i]? = some s → psB b s t) ∧ H2 = H)
        (fun σ _ => match σ with | [_, _, _, _, some (.int r), _, _, _, _] => ((bs.length : Int) - r).toNat | _ => 0)
        ⟨0, rfl, Nat.zero_le _, fun i b s h => absurd h (Nat.not_lt_zero _), rfl⟩ ?_ ?_
      · rintro σ H2 ⟨j, rfl, jl, hj, rfl⟩
        refine ⟨_, rfl, _, rfl, B, _, rfl, .inr hB, _, _, rfl, rfl, _, rfl, ite2 (fun c => ?_) (fun c => ?_)⟩
        · have c' : (j : Int) < xs.length := of_decide_eq_true c
          have jb : j < bs.length := by omega
          obtain ⟨x, hx⟩ : ∃ x, xs[j]? = some x := ⟨_, List.getElem?_eq_getElem (by omega)⟩
          obtain ⟨y, hy⟩ : ∃ y, ys[j]? = some y := ⟨_, List.getElem?_eq_getElem (by omega)⟩
          obtain ⟨b, eb, hbx⟩ := hb.get hx
          obtain ⟨s, es, hsy⟩ := paired_get hs hy
          refine ⟨_, rfl, _, rfl, B, xs, (j : Int), x, rfl, rfl, hB, atI_nat hx, _, rfl, _, rfl, l, ys, (j : Int), y, rfl, rfl, SqL.of hl, atI_nat hy, _, rfl, x, y, b, s, t, rfl, hbx, hsy, _, rfl, ite2 (fun p => ?_) (fun p => ?_)⟩
          · have p' : psB b s t := of_decide_eq_true p
            refine ⟨_, rfl, _, _, rfl, rfl, ⟨j + 1, rfl, jb, fun i b' s' hi e1 e2 => ?_, rfl⟩, ?_⟩
            · by_cases q : i < j
              · exact hj i b' s' q e1 e2
              · have : i = j := by omega
                subst this
                rw [eb] at e1
                rw [es] at e2
                cases e1
                cases e2
                exact p'
            · show ((bs.length : Int) - ((j : Int) + 1)).toNat < ((bs.length : Int) - (j : Int)).toNat
              omega
          · have e := kOf_is sl jl hj fun b' s' e1 e2 => by
              rw [eb] at e1
              rw [es] at e2
              cases e1
              cases e2
              exact fun h => p (decide_eq_true h)
            rw [← e]
            exact ⟨rfl, rfl⟩
        · have c' : ¬ (j : Int) < xs.length := fun h => c (decide_eq_true h)
          have e := kOf_is sl jl hj fun b' s' e1 e2 => absurd (List.getElem?_eq_some_iff.mp e1).1 (by omega)
          rw [← e]
          exact ⟨rfl, rfl⟩
      · rintro σ H Q Q' m ⟨a1, a2, a3, a4, a5, a6, a7, a8, a9, a10, a11, a12, bb, a13, q⟩
        refine ⟨a1, a2, a3, a4, a5, a6, a7, a8, a9, a10, a11, a12, bb, a13, ?_⟩
        cases bb with
        | false => exact iteF (m _ _ (by rwa [if_neg Bool.false_ne_true] at q))
        | true =>
          rw [if_pos rfl] at q
          obtain ⟨b1, b2, b3, b4, b5, b6, b7, b8, b9, b10, b11, b12, b13, b14, b15, b16, b17, b18, b19, b20, b21, b22, b23, b24, b25, b26, b27, b28, b29, b30, b31, b32, b33, b34, b35, b36, q⟩ := q
          exact iteT ⟨b1, b2, b3, b4, b5, b6, b7, b8, b9, b10, b11, b12, b13, b14, b15, b16, b17, b18, b19, b20, b21, b22, b23, b24, b25, b26, b27, b28, b29, b30, b31, b32, b33, b34, b35, b36, m _ _ q⟩
    rintro σ' H' ⟨rfl, rfl⟩
    have kl := kOf_le bs ss t
    obtain ⟨n, hn⟩ : ∃ n, n = kOf bs ss t := ⟨_, rfl⟩
    refine ⟨fun σ2 H2 => ∃ a, σ2 = [some (.ref B), some (.ref l), some (.int t), some (.bl up), some (.int (kOf bs ss t : Nat)), some (.ref a), none, none, none] ∧ SqT K H2 a (outV bs.length bs.length (!up)) ∧ H2 = H', ?_, ?_⟩
    · rw [outV_n]
      cases up with
      | true => exact ⟨_, rfl, _, rfl, iteT ⟨a_SERVED, rfl, t_SERVED _, rfl⟩⟩
      | false => exact ⟨_, rfl, _, rfl, iteF ⟨a_FAILED, rfl, t_FAILED _, rfl⟩⟩
    rintro σ2 H2 ⟨a, rfl, ha, rfl⟩
    refine ⟨fun σ3 H3 => ∃ a, σ3 = [some (.ref B), some (.ref l), some (.int t), some (.bl up), some (.int (kOf bs ss t : Nat)), some (.ref a), none, none, none] ∧ SqT K H3 a (outV bs.length (kOf bs ss t) (!up)) ∧ Same H2 H3, ?_, ?_⟩
    · refine ⟨_, rfl, _, rfl, B, _, rfl, .inr hB, _, _, rfl, rfl, _, rfl, ite2 (fun c => ?_) (fun c => ?_)⟩
      · have c' : (kOf bs ss t : Int) < xs.length := of_decide_eq_true c
        refine ⟨_, rfl, (by show 2 ≤ sizeLine; decide), fun p np => ⟨p, rfl, ?_, Same.upd np⟩⟩
        rw [outV_k (show kOf bs ss t < bs.length by omega)]
        exact SqT.of upd_same
      · have c' : ¬ (kOf bs ss t : Int) < xs.length := fun h => c (decide_eq_true h)
        have e : kOf bs ss t = bs.length := by omega
        rw [e]
        exact ⟨a, rfl, ha, Same.refl _⟩
    rintro σ3 H3 ⟨a, rfl, ha, s3⟩
    -- the comprehension
    refine ⟨_, rfl, _, rfl, (kOf bs ss t : Int), rfl, slA_by (hB.ext fun b o e => s3 b o e) fun Bq H4 hBq s4 => ?_⟩
    rw [cut_take0 xs (kOf bs ss t) (by omega)] at hBq
    have s34 := s3.trans s4
    refine ⟨_, rfl, Bq, l, xs.take (kOf bs ss t), ys, rfl, hBq, SqL.of (s34 _ _ hl), fun D nD => ?_⟩
    have hxn : (xs.take (kOf bs ss t)).length = kOf bs ss t := by rw [List.length_take]; omega
    refine lc_zipM (K := K) (a := Bq) (b := l) (xs := xs.take (kOf bs ss t)) (ys := ys) (by omega) (fun j Hy => ∃ ws, Hy D = some (.lst ws) ∧ Sts Hy ws ((List.zipWith (fun b s => stpS b s t (decide (kOf bs ss t = bs.length) && up)) (bs.take (kOf bs ss t)) ss).take j) ∧ Same H4 Hy)
      ⟨[], upd_same, .nil, Same.upd nD⟩ (fun j Hy ⟨_, _, _, sy⟩ => ⟨hBq.ext fun b o e => sy b o e, SqL.of (sy _ _ (s34 _ _ hl))⟩) ?_ ?_
    · rintro j x y T' Hy hxj hyj ⟨ws, hws, hz, sy⟩ hT
      have jn : j < kOf bs ss t := by have := (List.getElem?_eq_some_iff.mp hxj).1; omega
      rw [List.getElem?_take, if_pos jn] at hxj
      obtain ⟨b, eb, hbx⟩ := hb.get hxj
      obtain ⟨s, es, hsy⟩ := paired_get hs hyj
      have wl := paired_len hz
      rw [List.length_take, List.length_zipWith, List.length_take] at wl
      have sT := Same.upd (o := .tup [x, y]) hT
      have s5 := (s34.trans sy).trans sT
      refine ⟨T', _, rfl, SqT.of upd_same, rfl, _, _, rfl, _, _, rfl, rfl, rfl, tYes_of ?_⟩
      have hd : Dp K (upd Hy T' (.tup [x, y])) (.ref a) (outD bs.length (kOf bs ss t) (!up)) := TldAt.dp ⟨a, rfl, ha.ext fun b o e => ((s4.trans sy).trans sT) b o e⟩
      refine ⟨_, rfl, _, rfl, _, rfl, _, rfl, _, _, hd, .tup (t_SERVED _) (.cons (.str _) .nil), outD_sh _ _ _, served_sh, ?_⟩
      rw [outD_served _ _ _ kl, Bool.not_not]
      refine ⟨x, y, b, s, t, _, rfl, hbx.nl (NL.of s5), hsy.same s5, ok s (List.mem_of_getElem? es), fun c H6 hc s6 nc => ?_⟩
      have hw6 := s6 _ _ (sT _ _ hws)
      have n7 := NL.upd (o := .lst (ws ++ [.ref c])) hw6
      refine ⟨ws, hw6, small1 (by omega), ws ++ [.ref c], upd_same, ?_, fun u o e => ?_⟩
      · have ez : (List.zipWith (fun b s => stpS b s t (decide (kOf bs ss t = bs.length) && up)) (bs.take (kOf bs ss t)) ss)[j]? = some (stpS b s t (decide (kOf bs ss t = bs.length) && up)) := by
          rw [List.getElem?_zipWith, List.getElem?_take, if_pos jn, eb, es]
        rw [List.take_add_one, ez]
        exact paired_app (((hz.same sT).same s6).nl n7) (.cons ⟨c, rfl, n7 _ _ hc fun _ z => nomatch z⟩ .nil)
      · rw [upd_ne (ne_of_none e nD)]
        exact s6 _ _ (sT _ _ (sy _ _ e))
    rintro Hy ⟨ws, hws, hz, sy⟩
    rw [List.take_of_length_le (by rw [List.length_zipWith, List.length_take]; omega)] at hz
    have s4y := s34.trans sy
    refine ⟨_, rfl, _, rfl, _, rfl, _, rfl, (kOf bs ss t : Int), rfl, l, ys, rfl, SqL.of (s4y _ _ hl), fun lt nlt => ?_⟩
    rw [cut_drop0 ys (kOf bs ss t) (by omega)]
    have s6 := Same.upd (o := .lst (ys.drop (kOf bs ss t))) nlt
    have wl := paired_len hz
    rw [List.length_zipWith, List.length_take] at wl
    refine ⟨D, lt, ws, ys.drop (kOf bs ss t), rfl, rfl, s6 _ _ hws, upd_same, small2 (by rw [List.length_drop]; omega), fun l2 nl2 => ?_⟩
    have s7 := Same.upd (o := .lst (ws ++ ys.drop (kOf bs ss t))) nl2
    refine ⟨(by show 2 ≤ sizeLine; decide), fun q nq => ?_⟩
    have s8 := Same.upd (o := .tup [.ref a, .ref l2]) nq
    have s48 := (((s4y.trans s6).trans s7).trans s8)
    have sA : Same H3 _ := (((s4.trans sy).trans s6).trans s7).trans s8
    refine k q (.ref a) l2 (ws ++ ys.drop (kOf bs ss t)) _ upd_same ⟨a, rfl, ha.ext fun b o e => sA b o e⟩ (s8 _ _ upd_same) ?_ s48 (none_of ((s4y.trans s6).trans s7) nq) (none_of (s4y.trans s6) nl2)
    rw [sntS_cut sl]
    exact paired_app ((((hz.same s6).same s7).same s8)) (paired_drop _ (hs.same s48))
theorem ok_sent (T : LX K mg L) : Cal P w K mg base "sent" 3 L.f_sent ["breakers", "states", "time", "up"] (spSent K) := T.d_sent.cal fun fd F => fn_sent T F
end
/-! ### == of rows -/
def spEqR (C : Addr) : Sp := fun vs H Q _ => ∃ p B xs ts st ph v b, vs = [.ref p, v] ∧ RowAt C H p B xs ts st ph ∧ EqOf C H (ts, st, ph) v b ∧ Q (.bl b) H
section
variable {P : Program} {w : World} {K : PySem.W.Frag} {mg : Str → Option Value} {base : Heap} {L : LA}
abbrev N_Roweq : List Str := ["self", "other"]
theorem sc_Roweq : FnScope N_Roweq ["self", "other"] (defScope st_Row_eq) := ⟨rfl, rfl, rfl, by decide +kernel, rfl, by decide +kernel, by decide +kernel⟩
theorem fn_Roweq (T : LX K mg L) {fd : FuncData} (F : Fun K "__eq__" "Row.__eq__" st_Row_eq L.m_Row_eq fd) : FnOk P w K mg base CX0 1 L.m_Row_eq fd ["self", "other"] (spEqR L.c_Row) := by
  have M_Row := T.gc_Row
  have nd := sc_Roweq.nd
  refine F.ok sc_Roweq (fun vs H Q E h => ?_) (fun cdv A outer S H vs Q E hr h => ?_)
  · obtain ⟨p, B, xs, ts, st, ph, v, b, rfl, _⟩ := h
    rfl
  · obtain ⟨p, B, xs, ts, st, ph, v, b, rfl, R, h, k⟩ := h
    refine ⟨_, (pss_one (ps_ret (pe_and (pe_callB call_isi (by rfl) T.b_isinstance (by decide +kernel) (pa_cons (pv 1) (pa_cons (pe_glob rfl M_Row rr) pa_nil))) (pe_and (pe_cmpR (op_eqD hr.units) (pe_fld (pv 0) rfl) (pe_fld (pv 1) rfl) (nomark _)) (pe_and (pe_cmpR op_eq (pe_fld (pv 0) rfl) (pe_fld (pv 1) rfl) (nomark _)) (pe_one (pe_cmpR op_eq (pe_fld (pv 0) rfl) (pe_fld (pv 1) rfl) (nomark _)))))))), ?_⟩
    obtain ⟨dx, hp⟩ := R.ob
    cases h with
    | non => exact ⟨_, rfl, _, .ref L.c_Row, _, _, _, rfl, .own L.c_Row, Kd.non.ty, T.cf_Row.kitT (H := H) .non, _, rfl, iteF k⟩
    | lst e => exact ⟨_, rfl, _, .ref L.c_Row, _, _, _, rfl, .own L.c_Row, (Kd.lst e).ty, T.cf_Row.kitT (.lst e), _, rfl, iteF k⟩
    | tup e => exact ⟨_, rfl, _, .ref L.c_Row, _, _, _, rfl, .own L.c_Row, (Kd.tup e).ty, T.cf_Row.kitT (.tup e), _, rfl, iteF k⟩
    | @row q U ys us st' ph' R' =>
      obtain ⟨dy, hq⟩ := R'.ob
      refine ⟨_, rfl, _, .ref L.c_Row, _, _, _, rfl, .own L.c_Row, T.cf_Row.tyR hq, if_pos (beq_self_eq_true _), _, rfl, iteT ?_⟩
      refine ⟨_, rfl, p, L.c_Row, dx, _, _, rfl, hp, T.cf_Row.cl, T.nf_Row_breakers, rowF_b _ _ _, _, rfl, q, L.c_Row, dy, _, _, rfl, hq, T.cf_Row.cl, T.nf_Row_breakers, rowF_b _ _ _, .tuple (ts.map triD), .tuple (us.map triD), .tup (SqT.of R.tp) R.br.dp, .tup (SqT.of R'.tp) R'.br.dp, shT _, shT _, _, rfl, ?_⟩
      have e0 : PyData.eqv (.tuple (ts.map triD)) (.tuple (us.map triD)) = decide (ts = us) := by rw [PyData.eqv]; exact triDs_eq ts us
      rw [e0]
      have fin : ∀ c : Bool, decide ((ts, st, ph) = (us, st', ph')) = c → Q (.bl c) H := fun c e => by rw [← e]; exact k
      refine ite2 (fun c1 => ?_) (fun c1 => ?_)
      · have c1' : ts = us := of_decide_eq_true c1
        refine ⟨_, rfl, p, L.c_Row, dx, _, _, rfl, hp, T.cf_Row.cl, T.nf_Row_step, rowF_s _ _ _, _, rfl, q, L.c_Row, dy, _, _, rfl, hq, T.cf_Row.cl, T.nf_Row_step, rowF_s _ _ _, rfl, _, rfl, ?_⟩
        refine ite2 (fun c2 => ?_) (fun c2 => ?_)
        · have c2' : st = st' := V.int.inj (of_decide_eq_true c2)
          refine ⟨_, rfl, p, L.c_Row, dx, _, _, rfl, hp, T.cf_Row.cl, T.nf_Row_phase, rowF_p _ _ _, _, rfl, q, L.c_Row, dy, _, _, rfl, hq, T.cf_Row.cl, T.nf_Row_phase, rowF_p _ _ _, rfl, fin _ ?_⟩
          subst c1' c2'
          rw [Bool.eq_iff_iff]
          simp
        · refine fin false (decide_eq_false fun e => c2 (decide_eq_true ?_))
          have e' : st = st' := congrArg (fun z : RDat => z.2.1) e
          rw [e']
      · refine fin false (decide_eq_false fun e => c1 (decide_eq_true ?_))
        exact congrArg (fun z : RDat => z.1) e
theorem ok_Roweq (T : LX K mg L) : Met P w K mg base L.c_Row "__eq__" 1 L.m_Row_eq ["self", "other"] (spEqR L.c_Row) := T.mm_Row_eq.met fun fd F => fn_Roweq T F
end
theorem EqOf.tyN {C : Addr} {H : Hp} {d : RDat} {v : V} {b : Bool} (h : EqOf C H d v b) : ∃ t, TyN H C v t := by
  cases h with
  | row R => obtain ⟨dx, h⟩ := R.ob; exact ⟨_, .ins h⟩
  | non => exact ⟨_, .non⟩
  | lst e => exact ⟨_, .lst e⟩
  | tup e => exact ⟨_, .tup e⟩
theorem ne_row {C : Addr} {H : Hp} {z W : Addr} {xs : List V} {ts : List Tri} {st ph : Int} {v : V} {b : Bool} {Q : VK} (R : RowAt C H z W xs ts st ph) (h : EqOf C H (ts, st, ph) v b) (k : Q (.bl (!b)) H) : rOwnEq C (spEqR C) E0 Bool.not (.ref z) v H Q := by
  obtain ⟨dx, hz⟩ := R.ob
  obtain ⟨t, ty⟩ := h.tyN
  exact ⟨z, dx, _, t, rfl, hz, ty, z, W, xs, ts, st, ph, v, b, rfl, R, h, b, rfl, k⟩
theorem eq_row {C : Addr} {H : Hp} {z W : Addr} {xs : List V} {ts : List Tri} {st ph : Int} {v : V} {b : Bool} {Q : VK} (R : RowAt C H z W xs ts st ph) (h : EqOf C H (ts, st, ph) v b) (k : Q (.bl b) H) : rOwnEq C (spEqR C) E0 _root_.id (.ref z) v H Q := by
  obtain ⟨dx, hz⟩ := R.ob
  obtain ⟨t, ty⟩ := h.tyN
  exact ⟨z, dx, _, t, rfl, hz, ty, z, W, xs, ts, st, ph, v, b, rfl, R, h, b, rfl, k⟩
/-! ### sets of addresses -/
def AvS : Type := Addr → Prop
instance : Membership Addr AvS := ⟨fun s a => s a⟩
def AvS.non : AvS := fun _ => False
def AvS.add (a : Addr) (s : AvS) : AvS := fun b => b = a ∨ s b
def AvS.dom (H : Hp) : AvS := fun b => H b ≠ none
theorem AvS.mem {a b : Addr} {s : AvS} : b ∈ AvS.add a s ↔ b = a ∨ b ∈ s := Iff.rfl
theorem AvS.hd {a : Addr} {s : AvS} : a ∈ AvS.add a s := .inl rfl
theorem AvS.tl {a b : Addr} {s : AvS} (h : b ∈ s) : b ∈ AvS.add a s := .inr h
theorem AvS.of {H : Hp} {b : Addr} {o : HO} (e : H b = some o) : b ∈ AvS.dom H := by
  show H b ≠ none
  rw [e]
  exact fun z => nomatch z
/-! ### rows played -/
theorem Met.p_m1 {X : Cx} {C : Addr} {k : Nat} {f : Addr} {ps : List Str} {sp : Sp} {m : Str} {o e : Expr} {es : List Expr} {ta : TE} {t : TA} {apos pos : Pos} {pl : Sem Bool} (c : Met X.prog X.w X.K X.mg X.base C m k f ps sp) (cl : Cls X.K C) (hr : Room k X.A) (he : PE X o ta) (ha : PA X (e :: es) t)
    (hst : starEach (e :: es) X.env = (false, eval e X.env) :: starEach es X.env := by rfl) (hpl : (backTo pos (starEach es X.env)).any (·.1) = false := by rfl)
    (ht : eval (.Call (.Attribute o m apos) (e :: es) [] pos) X.env = (do let ov ← eval o X.env; standAt apos.atName; let (f, first) ← holding [ov] (getMethod ov m pl); callWith pos f first (backTo pos (starEach (e :: es) X.env)) (backToKw pos (keywordEach [] X.env))) := by rfl) :
    PE X (.Call (.Attribute o m apos) (e :: es) [] pos) (tMeth C m sp [] E0 ta t) := by
  obtain ⟨fd, F, b⟩ := c.ex
  exact pe_meth he cl c.me F hr b .nil pass0 ha hst hpl ht
theorem TldAt.nl {K : PySem.W.Frag} {H H' : Hp} {x : V} {n k : Nat} {up : Bool} (h : TldAt K H x n k up) (s : NL H H') : TldAt K H' x n k up := by
  obtain ⟨a, e, hq⟩ := h
  refine ⟨a, e, ?_⟩
  rcases hq with hq | hq
  · rcases hq with hq | hq
    · exact SqT.of (s _ _ hq fun _ z => nomatch z)
    · exact .inl (.inr (by obtain ⟨u, hq⟩ := hq; exact ⟨u, s _ _ hq fun _ z => nomatch z⟩))
  · exact .inr hq
def wS (up : Bool) : Str := if up = true then "up" else "down"
def wV (up : Bool) : V := .str (wS up)
theorem wS_up : wS true = "up" := rfl
theorem wS_down : wS false = "down" := rfl
theorem up_ne : ¬ (("down" : Str) = "up") := by decide +kernel
/-- the states behind words, from so many requests on -/
def plS (ts : List Tri) (st ph : Int) : Nat → List StD → List Bool → List StD
  | _, ss, [] => ss
  | n, ss, w :: r => plS ts st ph (n + 1) (sntS ts ss (ph + (n : Int) * st) w) r
theorem plS_app (ts : List Tri) (st ph : Int) : ∀ (ws : List Bool) (n : Nat) (ss : List StD) (w : Bool), plS ts st ph n ss (ws ++ [w]) = sntS ts (plS ts st ph n ss ws) (ph + ((n + ws.length : Nat) : Int) * st) w
  | [], _, _, _ => rfl
  | v :: r, n, ss, w => by
    show plS ts st ph (n + 1) (sntS ts ss (ph + (n : Int) * st) v) (r ++ [w]) = _
    rw [plS_app ts st ph r]
    show _ = sntS ts (plS ts st ph (n + 1) (sntS ts ss (ph + (n : Int) * st) v) r) (ph + ((n + (r.length + 1) : Nat) : Int) * st) w
    rw [show n + 1 + r.length = n + (r.length + 1) by omega]
def plA (ts : List Tri) (st ph : Int) (ws : List Bool) : List StD := plS ts st ph 0 (List.replicate ts.length ("closed", 0)) ws
theorem plA_nil (ts : List Tri) (st ph : Int) : plA ts st ph [] = List.replicate ts.length (("closed", 0) : StD) := rfl
theorem plA_app (ts : List Tri) (st ph : Int) (ws : List Bool) (w : Bool) : plA ts st ph (ws ++ [w]) = sntS ts (plA ts st ph ws) (ph + (ws.length : Int) * st) w := by
  unfold plA
  rw [plS_app, Nat.zero_add]
theorem plS_ok (ts : List Tri) (st ph : Int) : ∀ (ws : List Bool) (n : Nat) (ss : List StD), ss.length = ts.length → (∀ s ∈ ss, okW s) → (plS ts st ph n ss ws).length = ts.length ∧ ∀ s ∈ plS ts st ph n ss ws, okW s
  | [], _, _, h1, h2 => ⟨h1, h2⟩
  | _ :: r, n, _, h1, h2 => plS_ok ts st ph r (n + 1) _ sntS_len (sntS_W h1 h2)
theorem plA_ok (ts : List Tri) (st ph : Int) (ws : List Bool) : (plA ts st ph ws).length = ts.length ∧ ∀ s ∈ plA ts st ph ws, okW s :=
  plS_ok ts st ph ws 0 _ List.length_replicate fun s hs => by rw [List.eq_of_mem_replicate hs]; exact .inl rfl
theorem q1 : ¬ (("row" : Str) = "words") := by decide +kernel
theorem q2 : ¬ (("row" : Str) = "history") := by decide +kernel
theorem q3 : ¬ (("words" : Str) = "history") := by decide +kernel
def plF (r aw ah : Addr) : List (Str × V) := putF "history" (.ref ah) (putF "words" (.ref aw) (putF "row" (.ref r) []))
theorem plF_r (r aw ah : Addr) : (plF r aw ah).lookup ("row" : Str) = some (.ref r) := by
  unfold plF
  rw [lookup_putF, if_neg q2, lookup_putF, if_neg q1, lookup_putF, if_pos rfl]
theorem plF_w (r aw ah : Addr) : (plF r aw ah).lookup ("words" : Str) = some (.ref aw) := by
  unfold plF
  rw [lookup_putF, if_neg q3, lookup_putF, if_pos rfl]
theorem plF_h (r aw ah : Addr) : (plF r aw ah).lookup ("history" : Str) = some (.ref ah) := by
  unfold plF
  rw [lookup_putF, if_pos rfl]
theorem plF_no (r aw ah : Addr) {m : Str} (h1 : ¬ m = "history") (h2 : ¬ m = "words") (h3 : ¬ m = "row") : (plF r aw ah).lookup m = none := by
  unfold plF
  rw [lookup_putF, if_neg h1, lookup_putF, if_neg h2, lookup_putF, if_neg h3]
  all_goals rfl
/-- a Playing stands at p -/
structure PlAt (CR C : Addr) (H : Hp) (p r B aw ah : Addr) (xs : List V) (ts : List Tri) (st ph : Int) (ws : List Bool) (ls : List Addr) : Prop where
  ob : ∃ dx, H p = some (.ins C dx (plF r aw ah))
  row : RowAt CR H r B xs ts st ph
  hw : H aw = some (.lst (ws.map wV))
  hh : H ah = some (.lst (ls.map V.ref))
  ln : ls.length = ws.length + 1
  hs : ∀ (k : Nat) (l : Addr), ls[k]? = some l → ∃ ys, H l = some (.lst ys) ∧ Sts H ys (plA ts st ph (ws.take k))
  n1 : aw ≠ ah
  n2 : aw ∉ ls
  n3 : ah ∉ ls
/-- .. whose own lists are none of these -/
def PlV (CR C : Addr) (av : AvS) (H : Hp) (p : Addr) (ts : List Tri) (st ph : Int) (ws : List Bool) : Prop := ∃ r B aw ah xs ls, PlAt CR C H p r B aw ah xs ts st ph ws ls ∧ ∀ b ∈ av, b ≠ aw ∧ b ≠ ah ∧ b ∉ ls
/-- what stays but for the lists of a list -/
def KeB (av : AvS) (H H' : Hp) : Prop := ∀ b o, H b = some o → (b ∉ av ∨ ∀ xs, o ≠ .lst xs) → H' b = some o
/-- what stays of the lists of a list -/
def KeV (av : AvS) (H H' : Hp) : Prop := ∀ b o, H b = some o → (b ∈ av ∨ ∀ xs, o ≠ .lst xs) → H' b = some o
theorem KeB.nl {av : AvS} {H H' : Hp} (k : KeB av H H') : NL H H' := fun b o e n => k b o e (.inr n)
theorem KeV.nl {av : AvS} {H H' : Hp} (k : KeV av H H') : NL H H' := fun b o e n => k b o e (.inr n)
theorem KeB.same {av : AvS} {H H' : Hp} (s : Same H H') : KeB av H H' := fun b o e _ => s b o e
theorem KeV.same {av : AvS} {H H' : Hp} (s : Same H H') : KeV av H H' := fun b o e _ => s b o e
theorem KeV.trans {av : AvS} {H H1 H2 : Hp} (h : KeV av H H1) (h' : KeV av H1 H2) : KeV av H H2 := fun b o e q => h' b o (h b o e q) q
theorem KeB.kp {av : AvS} {a : Addr} {xs : List V} {H H' : Hp} (k : Kp a H H') (m : a ∈ av) (h : H a = some (.lst xs)) : KeB av H H' := fun b o e q => by
  by_cases c : b = a
  · subst c
    rw [h] at e
    cases e
    rcases q with q | q
    · exact absurd m q
    · exact absurd rfl (q _)
  · exact k b o c e
theorem PlAt.keB {CR C : Addr} {H H' : Hp} {p r B aw ah : Addr} {xs : List V} {ts : List Tri} {st ph : Int} {ws : List Bool} {ls : List Addr} {av : AvS} (Y : PlAt CR C H p r B aw ah xs ts st ph ws ls) (n : ∀ b ∈ av, b ≠ aw ∧ b ≠ ah ∧ b ∉ ls) (k : KeB av H H') : PlAt CR C H' p r B aw ah xs ts st ph ws ls := by
  obtain ⟨dx, ob⟩ := Y.ob
  refine ⟨⟨dx, k _ _ ob (.inr fun _ z => nomatch z)⟩, Y.row.nl k.nl, k _ _ Y.hw (.inl fun m => (n _ m).1 rfl), k _ _ Y.hh (.inl fun m => (n _ m).2.1 rfl), Y.ln, fun j l e => ?_, Y.n1, Y.n2, Y.n3⟩
  obtain ⟨ys, h1, h2⟩ := Y.hs j l e
  exact ⟨ys, k _ _ h1 (.inl fun m => (n _ m).2.2 (List.mem_of_getElem? e)), h2.nl k.nl⟩
theorem PlV.keB {CR C : Addr} {H H' : Hp} {p : Addr} {ts : List Tri} {st ph : Int} {ws : List Bool} {av : AvS} (Y : PlV CR C av H p ts st ph ws) (k : KeB av H H') : PlV CR C av H' p ts st ph ws := by
  obtain ⟨r, B, aw, ah, xs, ls, Y, n⟩ := Y
  exact ⟨r, B, aw, ah, xs, ls, Y.keB n k, n⟩
theorem PlV.same {CR C : Addr} {H H' : Hp} {p : Addr} {ts : List Tri} {st ph : Int} {ws : List Bool} {av : AvS} (Y : PlV CR C av H p ts st ph ws) (s : Same H H') : PlV CR C av H' p ts st ph ws := Y.keB (.same s)
/-- one list more that is none of its own -/
theorem PlV.more {CR C : Addr} {H H' : Hp} {p a : Addr} {ts : List Tri} {st ph : Int} {ws : List Bool} {av : AvS} (Y : PlV CR C av H p ts st ph ws) (s : Same H H') (h : H a = none) : PlV CR C (AvS.add a av) H' p ts st ph ws := by
  obtain ⟨r, B, aw, ah, xs, ls, Y, n⟩ := Y
  refine ⟨r, B, aw, ah, xs, ls, Y.keB n (.same s), fun b hb => ?_⟩
  rcases AvS.mem.mp hb with rfl | hb
  · refine ⟨fun e => ?_, fun e => ?_, fun m => ?_⟩
    · rw [e, Y.hw] at h; cases h
    · rw [e, Y.hh] at h; cases h
    · obtain ⟨j, hj⟩ := List.mem_iff_getElem?.mp m
      obtain ⟨ys, h1, _⟩ := Y.hs j b hj
      rw [h1] at h; cases h
  · exact n b hb
theorem PlV.less {CR C : Addr} {H : Hp} {p : Addr} {ts : List Tri} {st ph : Int} {ws : List Bool} {av aw : AvS} (Y : PlV CR C av H p ts st ph ws) (h : ∀ b ∈ aw, b ∈ av) : PlV CR C aw H p ts st ph ws := by
  obtain ⟨r, B, a1, ah, xs, ls, Y, n⟩ := Y
  exact ⟨r, B, a1, ah, xs, ls, Y, fun b hb => n b (h b hb)⟩
theorem PlV.ob {CR C : Addr} {H : Hp} {p : Addr} {ts : List Tri} {st ph : Int} {ws : List Bool} {av : AvS} (Y : PlV CR C av H p ts st ph ws) : ∃ dx r aw ah, H p = some (.ins C dx (plF r aw ah)) := by
  obtain ⟨r, B, a1, ah, xs, ls, Y, n⟩ := Y
  obtain ⟨dx, h⟩ := Y.ob
  exact ⟨dx, r, a1, ah, h⟩
theorem PlV.rowD {CR C : Addr} {H : Hp} {p : Addr} {ts : List Tri} {st ph : Int} {ws : List Bool} {av : AvS} (Y : PlV CR C av H p ts st ph ws) : ts.length ≤ 12 := by
  obtain ⟨r, B, aw, ah, xs, ls, Y, n⟩ := Y
  exact Y.row.ln
theorem RowAt.kpn {C : Addr} {H H' : Hp} {p r B : Addr} {xs : List V} {ts : List Tri} {st ph : Int} (R : RowAt C H r B xs ts st ph) (k : Kp p H H') (n : r ≠ p) (hp : ∃ D dx fs, H p = some (.ins D dx fs)) : RowAt C H' r B xs ts st ph := by
  obtain ⟨dx, ob⟩ := R.ob
  obtain ⟨D, dy, fs, hp⟩ := hp
  have tp : ∀ b us, H b = some (.tup us) → H' b = some (.tup us) := fun b us e => k _ _ (ne_of e hp (by intro z; cases z)) e
  exact ⟨⟨dx, k _ _ n ob⟩, tp _ _ R.tp, L2.Paired.mapP R.br fun _ _ ⟨a, e, h⟩ => ⟨a, e, tp _ _ h⟩, R.ok, R.ln, R.s0, R.s1, R.p0, R.p1⟩
/-- words as data -/
def wD (up : Bool) : PyData := .str (wS up)
theorem ws_dp {K : PySem.W.Frag} {H : Hp} : ∀ ws : List Bool, DpAll K H (ws.map wV) (ws.map wD)
  | [] => .nil
  | w :: r => .cons (.str _) (ws_dp r)
theorem ws_can : ∀ ws : List Bool, PyData.canLayAll0 (ws.map wD) = true ∧ PyData.depthAll (ws.map wD) ≤ 10
  | [] => ⟨by simp [PyData.canLayAll0], by simp [PyData.depthAll]⟩
  | w :: r => by
    obtain ⟨h1, h2⟩ := ws_can r
    have ok : PyData.strOk (wS w) = true := by cases w <;> decide +kernel
    refine ⟨?_, ?_⟩
    · rw [List.map_cons, PyData.canLayAll0, h1]
      simp [wD, PyData.canLay0, ok]
    · rw [List.map_cons, PyData.depthAll]
      have h3 : (wD w).depth ≤ 10 := by simp [wD, PyData.depth]
      omega
theorem ws_sh (ws : List Bool) : SeqAt.shaped (.list (ws.map wD)) = true := by
  obtain ⟨h1, h2⟩ := ws_can ws
  refine Bool.and_eq_true_iff.mpr ⟨?_, decide_eq_true ?_⟩
  · rw [PyData.canLay0]
    exact h1
  · rw [PyData.depth]
    omega
theorem wS_inj {a b : Bool} : wS a = wS b ↔ a = b := by
  cases a <;> cases b <;> decide +kernel
theorem ws_eqA : ∀ ws vs : List Bool, PyData.eqvAll (ws.map wD) (vs.map wD) = decide (ws = vs)
  | [], [] => by simp [PyData.eqvAll]
  | [], _ :: _ => by simp [PyData.eqvAll]
  | _ :: _, [] => by simp [PyData.eqvAll]
  | a :: ws, b :: vs => by
    rw [List.map_cons, List.map_cons, PyData.eqvAll, ws_eqA ws vs, Bool.eq_iff_iff]
    simp [wD, PyData.eqv, wS_inj]
theorem ws_eq (ws vs : List Bool) : PyData.eqv (.list (ws.map wD)) (.list (vs.map wD)) = decide (ws = vs) := by
  rw [PyData.eqv]
  exact ws_eqA ws vs
theorem Dp.ws {K : PySem.W.Frag} {H : Hp} {a : Addr} {ws : List Bool} (h : H a = some (.lst (ws.map wV))) : Dp K H (.ref a) (.list (ws.map wD)) := .lst (SqL.of h) (ws_dp ws)
theorem word_up (up : Bool) : decide (wV up = V.str "up") = up := by
  cases up with
  | true => exact decide_eq_true rfl
  | false => exact decide_eq_false fun e => up_ne (V.str.inj e)
/-! promises -/
def spIsWord : Sp := fun vs H Q _ => ∃ up, vs = [wV up] ∧ ∀ H', Same H H' → Q (.bl true) H'
def spPInit (CR C : Addr) : Sp := fun vs H Q _ => ∃ p dx r B xs ts st ph, vs = [.ref p, .ref r] ∧ H p = some (.ins C dx []) ∧ RowAt CR H r B xs ts st ph ∧
  ∀ aw ah l H', PlAt CR C H' p r B aw ah xs ts st ph [] [l] → H aw = none → H ah = none → H l = none → Kp p H H' → Q .non H'
def spPBase (CR C : Addr) : Sp := fun vs H Q _ => ∃ p av ts st ph ws, vs = [.ref p] ∧ PlV CR C av H p ts st ph ws ∧ ∀ r B xs, RowAt CR H r B xs ts st ph → Q (.ref r) H
def spPNext (CR C : Addr) : Sp := fun vs H Q _ => ∃ p av ts st ph ws, vs = [.ref p] ∧ PlV CR C av H p ts st ph ws ∧ ws.length ≤ 10000 ∧ Q (.int (ph + (ws.length : Int) * st)) H
def spPReq (K : PySem.W.Frag) (CR C : Addr) : Sp := fun vs H Q _ => ∃ p av ts st ph ws up, vs = [.ref p, wV up] ∧ PlV CR C av H p ts st ph ws ∧ ws.length < 10000 ∧ (∀ b ∈ av, H b ≠ none) ∧
  ∀ x H', TldAt K H' x ts.length (kOf ts (plA ts st ph ws) (ph + (ws.length : Int) * st)) up → PlV CR C av H' p ts st ph (ws ++ [up]) → KeV av H H' → Q x H'
def spPStates (CR C : Addr) : Sp := fun vs H Q _ => ∃ p av ts st ph ws, vs = [.ref p] ∧ PlV CR C av H p ts st ph ws ∧ ∀ l ys H', H' l = some (.lst ys) → Sts H' ys (plA ts st ph ws) → Same H H' → H l = none → Q (.ref l) H'
def spPWhole (CR C : Addr) : Sp := fun vs H Q _ => ∃ p av ts st ph ws, vs = [.ref p] ∧ PlV CR C av H p ts st ph ws ∧ ∀ H', Same H H' → Q (.bl (decide (plA ts st ph ws = List.replicate ts.length (("closed", 0) : StD)))) H'
def spPLog (CR C : Addr) : Sp := fun vs H Q _ => ∃ p av ts st ph ws, vs = [.ref p] ∧ PlV CR C av H p ts st ph ws ∧ ∀ l H', H' l = some (.lst (ws.map wV)) → Same H H' → H l = none → Q (.ref l) H'
theorem playing_made {CR C : Addr} {H : Hp} {Q : Addr → Hp → Prop} {r B : Addr} {xs : List V} {ts : List Tri} {st ph : Int} (R : RowAt CR H r B xs ts st ph) (k : ∀ p H', PlV CR C AvS.non H' p ts st ph [] → (∀ av : AvS, (∀ b ∈ av, H b ≠ none) → PlV CR C av H' p ts st ph []) → Same H H' → H p = none → Q p H') :
    ∀ x dx, H x = none → H dx = none → dx ≠ x → spPInit CR C [.ref x, .ref r] (upd (upd H dx (.own x)) x (.ins C dx [])) (fun v H3 => v = .non ∧ Q x H3) E0 := by
  intro x dx hx hd hne
  have s0 : Same H (upd (upd H dx (.own x)) x (.ins C dx [])) := fun b o e => by
    rw [upd_ne (ne_of_none e hx), upd_ne (ne_of_none e hd)]
    exact e
  refine ⟨x, dx, r, B, xs, ts, st, ph, rfl, upd_same, R.nl (NL.of s0), fun aw ah l H' Y nw nh nl kp => ⟨rfl, k x H' ⟨r, B, aw, ah, xs, [l], Y, fun b hb => hb.elim⟩ (fun av hav => ⟨r, B, aw, ah, xs, [l], Y, fun b hb => ?_⟩) (fun b o e => kp b o (ne_of_none e hx) (s0 b o e)) hx⟩⟩
  refine ⟨fun e => hav b hb ?_, fun e => hav b hb ?_, fun m => hav b hb ?_⟩
  · rw [e]; exact none_of s0 nw
  · rw [e]; exact none_of s0 nh
  · rw [List.mem_singleton.mp m]; exact none_of s0 nl
section
variable {P : Program} {w : World} {K : PySem.W.Frag} {mg : Str → Option Value} {base : Heap} {L : LA}
abbrev N_isword : List Str := ["value"]
theorem sc_isword : FnScope N_isword ["value"] (defScope st_is_word) := ⟨rfl, rfl, rfl, by decide +kernel, rfl, by decide +kernel, by decide +kernel⟩
theorem fn_isword (T : LX K mg L) {fd : FuncData} (F : Fun K "is_word" "is_word" st_is_word L.f_is_word fd) : FnOk P w K mg base CX0 1 L.f_is_word fd ["value"] (spIsWord) := by
  have nd := sc_isword.nd
  refine F.ok sc_isword (fun vs H Q E h => ?_) (fun cdv A outer S H vs Q E hr h => ?_)
  · obtain ⟨up, rfl, _⟩ := h
    rfl
  · obtain ⟨up, rfl, k⟩ := h
    refine ⟨_, (pss_one (ps_ret (pe_and (pe_callB call_isi (by rfl) T.b_isinstance (by decide +kernel) (pa_cons (pv 0) (pa_cons (pe_bltn (by rfl) T.b_str (by decide +kernel : bootBuiltins "str" = some (.type "str")) (v := .ty "str") rfl) pa_nil))) (pe_one (pe_cmpR op_in_seq (pv 0) (pe_tup (pa_cons pe_str (pa_cons pe_str pa_nil))) rfl))))), ?_⟩
    refine ⟨_, rfl, _, .ty "str", _, _, _, rfl, .ty "str", (Kd.str (wS up)).ty, if_pos (beq_self_eq_true _), _, rfl, iteT ⟨_, rfl, (by show 2 ≤ sizeLine; decide), fun p np => ?_⟩⟩
    refine ⟨p, _, rfl, .inr (SqT.of upd_same), rfl, rfl, ?_⟩
    have e : inV (.str (wS up)) [V.str "up", .str "down"] = true := by
      cases up <;> decide +kernel
    show Q (.bl (inV (.str (wS up)) [V.str "up", .str "down"])) _
    rw [e]
    exact k _ (Same.upd np)
theorem ok_isword (T : LX K mg L) : Cal P w K mg base "is_word" 1 L.f_is_word ["value"] (spIsWord) := T.d_is_word.cal fun fd F => fn_isword T F
abbrev N_Playinginit : List Str := ["self", "row"]
theorem sc_Playinginit : FnScope N_Playinginit ["self", "row"] (defScope st_Playing_init) := ⟨rfl, rfl, rfl, by decide +kernel, rfl, by decide +kernel, by decide +kernel⟩
theorem fn_Playinginit (T : LX K mg L) {fd : FuncData} (F : Fun K "__init__" "Playing.__init__" st_Playing_init L.i_Playing fd) : FnOk P w K mg base CX0 4 L.i_Playing fd ["self", "row"] (spPInit L.c_Row L.c_Playing) := by
  have M_Row := T.gc_Row
  have G_closedstates := ok_closedstates (P := P) (w := w) (base := base) T
  have G_Rowlen := ok_Rowlen (P := P) (w := w) (base := base) T
  have nd := sc_Playinginit.nd
  refine F.ok sc_Playinginit (fun vs H Q E h => ?_) (fun cdv A outer S H vs Q E hr h => ?_)
  · obtain ⟨p, dx, r, B, xs, ts, st, ph, rfl, _⟩ := h
    rfl
  · obtain ⟨p, dx, r, B, xs, ts, st, ph, rfl, hp, R, k⟩ := h
    refine ⟨_, (pss_cons (ps_if (pt_not (pt_val (pe_callB call_isi (by rfl) T.b_isinstance (by decide +kernel) (pa_cons (pv 1) (pa_cons (pe_glob rfl M_Row rr) pa_nil))))) (pss_one (ps_never)) pss_nil)
       (pss_cons (ps_fld (pv 0) (pv 1) rfl)
       (pss_cons (ps_fld (pv 0) (pe_lst pa_nil) rfl)
       (pss_one (ps_fld (pv 0) (pe_lst (pa_cons (pe_c G_closedstates (hr.mono (by decide)) rfl (pa_cons (pe_callB (G_Rowlen.c_len (hr.mono (by decide))) (by rfl) T.b_len PySem.boot_len (pa_cons (pv 1) pa_nil)) pa_nil)) pa_nil)) rfl))))), ?_⟩
    obtain ⟨dr, hr'⟩ := R.ob
    have npr : r ≠ p := (ne_of hp hr' (fun z => by
      injection z with _ _ z
      have e := rowF_s B st ph
      rw [← z] at e
      cases e)).symm
    have xl := R.br.len
    have xl12 := R.ln
    have fresh : ∀ {Hx : Hp} {b : Addr}, Kp p H Hx → Hx p ≠ none → Hx b = none → H b = none := fun {Hx b} kx np e => by
      cases q : H b with
      | none => rfl
      | some o =>
        by_cases c : b = p
        · rw [c] at e
          exact absurd e np
        · rw [kx _ _ c q] at e
          cases e
    refine ⟨_, rfl, _, .ref L.c_Row, _, _, _, rfl, .own L.c_Row, T.cf_Row.tyR hr', if_pos (beq_self_eq_true _), _, rfl, iteF ?_⟩
    refine ⟨_, rfl, _, rfl, p, L.c_Playing, dx, [], rfl, hp, T.cf_Playing.cl, T.nf_Playing_row, (by show 0 < 1000; decide), ?_⟩
    obtain ⟨H1, hH1⟩ : ∃ H1 : Hp, H1 = upd H p (.ins L.c_Playing dx (putF "row" (.ref r) [])) := ⟨_, rfl⟩
    rw [← hH1]
    have hp1 : H1 p = some (.ins L.c_Playing dx (putF "row" (.ref r) [])) := by rw [hH1]; exact upd_same
    have k1 : Kp p H H1 := by rw [hH1]; exact Kp.upd
    have R1 := R.kpn k1 npr ⟨_, _, _, hp⟩
    have z1 := putF_len "row" (.ref r) [] (Nat.le_refl 0)
    refine ⟨(by show 0 ≤ sizeLine; decide), fun aw nw => ?_⟩
    have npw : p ≠ aw := ne_of_none hp1 nw
    have hp1' := (Same.upd (o := .lst []) nw) _ _ hp1
    refine ⟨_, rfl, p, L.c_Playing, dx, _, rfl, hp1', T.cf_Playing.cl, T.nf_Playing_words, Nat.lt_of_le_of_lt z1 (by decide), ?_⟩
    obtain ⟨H3, hH3⟩ : ∃ H3 : Hp, H3 = upd (upd H1 aw (.lst [])) p (.ins L.c_Playing dx (putF "words" (.ref aw) (putF "row" (.ref r) []))) := ⟨_, rfl⟩
    rw [← hH3]
    have hp3 : H3 p = some (.ins L.c_Playing dx (putF "words" (.ref aw) (putF "row" (.ref r) []))) := by rw [hH3]; exact upd_same
    have hw3 : H3 aw = some (.lst []) := by rw [hH3, upd_ne npw.symm]; exact upd_same
    have k3 : Kp p (upd H1 aw (.lst [])) H3 := by rw [hH3]; exact Kp.upd
    have R3 := (R1.nl (NL.of (Same.upd (o := .lst []) nw))).kpn k3 npr ⟨_, _, _, hp1'⟩
    have z2 := putF_len "words" (.ref aw) _ z1
    have kA : Kp p H H3 := (k1.trans (Kp.of (Same.upd nw))).trans k3
    obtain ⟨dr3, hr3⟩ := R3.ob
    refine ⟨_, rfl, r, dr3, _, rfl, hr3, r, B, xs, ts, st, ph, rfl, R3, _, rfl, by omega, by omega, xs.length, rfl, by omega, fun l ys H4 hl hy s4 nl => ⟨(by show 1 ≤ sizeLine; decide), fun ah nh => ?_⟩⟩
    rw [xl] at hy
    have s5 := Same.upd (o := .lst [.ref l]) nh
    have hp5 := s5 _ _ (s4 _ _ hp3)
    refine ⟨_, rfl, p, L.c_Playing, dx, _, rfl, hp5, T.cf_Playing.cl, T.nf_Playing_history, Nat.lt_of_le_of_lt z2 (by decide), ?_⟩
    obtain ⟨H6, hH6⟩ : ∃ H6 : Hp, H6 = upd (upd H4 ah (.lst [.ref l])) p (.ins L.c_Playing dx (plF r aw ah)) := ⟨_, rfl⟩
    have hg : upd (upd H4 ah (.lst [.ref l])) p (.ins L.c_Playing dx (putF "history" (.ref ah) (putF "words" (.ref aw) (putF "row" (.ref r) [])))) = H6 := by rw [hH6]; rfl
    rw [hg]
    have k6 : Kp p (upd H4 ah (.lst [.ref l])) H6 := by rw [hH6]; exact Kp.upd
    have hp6 : H6 p = some (.ins L.c_Playing dx (plF r aw ah)) := by rw [hH6]; exact upd_same
    have npl : p ≠ l := ne_of_none hp3 nl
    have nph : p ≠ ah := ne_of_none (s4 _ _ hp3) nh
    have nwl : aw ≠ l := ne_of_none hw3 nl
    have nwh : aw ≠ ah := ne_of_none (s4 _ _ hw3) nh
    have nlh : l ≠ ah := ne_of_none hl nh
    have up6 : ∀ b o, b ≠ p → H4 b = some o → H6 b = some o := fun b o n e => k6 _ _ n (s5 _ _ e)
    have sts6 : Sts H6 ys (List.replicate ts.length ("closed", 0)) := L2.Paired.mapP hy fun _ _ ⟨a, e, h⟩ => ⟨a, e, up6 _ _ (ne_of h (s4 _ _ hp3) (by intro z; cases z)) h⟩
    refine k aw ah l H6 ⟨⟨dx, hp6⟩, ((R3.nl (NL.of s4)).nl (NL.of s5)).kpn k6 npr ⟨_, _, _, hp5⟩, up6 _ _ npw.symm (s4 _ _ hw3), k6 _ _ nph.symm upd_same, rfl, fun j b e => ?_, nwh, by simpa using nwl, by simpa using nlh.symm⟩
      (fresh k1 (by rw [hp1]; exact fun z => nomatch z) nw) (fresh (kA.trans (Kp.of s4)) (by rw [s4 _ _ hp3]; exact fun z => nomatch z) nh) (fresh kA (by rw [hp3]; exact fun z => nomatch z) nl) ((kA.trans (Kp.of (s4.trans s5))).trans k6)
    cases j with
    | zero =>
      cases e
      exact ⟨ys, up6 _ _ npl.symm hl, sts6⟩
    | succ j => cases e
abbrev N_Playingbaserow : List Str := ["self"]
theorem sc_Playingbaserow : FnScope N_Playingbaserow ["self"] (defScope st_Playing_base_row) := ⟨rfl, rfl, rfl, by decide +kernel, rfl, by decide +kernel, by decide +kernel⟩
theorem fn_Playingbaserow (T : LX K mg L) {fd : FuncData} (F : Fun K "base_row" "Playing.base_row" st_Playing_base_row L.m_Playing_base_row fd) : FnOk P w K mg base CX0 1 L.m_Playing_base_row fd ["self"] (spPBase L.c_Row L.c_Playing) := by
  have nd := sc_Playingbaserow.nd
  refine F.ok sc_Playingbaserow (fun vs H Q E h => ?_) (fun cdv A outer S H vs Q E hr h => ?_)
  · obtain ⟨p, av, ts, st, ph, ws, rfl, _⟩ := h
    rfl
  · obtain ⟨p, av, ts, st, ph, ws, rfl, ⟨r, B, aw, ah, xs, ls, Y, n⟩, k⟩ := h
    refine ⟨_, (pss_one (ps_ret (pe_fld (pv 0) rfl))), ?_⟩
    obtain ⟨dx, hp⟩ := Y.ob
    exact ⟨_, rfl, p, L.c_Playing, dx, _, _, rfl, hp, T.cf_Playing.cl, T.nf_Playing_row, plF_r _ _ _, k r B xs Y.row⟩
theorem ok_Playingbaserow (T : LX K mg L) : Met P w K mg base L.c_Playing "base_row" 1 L.m_Playing_base_row ["self"] (spPBase L.c_Row L.c_Playing) := T.mm_Playing_base_row.met fun fd F => fn_Playingbaserow T F
abbrev N_Playingnextrequest : List Str := ["self"]
theorem sc_Playingnextrequest : FnScope N_Playingnextrequest ["self"] (defScope st_Playing_next_request) := ⟨rfl, rfl, rfl, by decide +kernel, rfl, by decide +kernel, by decide +kernel⟩
theorem fn_Playingnextrequest (T : LX K mg L) {fd : FuncData} (F : Fun K "next_request" "Playing.next_request" st_Playing_next_request L.m_Playing_next_request fd) : FnOk P w K mg base CX0 4 L.m_Playing_next_request fd ["self"] (spPNext L.c_Row L.c_Playing) := by
  have G_requesttime := ok_requesttime (P := P) (w := w) (base := base) T
  have nd := sc_Playingnextrequest.nd
  refine F.ok sc_Playingnextrequest (fun vs H Q E h => ?_) (fun cdv A outer S H vs Q E hr h => ?_)
  · obtain ⟨p, av, ts, st, ph, ws, rfl, _⟩ := h
    rfl
  · obtain ⟨p, av, ts, st, ph, ws, rfl, ⟨r, B, aw, ah, xs, ls, Y, n⟩, wl, k⟩ := h
    refine ⟨_, (pss_one (ps_ret (pe_c G_requesttime (hr.mono (by decide)) rfl (pa_cons (pe_fld (pv 0) rfl) (pa_cons (pe_callB call_len_seq (by rfl) T.b_len PySem.boot_len (pa_cons (pe_fld (pv 0) rfl) pa_nil)) pa_nil))))), ?_⟩
    obtain ⟨dx, hp⟩ := Y.ob
    have wb : ((ws.length : Nat) : Int) ≤ BB := Int.le_trans (show ((ws.length : Nat) : Int) ≤ 10000 by omega) (Int.le_trans (PB_of (n := 20) (by decide +kernel)) (PB_le (by decide)))
    refine ⟨_, rfl, p, L.c_Playing, dx, _, _, rfl, hp, T.cf_Playing.cl, T.nf_Playing_row, plF_r _ _ _, _, rfl, p, L.c_Playing, dx, _, _, rfl, hp, T.cf_Playing.cl, T.nf_Playing_words, plF_w _ _ _, aw, _, rfl, .inl (SqL.of Y.hw), r, B, xs, ts, st, ph, ((ws.map wV).length : Nat), rfl, Y.row, by omega, by rw [List.length_map]; exact wb, ?_⟩
    rw [List.length_map]
    exact k
theorem ok_Playingnextrequest (T : LX K mg L) : Met P w K mg base L.c_Playing "next_request" 4 L.m_Playing_next_request ["self"] (spPNext L.c_Row L.c_Playing) := T.mm_Playing_next_request.met fun fd F => fn_Playingnextrequest T F
abbrev N_Playingstatelist : List Str := ["self"]
theorem sc_Playingstatelist : FnScope N_Playingstatelist ["self"] (defScope st_Playing_state_list) := ⟨rfl, rfl, rfl, by decide +kernel, rfl, by decide +kernel, by decide +kernel⟩
theorem fn_Playingstatelist (T : LX K mg L) {fd : FuncData} (F : Fun K "state_list" "Playing.state_list" st_Playing_state_list L.m_Playing_state_list fd) : FnOk P w K mg base CX0 1 L.m_Playing_state_list fd ["self"] (spPStates L.c_Row L.c_Playing) := by
  have nd := sc_Playingstatelist.nd
  refine F.ok sc_Playingstatelist (fun vs H Q E h => ?_) (fun cdv A outer S H vs Q E hr h => ?_)
  · obtain ⟨p, av, ts, st, ph, ws, rfl, _⟩ := h
    rfl
  · obtain ⟨p, av, ts, st, ph, ws, rfl, ⟨r, B, aw, ah, xs, ls, Y, n⟩, k⟩ := h
    refine ⟨_, (pss_one (ps_ret (pe_callTy call_list_of (by rfl) T.b_list (by decide +kernel) (pa_cons (pe_ix (r := rIxL K) ix_list (pe_fld (pv 0) rfl) (pe_un un_neg pe_int) (fun _ _ => rfl)) pa_nil)))), ?_⟩
    obtain ⟨dx, hp⟩ := Y.ob
    obtain ⟨ini, l0, hl0⟩ : ∃ ini l0, ls = ini ++ [l0] := ⟨_, _, (List.dropLast_concat_getLast (by intro e; have := Y.ln; rw [e] at this; cases this)).symm⟩
    have e0 : ls[ws.length]? = some l0 := by
      have := Y.ln
      rw [hl0, List.length_append] at this
      have e : ini.length = ws.length := by have h : ini.length + 1 = ws.length + 1 := this; omega
      rw [hl0, ← e, List.getElem?_append_right (Nat.le_refl _), Nat.sub_self]
      rfl
    obtain ⟨ys, h1, h2⟩ := Y.hs _ _ e0
    rw [List.take_length] at h2
    have hh := Y.hh
    rw [hl0, List.map_append] at hh
    refine ⟨_, rfl, p, L.c_Playing, dx, _, _, rfl, hp, T.cf_Playing.cl, T.nf_Playing_history, plF_h _ _ _, 1, rfl, ah, _, -1, .ref l0, rfl, rfl, SqL.of hh, atI_last _ _, l0, ys, rfl, .inl (SqL.of h1), fun l nl => ?_⟩
    exact k l ys _ upd_same (h2.same (Same.upd nl)) (Same.upd nl) nl
theorem ok_Playingstatelist (T : LX K mg L) : Met P w K mg base L.c_Playing "state_list" 1 L.m_Playing_state_list ["self"] (spPStates L.c_Row L.c_Playing) := T.mm_Playing_state_list.met fun fd F => fn_Playingstatelist T F
abbrev N_Playinglog : List Str := ["self"]
theorem sc_Playinglog : FnScope N_Playinglog ["self"] (defScope st_Playing_log) := ⟨rfl, rfl, rfl, by decide +kernel, rfl, by decide +kernel, by decide +kernel⟩
theorem fn_Playinglog (T : LX K mg L) {fd : FuncData} (F : Fun K "log" "Playing.log" st_Playing_log L.m_Playing_log fd) : FnOk P w K mg base CX0 1 L.m_Playing_log fd ["self"] (spPLog L.c_Row L.c_Playing) := by
  have nd := sc_Playinglog.nd
  refine F.ok sc_Playinglog (fun vs H Q E h => ?_) (fun cdv A outer S H vs Q E hr h => ?_)
  · obtain ⟨p, av, ts, st, ph, ws, rfl, _⟩ := h
    rfl
  · obtain ⟨p, av, ts, st, ph, ws, rfl, ⟨r, B, aw, ah, xs, ls, Y, n⟩, k⟩ := h
    refine ⟨_, (pss_one (ps_ret (pe_callTy call_list_of (by rfl) T.b_list (by decide +kernel) (pa_cons (pe_fld (pv 0) rfl) pa_nil)))), ?_⟩
    obtain ⟨dx, hp⟩ := Y.ob
    exact ⟨_, rfl, p, L.c_Playing, dx, _, _, rfl, hp, T.cf_Playing.cl, T.nf_Playing_words, plF_w _ _ _, aw, _, rfl, .inl (SqL.of Y.hw), fun l nl => k l _ upd_same (Same.upd nl) nl⟩
theorem ok_Playinglog (T : LX K mg L) : Met P w K mg base L.c_Playing "log" 1 L.m_Playing_log ["self"] (spPLog L.c_Row L.c_Playing) := T.mm_Playing_log.met fun fd F => fn_Playinglog T F
abbrev N_Playingrequest : List Str := ["self", "word", "told", "states"]
theorem sc_Playingrequest : FnScope N_Playingrequest ["self", "word"] (defScope st_Playing_request) := ⟨rfl, rfl, rfl, by decide +kernel, rfl, by decide +kernel, by decide +kernel⟩
theorem fn_Playingrequest (T : LX K mg L) {fd : FuncData} (F : Fun K "request" "Playing.request" st_Playing_request L.m_Playing_request fd) : FnOk P w K mg base CX0 6 L.m_Playing_request fd ["self", "word"] (spPReq K L.c_Row L.c_Playing) := by
  obtain ⟨tk_MOST_REQUESTS, c_MOST_REQUESTS⟩ := T.n_MOST_REQUESTS
  have G_sent := ok_sent (P := P) (w := w) (base := base) T
  have G_Playingnextrequest := ok_Playingnextrequest (P := P) (w := w) (base := base) T
  have G_isword := ok_isword (P := P) (w := w) (base := base) T
  have nd := sc_Playingrequest.nd
  refine F.ok sc_Playingrequest (fun vs H Q E h => ?_) (fun cdv A outer S H vs Q E hr h => ?_)
  · obtain ⟨p, av, ts, st, ph, ws, up, rfl, _⟩ := h
    rfl
  · obtain ⟨p, av, ts, st, ph, ws, up, rfl, PY, wl, na, k⟩ := h
    refine ⟨_, (pss_cons (ps_if (pt_not (pt_val (pe_c G_isword (hr.mono (by decide)) rfl (pa_cons (pv 1) pa_nil)))) (pss_one (ps_never)) pss_nil)
       (pss_cons (ps_if (pt_cmpR op_ge (pe_callB call_len_seq (by rfl) T.b_len PySem.boot_len (pa_cons (pe_fld (pv 0) rfl) pa_nil)) (pe_gI c_MOST_REQUESTS) (nomark _)) (pss_one (ps_never)) pss_nil)
       (pss_cons (ps_asg (pe_c G_sent (hr.mono (by decide)) rfl (pa_cons (pe_fld (pe_fld (pv 0) rfl) rfl) (pa_cons (pe_ix (r := rIxL K) ix_list (pe_fld (pv 0) rfl) (pe_un un_neg pe_int) (fun _ _ => rfl)) (pa_cons (G_Playingnextrequest.p_m0 T.cf_Playing.cl (hr.mono (by decide)) (pv 0)) (pa_cons (pe_cmpR op_eq (pv 1) pe_str (nomark _)) pa_nil))))) (pg_tup rfl (pgs_cons (pg_name (i := 2) nd rfl (Or.inl rfl)) (pgs_cons (pg_name (i := 3) nd rfl (Or.inl rfl)) pgs_nil))))
       (pss_cons (ps_expr (pe_bm PySem.F.plainAttrs_list PySem.F.slot_list_append PySem.F.type_list_append mt_append (pe_fld (pv 0) rfl) (pa_cons (pv 1) pa_nil)))
       (pss_cons (ps_expr (pe_bm PySem.F.plainAttrs_list PySem.F.slot_list_append PySem.F.type_list_append mt_append (pe_fld (pv 0) rfl) (pa_cons (pv 3) pa_nil)))
       (pss_one (ps_ret (pv 2)))))))), ?_⟩
    have PY0 := PY
    obtain ⟨r, B, aw, ah, xs, ls, Y, n⟩ := PY
    obtain ⟨dx, hp⟩ := Y.ob
    obtain ⟨dr, hr'⟩ := Y.row.ob
    obtain ⟨al, aok⟩ := plA_ok ts st ph ws
    refine ⟨_, rfl, up, rfl, fun H1 s1 => ⟨_, rfl, iteF ?_⟩⟩
    have Y1 := Y.keB n (.same s1)
    refine ⟨_, rfl, p, L.c_Playing, dx, _, _, rfl, s1 _ _ hp, T.cf_Playing.cl, T.nf_Playing_words, plF_w _ _ _, aw, _, rfl, .inl (SqL.of Y1.hw), _, _, rfl, rfl, _, rfl, ite2 (fun c => ?_) (fun _ => ?_)⟩
    · have c' := of_decide_eq_true c
      rw [List.length_map] at c'
      omega
    obtain ⟨ini, l0, hl0⟩ : ∃ ini l0, ls = ini ++ [l0] := ⟨_, _, (List.dropLast_concat_getLast (by intro e; have := Y.ln; rw [e] at this; cases this)).symm⟩
    have il : ini.length = ws.length := by
      have := Y.ln
      rw [hl0, List.length_append] at this
      have h : ini.length + 1 = ws.length + 1 := this
      omega
    have e0 : ls[ws.length]? = some l0 := by
      rw [hl0, ← il, List.getElem?_append_right (Nat.le_refl _), Nat.sub_self]
      rfl
    obtain ⟨ys, h1, h2⟩ := Y1.hs _ _ e0
    rw [List.take_length] at h2
    have hh := Y1.hh
    rw [hl0, List.map_append] at hh
    refine ⟨_, rfl, p, L.c_Playing, dx, _, _, rfl, s1 _ _ hp, T.cf_Playing.cl, T.nf_Playing_row, plF_r _ _ _, r, L.c_Row, dr, _, _, rfl, s1 _ _ hr', T.cf_Row.cl, T.nf_Row_breakers, rowF_b _ _ _, ?_⟩
    refine ⟨_, rfl, p, L.c_Playing, dx, _, _, rfl, s1 _ _ hp, T.cf_Playing.cl, T.nf_Playing_history, plF_h _ _ _, 1, rfl, ah, _, -1, .ref l0, rfl, rfl, SqL.of hh, atI_last _ _, ?_⟩
    refine ⟨_, rfl, p, dx, _, rfl, s1 _ _ hp, plF_no _ _ _ (by decide +kernel) (by decide +kernel) (by decide +kernel), p, av, ts, st, ph, ws, rfl, PY0.same s1, Nat.le_of_lt wl, ?_⟩
    have eu : decide (wV up = V.str "up") = up := by
      cases up with
      | true => exact decide_eq_true rfl
      | false => exact decide_eq_false fun e => up_ne (V.str.inj e)
    refine ⟨_, rfl, rfl, B, l0, xs, ys, ts, plA ts st ph ws, _, _, rfl, SqT.of Y1.row.tp, Y1.row.br, h1, h2, al, by have := Y.row.ln; omega, aok, fun q x l2 ys2 H2 hq tx hl2 hs2 s2 nq nl2 => ?_⟩
    rw [eu] at tx hs2
    refine ⟨q, _, rfl, SqT.of hq, rfl, _, _, rfl, _, _, rfl, rfl, ?_⟩
    have s12 := s1.trans s2
    have Y2 := Y.keB n (.same s12)
    refine ⟨_, rfl, p, L.c_Playing, dx, _, _, rfl, s12 _ _ hp, T.cf_Playing.cl, T.nf_Playing_words, plF_w _ _ _, .inl ⟨rfl, _, SqL.of Y2.hw⟩, _, rfl, aw, _, _, rfl, rfl, Y2.hw, small1 (by rw [List.length_map]; omega), ?_⟩
    obtain ⟨H3, hH3⟩ : ∃ H3 : Hp, H3 = upd H2 aw (.lst (ws.map wV ++ [wV up])) := ⟨_, rfl⟩
    rw [← hH3]
    have k3 : Kp aw H2 H3 := by rw [hH3]; exact Kp.upd
    have n3 : NL H2 H3 := Kp.nl k3 Y2.hw
    have hw3 : H3 aw = some (.lst ((ws ++ [up]).map wV)) := by rw [hH3, upd_same, List.map_append]; rfl
    have hh3 : H3 ah = some (.lst (ls.map V.ref)) := k3 _ _ Y.n1.symm Y2.hh
    have hp3 : H3 p = some (.ins L.c_Playing dx (plF r aw ah)) := n3 _ _ (s12 _ _ hp) fun _ z => nomatch z
    refine ⟨_, rfl, p, L.c_Playing, dx, _, _, rfl, hp3, T.cf_Playing.cl, T.nf_Playing_history, plF_h _ _ _, .inl ⟨rfl, _, SqL.of hh3⟩, _, rfl, ah, _, _, rfl, rfl, hh3, small1 (by rw [List.length_map, Y.ln]; omega), ?_⟩
    obtain ⟨H4, hH4⟩ : ∃ H4 : Hp, H4 = upd H3 ah (.lst (ls.map V.ref ++ [.ref l2])) := ⟨_, rfl⟩
    rw [← hH4]
    have k4 : Kp ah H3 H4 := by rw [hH4]; exact Kp.upd
    have n4 : NL H3 H4 := Kp.nl k4 hh3
    have nl2w : l2 ≠ aw := (ne_of_none Y1.hw nl2).symm
    have nl2h : l2 ≠ ah := (ne_of_none Y1.hh nl2).symm
    have n34 := n3.trans n4
    have keep : ∀ b o, b ≠ aw → b ≠ ah → H2 b = some o → H4 b = some o := fun b o x1 x2 e => k4 _ _ x2 (k3 _ _ x1 e)
    refine ⟨_, rfl, k x H4 ?_ ⟨r, B, aw, ah, xs, ls ++ [l2], ⟨⟨dx, n4 _ _ hp3 fun _ z => nomatch z⟩, Y2.row.nl n34, k4 _ _ Y.n1 hw3, by rw [hH4, upd_same, List.map_append]; rfl, by rw [List.length_append, List.length_append, Y.ln]; rfl, fun j l e => ?_, Y.n1, ?_, ?_⟩, fun b hb => ?_⟩ fun b o e q => ?_⟩
    · obtain ⟨a, e, hq⟩ := tx
      refine ⟨a, e, ?_⟩
      rcases hq with hq | hq
      · rcases hq with hq | hq
        · exact SqT.of (n34 _ _ hq fun _ z => nomatch z)
        · exact .inl (.inr (by obtain ⟨u, hq⟩ := hq; exact ⟨u, n34 _ _ hq fun _ z => nomatch z⟩))
      · exact .inr hq
    · by_cases c : j < ls.length
      · rw [List.getElem?_append_left c] at e
        obtain ⟨zs, f1, f2⟩ := Y2.hs j l e
        have lm := List.mem_of_getElem? e
        refine ⟨zs, keep _ _ (fun z => Y.n2 (z ▸ lm)) (fun z => Y.n3 (z ▸ lm)) f1, ?_⟩
        rw [List.take_append_of_le_length (by have := Y.ln; omega)]
        exact f2.nl n34
      · have jl : j = ls.length := by
          have := (List.getElem?_eq_some_iff.mp e).1
          rw [List.length_append] at this
          have h : j < ls.length + 1 := this
          omega
        subst jl
        rw [List.getElem?_append_right (Nat.le_refl _), Nat.sub_self] at e
        cases e
        refine ⟨ys2, keep _ _ nl2w nl2h hl2, ?_⟩
        rw [List.take_of_length_le (by rw [List.length_append, Y.ln]; exact Nat.le_refl _), plA_app]
        exact hs2.nl n34
    · rw [List.mem_append, not_or]
      exact ⟨Y.n2, by simpa using nl2w.symm⟩
    · rw [List.mem_append, not_or]
      exact ⟨Y.n3, by simpa using nl2h.symm⟩
    · obtain ⟨m1, m2, m3⟩ := n b hb
      refine ⟨m1, m2, ?_⟩
      rw [List.mem_append, not_or]
      exact ⟨m3, by rw [List.mem_singleton]; exact fun z => na b hb (z ▸ none_of s1 nl2)⟩
    · have m1 : b ≠ aw := fun z => by
        subst z
        rcases q with q | q
        · exact (n _ q).1 rfl
        · rw [Y.hw] at e; cases e; exact q _ rfl
      have m2 : b ≠ ah := fun z => by
        subst z
        rcases q with q | q
        · exact (n _ q).2.1 rfl
        · rw [Y.hh] at e; cases e; exact q _ rfl
      exact keep _ _ m1 m2 (s12 _ _ e)
theorem ok_Playingrequest (T : LX K mg L) : Met P w K mg base L.c_Playing "request" 6 L.m_Playing_request ["self", "word"] (spPReq K L.c_Row L.c_Playing) := T.mm_Playing_request.met fun fd F => fn_Playingrequest T F
abbrev N_Playingiswhole : List Str := ["self"]
theorem sc_Playingiswhole : FnScope N_Playingiswhole ["self"] (defScope st_Playing_is_whole) := ⟨rfl, rfl, rfl, by decide +kernel, rfl, by decide +kernel, by decide +kernel⟩
theorem fn_Playingiswhole (T : LX K mg L) {fd : FuncData} (F : Fun K "is_whole" "Playing.is_whole" st_Playing_is_whole L.m_Playing_is_whole fd) : FnOk P w K mg base CX0 4 L.m_Playing_is_whole fd ["self"] (spPWhole L.c_Row L.c_Playing) := by
  have G_closedstates := ok_closedstates (P := P) (w := w) (base := base) T
  have G_Rowlen := ok_Rowlen (P := P) (w := w) (base := base) T
  have nd := sc_Playingiswhole.nd
  refine F.ok sc_Playingiswhole (fun vs H Q E h => ?_) (fun cdv A outer S H vs Q E hr h => ?_)
  · obtain ⟨p, av, ts, st, ph, ws, rfl, _⟩ := h
    rfl
  · obtain ⟨p, av, ts, st, ph, ws, rfl, ⟨r, B, aw, ah, xs, ls, Y, n⟩, k⟩ := h
    refine ⟨_, (pss_one (ps_ret (pe_cmpR (op_eqD hr.units) (pe_ix (r := rIxL K) ix_list (pe_fld (pv 0) rfl) (pe_un un_neg pe_int) (fun _ _ => rfl)) (pe_c G_closedstates (hr.mono (by decide)) rfl (pa_cons (pe_callB (G_Rowlen.c_len (hr.mono (by decide))) (by rfl) T.b_len PySem.boot_len (pa_cons (pe_fld (pv 0) rfl) pa_nil)) pa_nil)) (nomark _)))), ?_⟩
    obtain ⟨dx, hp⟩ := Y.ob
    obtain ⟨dr, hr'⟩ := Y.row.ob
    have xl := Y.row.br.len
    have xl12 := Y.row.ln
    obtain ⟨al, aok⟩ := plA_ok ts st ph ws
    obtain ⟨ini, l0, hl0⟩ : ∃ ini l0, ls = ini ++ [l0] := ⟨_, _, (List.dropLast_concat_getLast (by intro e; have := Y.ln; rw [e] at this; cases this)).symm⟩
    have e0 : ls[ws.length]? = some l0 := by
      have := Y.ln
      rw [hl0, List.length_append] at this
      have e : ini.length = ws.length := by have h : ini.length + 1 = ws.length + 1 := this; omega
      rw [hl0, ← e, List.getElem?_append_right (Nat.le_refl _), Nat.sub_self]
      rfl
    obtain ⟨ys, h1, h2⟩ := Y.hs _ _ e0
    rw [List.take_length] at h2
    have hh := Y.hh
    rw [hl0, List.map_append] at hh
    refine ⟨_, rfl, p, L.c_Playing, dx, _, _, rfl, hp, T.cf_Playing.cl, T.nf_Playing_history, plF_h _ _ _, 1, rfl, ah, _, -1, .ref l0, rfl, rfl, SqL.of hh, atI_last _ _, ?_⟩
    refine ⟨_, rfl, p, L.c_Playing, dx, _, _, rfl, hp, T.cf_Playing.cl, T.nf_Playing_row, plF_r _ _ _, r, dr, _, rfl, hr', r, B, xs, ts, st, ph, rfl, Y.row, _, rfl, by omega, by omega, xs.length, rfl, by omega, fun l ys2 H2 hl2 hy2 s2 n2 => ?_⟩
    rw [xl] at hy2
    refine ⟨_, _, Sts.dpl (s2 _ _ h1) (h2.same s2), Sts.dpl hl2 hy2, shSts aok, shSts fun s hs => by rw [List.eq_of_mem_replicate hs]; exact .inl rfl, ?_⟩
    rw [eqSts]
    exact k H2 s2
theorem ok_Playingiswhole (T : LX K mg L) : Met P w K mg base L.c_Playing "is_whole" 4 L.m_Playing_is_whole ["self"] (spPWhole L.c_Row L.c_Playing) := T.mm_Playing_is_whole.met fun fd F => fn_Playingiswhole T F
end
section
variable {X : Cx} {L : LA}
/-- Playing(..) -/
theorem pe_mkPlaying (T : LX X.K X.mg L) (hr : Room 5 X.A) {p pos : Pos} {e : Expr} {es : List Expr} {t : TA} (hg : Gl X "Playing") (ha : PA X (e :: es) t)
    (he : starEach (e :: es) X.env = (false, eval e X.env) :: starEach es X.env := by rfl) (hpl : (backTo pos (starEach es X.env)).any (·.1) = false := by rfl) : PE X (.Call (.Name "Playing" p) (e :: es) [] pos) (tMake L.c_Playing (spPInit L.c_Row L.c_Playing) [] E0 t) := by
  obtain ⟨fd, F, b⟩ := T.in_Playing
  exact pe_make T.mk_Playing (fn_Playinginit T F) hr hg T.gc_Playing b .nil pass0 ha (by decide) he hpl
end
/-! ### logs replayed -/
def spCkWords : Sp := fun vs H Q _ => ∃ (l : Addr) (ws : List Bool), vs = [.ref l] ∧ H l = some (.lst (ws.map wV)) ∧ ws.length ≤ 10000 ∧ ∀ H', Same H H' → Q .non H'
/-- what was told, request by request -/
def Tlds (K : PySem.W.Frag) (H : Hp) (xs : List V) (ts : List Tri) (st ph : Int) (ws : List Bool) : Prop := xs.length = ws.length ∧ ∀ (j : Nat) (up : Bool), ws[j]? = some up → ∃ x, xs[j]? = some x ∧ TldAt K H x ts.length (kOf ts (plA ts st ph (ws.take j)) (ph + (j : Int) * st)) up
theorem Tlds.nl {K : PySem.W.Frag} {H H' : Hp} {xs : List V} {ts : List Tri} {st ph : Int} {ws : List Bool} (h : Tlds K H xs ts st ph ws) (k : NL H H') : Tlds K H' xs ts st ph ws :=
  ⟨h.1, fun j up e => by
    obtain ⟨x, h1, h2⟩ := h.2 j up e
    exact ⟨x, h1, h2.nl k⟩⟩
theorem Tlds.app {K : PySem.W.Frag} {H : Hp} {xs : List V} {x : V} {ts : List Tri} {st ph : Int} {ws : List Bool} {up : Bool} (h : Tlds K H xs ts st ph ws) (hx : TldAt K H x ts.length (kOf ts (plA ts st ph ws) (ph + (ws.length : Int) * st)) up) : Tlds K H (xs ++ [x]) ts st ph (ws ++ [up]) := by
  refine ⟨by rw [List.length_append, List.length_append, h.1]; rfl, fun j u e => ?_⟩
  by_cases c : j < ws.length
  · rw [List.getElem?_append_left c] at e
    obtain ⟨y, h1, h2⟩ := h.2 j u e
    refine ⟨y, by rw [List.getElem?_append_left (by rw [h.1]; exact c)]; exact h1, ?_⟩
    rw [List.take_append_of_le_length (by omega)]
    exact h2
  · have jl : j = ws.length := by
      have := (List.getElem?_eq_some_iff.mp e).1
      rw [List.length_append] at this
      have : j < ws.length + 1 := this
      omega
    subst jl
    rw [List.getElem?_append_right (Nat.le_refl _), Nat.sub_self] at e
    cases e
    refine ⟨x, by rw [List.getElem?_append_right (by rw [h.1]; exact Nat.le_refl _), h.1, Nat.sub_self]; rfl, ?_⟩
    rw [List.take_left]
    exact hx
def spPlayed (K : PySem.W.Frag) (CR C : Addr) : Sp := fun vs H Q _ => ∃ r B xs ts st ph, ∃ (l : Addr) (ws : List Bool) (av : AvS), vs = [.ref r, .ref l] ∧ RowAt CR H r B xs ts st ph ∧ H l = some (.lst (ws.map wV)) ∧ ws.length ≤ 10000 ∧ (∀ b ∈ av, H b ≠ none) ∧
  ∀ t p d ys H', H' t = some (.tup [.ref p, .ref d]) → H' d = some (.lst ys) → Tlds K H' ys ts st ph ws → PlV CR C (AvS.add d (AvS.add l av)) H' p ts st ph ws → KeV (AvS.add l av) H H' → H p = none → H d = none → Q (.ref t) H'
def spReplay (K : PySem.W.Frag) (CR C : Addr) : Sp := fun vs H Q _ => ∃ r B xs ts st ph, ∃ (l : Addr) (ws : List Bool) (av : AvS), vs = [.ref r, .ref l] ∧ RowAt CR H r B xs ts st ph ∧ H l = some (.lst (ws.map wV)) ∧ ws.length ≤ 10000 ∧ (∀ b ∈ av, H b ≠ none) ∧
  ∀ p H', PlV CR C (AvS.add l av) H' p ts st ph ws → KeV (AvS.add l av) H H' → H p = none → Q (.ref p) H'
def spOuts (K : PySem.W.Frag) (CR C : Addr) : Sp := fun vs H Q _ => ∃ r B xs ts st ph, ∃ (l : Addr) (ws : List Bool) (av : AvS), vs = [.ref r, .ref l] ∧ RowAt CR H r B xs ts st ph ∧ H l = some (.lst (ws.map wV)) ∧ ws.length ≤ 10000 ∧ (∀ b ∈ av, H b ≠ none) ∧
  ∀ d ys H', H' d = some (.lst ys) → Tlds K H' ys ts st ph ws → KeV (AvS.add l av) H H' → H d = none → Q (.ref d) H'
section
variable {P : Program} {w : World} {K : PySem.W.Frag} {mg : Str → Option Value} {base : Heap} {L : LA}
abbrev N_checkwords : List Str := ["log", "at", "word"]
theorem sc_checkwords : FnScope N_checkwords ["log"] (defScope st_check_words) := ⟨rfl, rfl, rfl, by decide +kernel, rfl, by decide +kernel, by decide +kernel⟩
theorem fn_checkwords (T : LX K mg L) {fd : FuncData} (F : Fun K "check_words" "check_words" st_check_words L.f_check_words fd) : FnOk P w K mg base CX0 2 L.f_check_words fd ["log"] (spCkWords) := by
  obtain ⟨tk_MOST_REQUESTS, c_MOST_REQUESTS⟩ := T.n_MOST_REQUESTS
  have G_isword := ok_isword (P := P) (w := w) (base := base) T
  have nd := sc_checkwords.nd
  refine F.ok sc_checkwords (fun vs H Q E h => ?_) (fun cdv A outer S H vs Q E hr h => ?_)
  · obtain ⟨l, ws, rfl, _⟩ := h
    rfl
  · obtain ⟨l, ws, rfl, hl, wl, k⟩ := h
    refine ⟨_, (pss_cons (ps_if (PW.pt (pw_or (pt_not (pt_val (pe_callB call_isi (by rfl) T.b_isinstance (by decide +kernel) (pa_cons (pv 0) (pa_cons (pe_bltn (by rfl) T.b_list (by decide +kernel : bootBuiltins "list" = some (.type "list")) (v := .ty "list") rfl) pa_nil))))) (pw_or1 (pt_cmpR op_gt (pe_callB call_len_seq (by rfl) T.b_len PySem.boot_len (pa_cons (pv 0) pa_nil)) (pe_gI c_MOST_REQUESTS) (nomark _))))) (pss_one (ps_never)) pss_nil)
       (pss_one (ps_for PassesOwn.never rfl (pi_enum (by rfl) T.b_enumerate (pa_cons (pv 0) pa_nil)) (pg_tup rfl (pgs_cons (pg_name (i := 1) nd rfl (Or.inl rfl)) (pgs_cons (pg_name (i := 2) nd rfl (Or.inl rfl)) pgs_nil))) (pss_one (ps_if (pt_not (pt_val (pe_c G_isword (hr.mono (by decide)) rfl (pa_cons (pv 2) pa_nil)))) (pss_one (ps_never)) pss_nil))))), ?_⟩
    refine ⟨_, rfl, _, .ty "list", _, _, _, rfl, .ty "list", (Kd.lst hl).ty, (Kd.lst hl).kit "list" _ (.inr ⟨by decide, by decide, rfl⟩), _, rfl, iteF ?_⟩
    refine ⟨_, rfl, l, _, rfl, .inl (SqL.of hl), _, _, rfl, rfl, _, rfl, ite2 (fun c => ?_) (fun _ => ?_)⟩
    · have c' := of_decide_eq_true c
      rw [List.length_map] at c'
      omega
    refine ⟨_, rfl, l, ws.map wV, rfl, SqL.of hl, for_enum (K := K) (a := l) (xs := ws.map wV) (fun i σ H2 => ∃ u v : Option V, σ = [some (.ref l), u, v] ∧ Same H H2) ⟨none, none, rfl, Same.refl H⟩ (fun i σ H2 _ ⟨_, _, _, s2⟩ => SqL.of (s2 _ _ hl)) ?_ ?_⟩
    · rintro i x T' σ H2 hx ⟨u, v, rfl, s2⟩ hT
      rw [List.getElem?_map] at hx
      obtain ⟨up, _, rfl⟩ := Option.map_eq_some_iff.mp hx
      have s3 := s2.trans (Same.upd (o := .tup [.int (i : Nat), wV up]) hT)
      refine ⟨T', _, rfl, SqT.of upd_same, rfl, _, _, rfl, _, _, rfl, rfl, ?_⟩
      exact ⟨_, rfl, up, rfl, fun H3 s4 => ⟨_, rfl, iteF ⟨_, _, rfl, s3.trans s4⟩⟩⟩
    · rintro σ H2 ⟨u, v, rfl, s2⟩
      exact k H2 s2
theorem ok_checkwords (T : LX K mg L) : Cal P w K mg base "check_words" 2 L.f_check_words ["log"] (spCkWords) := T.d_check_words.cal fun fd F => fn_checkwords T F
abbrev N_played : List Str := ["row", "log", "playing", "told", "word"]
theorem sc_played : FnScope N_played ["row", "log"] (defScope st_played) := ⟨rfl, rfl, rfl, by decide +kernel, rfl, by decide +kernel, by decide +kernel⟩
theorem fn_played (T : LX K mg L) {fd : FuncData} (F : Fun K "played" "played" st_played L.f_played fd) : FnOk P w K mg base CX0 8 L.f_played fd ["row", "log"] (spPlayed K L.c_Row L.c_Playing) := by
  have G_checkwords := ok_checkwords (P := P) (w := w) (base := base) T
  have G_Playingrequest := ok_Playingrequest (P := P) (w := w) (base := base) T
  have nd := sc_played.nd
  refine F.ok sc_played (fun vs H Q E h => ?_) (fun cdv A outer S H vs Q E hr h => ?_)
  · obtain ⟨r, B, xs, ts, st, ph, l, ws, av, rfl, _⟩ := h
    rfl
  · obtain ⟨r, B, xs, ts, st, ph, l, ws, av, rfl, R, hl, wl, na, k⟩ := h
    refine ⟨_, (pss_cons (ps_set (i := 2) nd rfl (Or.inr rfl) (pe_mkPlaying T (hr.mono (by decide)) rfl (pa_cons (pv 0) pa_nil)))
       (pss_cons (ps_expr (pe_c G_checkwords (hr.mono (by decide)) rfl (pa_cons (pv 1) pa_nil)))
       (pss_cons (ps_setLc (i := 3) (own := [("word", 4)]) (g := gName 4) (tt := tYes) rfl nd rfl rfl (sw_true rfl rfl rfl (by decide +kernel)) (pi_list (pv 1)) (blkOk_by (own := [("word", 4)]) (N := N_played) (sc := defScope st_played) (by decide +kernel)) (fun _ _ _ _ _ => pg_name (i := 4) nd rfl (Or.inl rfl)) (fun _ _ _ _ _ => pts_nil) (fun _ _ _ _ _ => (G_Playingrequest.p_m1 T.cf_Playing.cl (hr.mono (by decide)) (pv 2) (pa_cons (pv 4) pa_nil))))
       (pss_one (ps_ret (pe_tup (pa_cons (pv 2) (pa_cons (pv 3) pa_nil)))))))), ?_⟩
    have nn : ∀ b ∈ AvS.add l av, H b ≠ none := fun b hb => by
      rcases AvS.mem.mp hb with rfl | hb
      · rw [hl]; exact fun z => nomatch z
      · exact na b hb
    refine ⟨_, rfl, playing_made R fun p H1 _ PV s1 np => ?_⟩
    have PV1 := PV (AvS.add l av) nn
    refine ⟨_, rfl, l, ws, rfl, s1 _ _ hl, by omega, fun H2 s2 => ?_⟩
    have s12 := s1.trans s2
    have PV2 := PV1.same s2
    have hl2 := s12 _ _ hl
    refine ⟨_, rfl, l, rfl, ⟨_, SqL.of hl2⟩, fun D hD => ?_⟩
    have Dn : ∀ b, H b ≠ none → b ≠ D := fun b hb q => by
      cases e : H b with
      | none => exact hb e
      | some o =>
        have := s12 _ _ e
        rw [q, hD] at this
        cases this
    refine lc_list (K := K) (a := l) (xs := ws.map wV) (fun j Hc => ∃ ys, Hc D = some (.lst ys) ∧ Tlds K Hc ys ts st ph (ws.take j) ∧ PlV L.c_Row L.c_Playing (AvS.add D (AvS.add l av)) Hc p ts st ph (ws.take j) ∧ KeV (AvS.add l av) H Hc ∧ Hc l = some (.lst (ws.map wV)))
      ⟨[], upd_same, ⟨rfl, fun j up e => by cases e⟩, PV2.more (Same.upd hD) hD, .same (s12.trans (Same.upd hD)), (Same.upd hD) _ _ hl2⟩ (fun j Hc _ ⟨_, _, _, _, _, h⟩ => SqL.of h) ?_ ?_
    · rintro j x Hc hxj ⟨ys, hDc, td, PVc, kc, hlc⟩
      rw [List.getElem?_map] at hxj
      obtain ⟨up, hup, rfl⟩ := Option.map_eq_some_iff.mp hxj
      have jl := (List.getElem?_eq_some_iff.mp hup).1
      have etk : ws.take (j + 1) = ws.take j ++ [up] := by rw [List.take_add_one, hup]; rfl
      obtain ⟨dx, r', aw, ah, hp⟩ := PVc.ob
      have ltk : (ws.take j).length = j := by rw [List.length_take]; omega
      refine ⟨rfl, tYes_of ⟨_, rfl, p, dx, _, rfl, hp, plF_no _ _ _ (by decide +kernel) (by decide +kernel) (by decide +kernel), _, rfl, p, AvS.add D (AvS.add l av), ts, st, ph, ws.take j, up, rfl, PVc, by omega, fun b hb => ?_, fun x H3 tx PV3 k3 => ?_⟩⟩
      · rcases AvS.mem.mp hb with rfl | hb
        · rw [hDc]; exact fun z => nomatch z
        · have h0 := nn b hb
          cases e : H b with
          | none => exact absurd e h0
          | some o => rw [kc b o e (.inl hb)]; exact fun z => nomatch z
      · rw [ltk] at tx
        have hD3 := k3 _ _ hDc (.inl (AvS.hd))
        have nl := NL.upd (o := .lst (ys ++ [x])) hD3
        have kp : Kp D H3 (upd H3 D (.lst (ys ++ [x]))) := Kp.upd
        refine ⟨ys, hD3, small1 (by rw [td.1]; omega), ys ++ [x], upd_same, ?_, ?_, fun b o e q => ?_, kp _ _ (Dn _ (by rw [hl]; exact fun z => nomatch z)) (k3 _ _ hlc (.inl (AvS.tl (AvS.hd))))⟩
        · rw [etk]
          exact Tlds.app ((td.nl k3.nl).nl nl) (by rw [ltk]; exact tx.nl nl)
        · rw [etk]
          exact PV3.keB (KeB.kp kp (AvS.hd) hD3)
        · have bD : b ≠ D := Dn b (by rw [e]; exact fun z => nomatch z)
          exact kp _ _ bD (k3 _ _ (kc b o e q) (q.elim (fun q => .inl (AvS.tl q)) .inr))
    rintro H3 ⟨ys, hD3, td, PV3, k3, hl3⟩
    rw [List.length_map, List.take_length] at td PV3
    refine ⟨_, rfl, _, rfl, (by show 2 ≤ sizeLine; decide), fun t nt => ?_⟩
    have s4 := Same.upd (o := .tup [.ref p, .ref D]) nt
    exact k t p D ys _ upd_same (s4 _ _ hD3) (td.nl (NL.of s4)) (PV3.same s4) (k3.trans (.same s4)) np (none_of s12 hD)
theorem ok_played (T : LX K mg L) : Cal P w K mg base "played" 8 L.f_played ["row", "log"] (spPlayed K L.c_Row L.c_Playing) := T.d_played.cal fun fd F => fn_played T F
abbrev N_replay : List Str := ["row", "log"]
theorem sc_replay : FnScope N_replay ["row", "log"] (defScope st_replay) := ⟨rfl, rfl, rfl, by decide +kernel, rfl, by decide +kernel, by decide +kernel⟩
theorem fn_replay (T : LX K mg L) {fd : FuncData} (F : Fun K "replay" "replay" st_replay L.f_replay fd) : FnOk P w K mg base CX0 9 L.f_replay fd ["row", "log"] (spReplay K L.c_Row L.c_Playing) := by
  have G_played := ok_played (P := P) (w := w) (base := base) T
  have nd := sc_replay.nd
  refine F.ok sc_replay (fun vs H Q E h => ?_) (fun cdv A outer S H vs Q E hr h => ?_)
  · obtain ⟨r, B, xs, ts, st, ph, l, ws, av, rfl, _⟩ := h
    rfl
  · obtain ⟨r, B, xs, ts, st, ph, l, ws, av, rfl, R, hl, wl, na, k⟩ := h
    refine ⟨_, (pss_one (ps_ret (pe_ix (r := rIxT K) ix_tup (pe_c G_played (hr.mono (by decide)) rfl (pa_cons (pv 0) (pa_cons (pv 1) pa_nil))) pe_int (fun _ _ => rfl)))), ?_⟩
    exact ⟨_, rfl, _, rfl, r, B, xs, ts, st, ph, l, ws, av, rfl, R, hl, wl, na, fun t p d ys H' ht hd td PV kv np nd => ⟨t, _, 0, .ref p, rfl, rfl, SqT.of ht, rfl, k p H' (PV.less fun b hb => AvS.tl hb) kv np⟩⟩
theorem ok_replay (T : LX K mg L) : Cal P w K mg base "replay" 9 L.f_replay ["row", "log"] (spReplay K L.c_Row L.c_Playing) := T.d_replay.cal fun fd F => fn_replay T F
abbrev N_outcomes : List Str := ["row", "log"]
theorem sc_outcomes : FnScope N_outcomes ["row", "log"] (defScope st_outcomes) := ⟨rfl, rfl, rfl, by decide +kernel, rfl, by decide +kernel, by decide +kernel⟩
theorem fn_outcomes (T : LX K mg L) {fd : FuncData} (F : Fun K "outcomes" "outcomes" st_outcomes L.f_outcomes fd) : FnOk P w K mg base CX0 9 L.f_outcomes fd ["row", "log"] (spOuts K L.c_Row L.c_Playing) := by
  have G_played := ok_played (P := P) (w := w) (base := base) T
  have nd := sc_outcomes.nd
  refine F.ok sc_outcomes (fun vs H Q E h => ?_) (fun cdv A outer S H vs Q E hr h => ?_)
  · obtain ⟨r, B, xs, ts, st, ph, l, ws, av, rfl, _⟩ := h
    rfl
  · obtain ⟨r, B, xs, ts, st, ph, l, ws, av, rfl, R, hl, wl, na, k⟩ := h
    refine ⟨_, (pss_one (ps_ret (pe_ix (r := rIxT K) ix_tup (pe_c G_played (hr.mono (by decide)) rfl (pa_cons (pv 0) (pa_cons (pv 1) pa_nil))) pe_int (fun _ _ => rfl)))), ?_⟩
    exact ⟨_, rfl, _, rfl, r, B, xs, ts, st, ph, l, ws, av, rfl, R, hl, wl, na, fun t p d ys H' ht hd td PV kv np nd => ⟨t, _, 1, .ref d, rfl, rfl, SqT.of ht, rfl, k d ys H' hd td kv nd⟩⟩
theorem ok_outcomes (T : LX K mg L) : Cal P w K mg base "outcomes" 9 L.f_outcomes ["row", "log"] (spOuts K L.c_Row L.c_Playing) := T.d_outcomes.cal fun fd F => fn_outcomes T F
end
/-! ### a Playing refuses -/
theorem Kd.kitS {K : PySem.W.Frag} {H : Hp} {v : V} {n : String} (h : Kd H v n) : PySem.W.kitOne K (.type n) (.type "str") = some (n == "str") := by
  cases h <;> exact kit_ty (by decide +kernel)
/-- whether a value is a word for a request -/
def isWd : V → Bool
  | .str x => inV (.str x) [V.str "up", V.str "down"]
  | _ => false
theorem Brs.tp {H H' : Hp} {xs : List V} {ts : List Tri} (h : Brs H xs ts) (k : ∀ b us, H b = some (.tup us) → H' b = some (.tup us)) : Brs H' xs ts := L2.Paired.mapP h fun _ _ ⟨a, e, h⟩ => ⟨a, e, k _ _ h⟩
theorem RowAt.ext {C : Addr} {H H' : Hp} {r B : Addr} {xs : List V} {ts : List Tri} {st ph : Int} (R : RowAt C H r B xs ts st ph) (k : LamX.ExtN H H') : RowAt C H' r B xs ts st ph := by
  obtain ⟨dx, ob⟩ := R.ob
  exact ⟨⟨dx, k _ _ ob fun _ z => nomatch z⟩, k _ _ R.tp fun _ z => (nomatch z), R.br.tp fun b us e => k _ _ e fun _ z => (nomatch z), R.ok, R.ln, R.s0, R.s1, R.p0, R.p1⟩
theorem Kd.ext {H H' : Hp} {v : V} {n : String} (h : Kd H v n) (k : LamX.ExtN H H') : Kd H' v n := by
  cases h with
  | non => exact .non
  | bl b => exact .bl b
  | int i => exact .int i
  | str x => exact .str x
  | lst e => exact .lst (k _ _ e fun _ z => nomatch z)
  | tup e => exact .tup (k _ _ e fun _ z => nomatch z)
  | dK e => exact .dK (k _ _ e fun _ z => nomatch z)
def spIsWordB : Sp := fun vs H Q _ => ∃ v n, vs = [v] ∧ Kd H v n ∧ ∀ H', Same H H' → Q (.bl (isWd v)) H'
def spPInitX (K : PySem.W.Frag) (L : LA) : Sp := fun vs H _ E => ∃ p v u, vs = [.ref p, v] ∧ TyX K H v u ∧ PySem.W.kitOne K u (.ref L.c_Row) = some false ∧ ∀ d H', H' d = some (.xd [("at", .int (-1)), ("part", .str "row")]) → Same H H' → E (.ref L.e_InvalidRow) (some d) H'
namespace EX
section
variable {P : Program} {w : World} {K : PySem.W.Frag} {mg : Str → Option Value} {base : Heap} {L : LA}
abbrev N_isword : List Str := ["value"]
theorem sc_isword : FnScope N_isword ["value"] (defScope st_is_word) := ⟨rfl, rfl, rfl, by decide +kernel, rfl, by decide +kernel, by decide +kernel⟩
theorem fn_isword (T : LX K mg L) {fd : FuncData} (F : Fun K "is_word" "is_word" st_is_word L.f_is_word fd) : FnOk P w K mg base CX0 1 L.f_is_word fd ["value"] (spIsWordB) := by
  have nd := sc_isword.nd
  refine F.ok sc_isword (fun vs H Q E h => ?_) (fun cdv A outer S H vs Q E hr h => ?_)
  · obtain ⟨v, n, rfl, _⟩ := h
    rfl
  · obtain ⟨v, n, rfl, kd, k⟩ := h
    refine ⟨_, (pss_one (ps_ret (pe_and (pe_callB call_isi (by rfl) T.b_isinstance (by decide +kernel) (pa_cons (pv 0) (pa_cons (pe_bltn (by rfl) T.b_str (by decide +kernel : bootBuiltins "str" = some (.type "str")) (v := .ty "str") rfl) pa_nil))) (pe_one (pe_cmpR op_in_seq (pv 0) (pe_tup (pa_cons pe_str (pa_cons pe_str pa_nil))) rfl))))), ?_⟩
    refine ⟨_, rfl, _, .ty "str", _, _, _, rfl, .ty "str", kd.ty, kd.kitS, _, rfl, ?_⟩
    cases kd with
    | str x =>
      refine iteT ⟨_, rfl, (by show 2 ≤ sizeLine; decide), fun p np => ?_⟩
      exact ⟨p, _, rfl, .inr (SqT.of upd_same), rfl, rfl, k _ (Same.upd np)⟩
    | non => exact iteF (k _ (Same.refl _))
    | bl b => exact iteF (k _ (Same.refl _))
    | int i => exact iteF (k _ (Same.refl _))
    | lst e => exact iteF (k _ (Same.refl _))
    | tup e => exact iteF (k _ (Same.refl _))
    | dK e => exact iteF (k _ (Same.refl _))
theorem ok_isword (T : LX K mg L) : Cal P w K mg base "is_word" 1 L.f_is_word ["value"] (spIsWordB) := T.d_is_word.cal fun fd F => fn_isword T F
theorem fn_Playinginit (T : LX K mg L) {fd : FuncData} (F : Fun K "__init__" "Playing.__init__" st_Playing_init L.i_Playing fd) : FnOk P w K mg base (L2.CX P w) 4 L.i_Playing fd ["self", "row"] (spPInitX K L) := by
  have M_Row := T.gc_Row
  have G_closedstates := ok_closedstates (P := P) (w := w) (base := base) T
  have G_Rowlen := ok_Rowlen (P := P) (w := w) (base := base) T
  have nd := sc_Playinginit.nd
  refine F.okX sc_Playinginit (fun vs H Q E h => ?_) (fun cdv A outer S H vs Q E hr h => ?_)
  · obtain ⟨p, v, u, rfl, _⟩ := h
    rfl
  · obtain ⟨p, v, u, rfl, ty, kit, k⟩ := h
    refine ⟨_, (pss_cons (ps_if (pt_not (pt_val (pe_callB call_isi (by rfl) T.b_isinstance (by decide +kernel) (pa_cons (pv 1) (pa_cons (pe_glob rfl M_Row rr) pa_nil))))) (pss_one (ps_raise rfl (takes_of rfl rfl rfl rfl) (mk_InvalidRow T (hr.mono (by decide)) rfl (pa_cons pe_str (pa_cons (pe_un un_neg pe_int) pa_nil))))) pss_nil)
       (pss_cons (ps_fld (pv 0) (pv 1) rfl)
       (pss_cons (ps_fld (pv 0) (pe_lst pa_nil) rfl)
       (pss_one (ps_fld (pv 0) (pe_lst (pa_cons (pe_c G_closedstates (hr.mono (by decide)) rfl (pa_cons (pe_callB (G_Rowlen.c_len (hr.mono (by decide))) (by rfl) T.b_len PySem.boot_len (pa_cons (pv 1) pa_nil)) pa_nil)) pa_nil)) rfl))))), ?_⟩
    refine ⟨_, rfl, _, .ref L.c_Row, _, _, _, rfl, .own L.c_Row, ty, kit, _, rfl, iteT ?_⟩
    exact ⟨_, rfl, (by show 2 ≤ 1000; decide), fun e he => raise2 k e he⟩
end
end EX
section
variable {X : Cx} {L : LA}
/-- Playing(..) of what is no row -/
theorem pe_mkPlayingX {K : PySem.W.Frag} {E : XK} (hK : X.K = K) (tk : L2.Takes X fun cls d _ H => E cls d H) (T : LX K X.mg L) (hr : Room 5 X.A) {p pos : Pos} {e : Expr} {es : List Expr} {t : TA} (hg : Gl X "Playing") (ha : PA X (e :: es) t)
    (he : starEach (e :: es) X.env = (false, eval e X.env) :: starEach es X.env := by rfl) (hpl : (backTo pos (starEach es X.env)).any (·.1) = false := by rfl) : PE X (.Call (.Name "Playing" p) (e :: es) [] pos) (tMake L.c_Playing (spPInitX K L) [] E t) := by
  subst hK
  obtain ⟨fd, F, b⟩ := T.in_Playing
  exact pe_make T.mk_Playing (EX.fn_Playinginit T F) hr hg T.gc_Playing b .nil (pass1 tk) ha (by decide) he hpl
end
/-! ### logs that are none -/
/-- what is no log of a row, and the place that is told -/
inductive BadLog (H : Hp) : V → Int → Prop
  | no {v : V} {n : String} (h : Kd H v n) (ne : (n == "list") = false) : BadLog H v (-1)
  | long {a : Addr} {xs : List V} (e : H a = some (.lst xs)) (l : 10000 < xs.length) : BadLog H (.ref a) (-1)
  | item {a : Addr} {xs : List V} {i : Nat} {x : V} {n : String} (e : H a = some (.lst xs)) (l : xs.length ≤ 10000) (hx : xs[i]? = some x) (k : Kd H x n) (nw : isWd x = false) (pre : ∀ j, j < i → ∃ up, xs[j]? = some (wV up)) : BadLog H (.ref a) (i : Nat)
theorem Kd.mv {H H' : Hp} {v : V} {n : String} (h : Kd H v n) (s : ∀ b o, H b = some o → (∀ ps, o ≠ .tbl ps) → H' b = some o) : Kd H' v n := by
  cases h with
  | non => exact .non
  | bl b => exact .bl b
  | int i => exact .int i
  | str x => exact .str x
  | lst e => exact .lst (s _ _ e fun _ z => nomatch z)
  | tup e => exact .tup (s _ _ e fun _ z => nomatch z)
  | dK e => exact .dK (s _ _ e fun _ z => nomatch z)
theorem BadLog.ext {H H' : Hp} {v : V} {i : Int} (h : BadLog H v i) (s : LamX.ExtN H H') : BadLog H' v i := by
  cases h with
  | no h ne => exact .no (h.ext s) ne
  | long e l => exact .long (s _ _ e fun _ z => nomatch z) l
  | item e l hx k nw pre => exact .item (s _ _ e fun _ z => nomatch z) l hx (k.ext s) nw pre
theorem isWd_w (up : Bool) : isWd (wV up) = true := by cases up <;> decide +kernel
def spCkX (L : LA) : Sp := fun vs H _ E => ∃ v i, vs = [v] ∧ BadLog H v i ∧ ∀ d H', H' d = some (.xd [("at", .int i)]) → Same H H' → E (.ref L.e_InvalidLog) (some d) H'
def spAskRow (K : PySem.W.Frag) (L : LA) : Sp := fun vs H _ E => ∃ v w u, vs = [v, w] ∧ TyX K H v u ∧ PySem.W.kitOne K u (.ref L.c_Row) = some false ∧ (∀ H', Same H H' → TyX K H' v u) ∧ ∀ d H', H' d = some (.xd [("at", .int (-1)), ("part", .str "row")]) → Same H H' → E (.ref L.e_InvalidRow) (some d) H'
def spAskLog (L : LA) : Sp := fun vs H _ E => ∃ r v i B xs ts st ph, vs = [.ref r, v] ∧ RowAt L.c_Row H r B xs ts st ph ∧ BadLog H v i ∧ ∀ d H', H' d = some (.xd [("at", .int i)]) → Same H H' → E (.ref L.e_InvalidLog) (some d) H'
namespace EX
section
variable {P : Program} {w : World} {K : PySem.W.Frag} {mg : Str → Option Value} {base : Heap} {L : LA}
theorem fn_checkwords (T : LX K mg L) {fd : FuncData} (F : Fun K "check_words" "check_words" st_check_words L.f_check_words fd) : FnOk P w K mg base (L2.CX P w) 3 L.f_check_words fd ["log"] (spCkX L) := by
  obtain ⟨tk_MOST_REQUESTS, c_MOST_REQUESTS⟩ := T.n_MOST_REQUESTS
  have G_isword := ok_isword (P := P) (w := w) (base := base) T
  have nd := sc_checkwords.nd
  refine F.okX sc_checkwords (fun vs H Q E h => ?_) (fun cdv A outer S H vs Q E hr h => ?_)
  · obtain ⟨v, i, rfl, _⟩ := h
    rfl
  · obtain ⟨v, i, rfl, bad, k⟩ := h
    refine ⟨_, (pss_cons (ps_if (PW.pt (pw_or (pt_not (pt_val (pe_callB call_isi (by rfl) T.b_isinstance (by decide +kernel) (pa_cons (pv 0) (pa_cons (pe_bltn (by rfl) T.b_list (by decide +kernel : bootBuiltins "list" = some (.type "list")) (v := .ty "list") rfl) pa_nil))))) (pw_or1 (pt_cmpR op_gt (pe_callB call_len_seq (by rfl) T.b_len PySem.boot_len (pa_cons (pv 0) pa_nil)) (pe_gI c_MOST_REQUESTS) (nomark _))))) (pss_one (ps_raise rfl (takes_of rfl rfl rfl rfl) (mk_InvalidLog T (hr.mono (by decide)) rfl (pa_cons (pe_un un_neg pe_int) pa_nil)))) pss_nil)
       (pss_one (ps_for (passes_of rfl) rfl (pi_enum (by rfl) T.b_enumerate (pa_cons (pv 0) pa_nil)) (pg_tup rfl (pgs_cons (pg_name (i := 1) nd rfl (Or.inl rfl)) (pgs_cons (pg_name (i := 2) nd rfl (Or.inl rfl)) pgs_nil))) (pss_one (ps_if (pt_not (pt_val (pe_c G_isword (hr.mono (by decide)) rfl (pa_cons (pv 2) pa_nil)))) (pss_one (ps_raise rfl (takes_of rfl rfl rfl rfl) (mk_InvalidLog T (hr.mono (by decide)) rfl (pa_cons (pv 1) pa_nil)))) pss_nil))))), ?_⟩
    cases bad with
    | @no v n h ne =>
      have kt : PySem.W.kitOne K (.type n) (.type "list") = some false := by
        have := h.kit (K := K) "list" (n == "list") (.inr ⟨by decide, by decide, rfl⟩)
        rw [ne] at this
        exact this
      exact ⟨_, rfl, _, .ty "list", _, _, _, rfl, .ty "list", h.ty, kt, _, rfl, iteT (iteT ⟨_, rfl, (by show 1 ≤ 1000; decide), fun e he => raise1 k e he⟩)⟩
    | @long a xs e l =>
      refine ⟨_, rfl, _, .ty "list", _, _, _, rfl, .ty "list", (Kd.lst e).ty, (Kd.lst e).kit "list" _ (.inr ⟨by decide, by decide, rfl⟩), _, rfl, iteF ?_⟩
      refine ⟨_, rfl, a, _, rfl, .inl (SqL.of e), _, _, rfl, rfl, _, rfl, ite2 (fun c => ?_) (fun c => ?_)⟩
      · exact ⟨_, rfl, (by show 1 ≤ 1000; decide), fun x hx => raise1 k x hx⟩
      · exact absurd (decide_eq_true (by omega : (10000 : Int) < (xs.length : Int))) c
    | @item a xs i x n e l hx kd nw pre =>
      have il := (List.getElem?_eq_some_iff.mp hx).1
      refine ⟨_, rfl, _, .ty "list", _, _, _, rfl, .ty "list", (Kd.lst e).ty, (Kd.lst e).kit "list" _ (.inr ⟨by decide, by decide, rfl⟩), _, rfl, iteF ?_⟩
      refine ⟨_, rfl, a, _, rfl, .inl (SqL.of e), _, _, rfl, rfl, _, rfl, ite2 (fun c => ?_) (fun _ => ?_)⟩
      · have c' := of_decide_eq_true c
        omega
      refine ⟨_, rfl, a, xs, rfl, SqL.of e, for_enum (K := K) (a := a) (xs := xs) (fun j σ H2 => ∃ u v : Option V, σ = [some (.ref a), u, v] ∧ Same H H2 ∧ j ≤ i) ⟨none, none, rfl, Same.refl H, Nat.zero_le _⟩ (fun j σ H2 _ ⟨_, _, _, s2, _⟩ => SqL.of (s2 _ _ e)) ?_ ?_⟩
      · rintro j y T' σ H2 hy ⟨u, v, rfl, s2, ji⟩ hT
        have s3 := s2.trans (Same.upd (o := .tup [.int (j : Nat), y]) hT)
        refine ⟨T', _, rfl, SqT.of upd_same, rfl, _, _, rfl, _, _, rfl, rfl, ?_⟩
        by_cases c : j < i
        · obtain ⟨up, hup⟩ := pre j c
          rw [hy] at hup
          cases hup
          refine ⟨_, rfl, wV up, _, rfl, .str _, fun H3 s4 => ⟨_, rfl, ?_⟩⟩
          rw [isWd_w]
          exact iteF ⟨_, _, rfl, s3.trans s4, c⟩
        · have ej : j = i := by omega
          subst ej
          rw [hx] at hy
          cases hy
          refine ⟨_, rfl, x, n, rfl, kd.mv fun b o e _ => s3 _ _ e, fun H3 s4 => ⟨_, rfl, ?_⟩⟩
          rw [nw]
          exact iteT ⟨_, rfl, (by show 1 ≤ 1000; decide), fun e he => raise1 (fun d H' hd s' => k d H' hd ((s3.trans s4).trans s')) e he⟩
      · rintro σ H2 ⟨u, v, rfl, s2, ji⟩
        omega
theorem ok_checkwords (T : LX K mg L) : CalX P w K mg base "check_words" 3 L.f_check_words ["log"] (spCkX L) := T.d_check_words.calX fun fd F => fn_checkwords T F
end
end EX
namespace E1
section
variable {P : Program} {w : World} {K : PySem.W.Frag} {mg : Str → Option Value} {base : Heap} {L : LA}
theorem fn_played (T : LX K mg L) {fd : FuncData} (F : Fun K "played" "played" st_played L.f_played fd) : FnOk P w K mg base (L2.CX P w) 8 L.f_played fd ["row", "log"] (spAskRow K L) := by
  have G_checkwords := ok_checkwords (P := P) (w := w) (base := base) T
  have G_Playingrequest := ok_Playingrequest (P := P) (w := w) (base := base) T
  have nd := sc_played.nd
  refine F.okX sc_played (fun vs H Q E h => ?_) (fun cdv A outer S H vs Q E hr h => ?_)
  · obtain ⟨v, w', u, rfl, _⟩ := h
    rfl
  · obtain ⟨v, w', u, rfl, ty, kit, mv, k⟩ := h
    refine ⟨_, (pss_cons (ps_set (i := 2) nd rfl (Or.inr rfl) (pe_mkPlayingX (K := K) rfl (takes_of rfl rfl rfl rfl) T (hr.mono (by decide)) rfl (pa_cons (pv 0) pa_nil)))
       (pss_cons (ps_expr (pe_c G_checkwords (hr.mono (by decide)) rfl (pa_cons (pv 1) pa_nil)))
       (pss_cons (ps_setLc (i := 3) (own := [("word", 4)]) (g := gName 4) (tt := tYes) rfl nd rfl rfl (sw_true rfl rfl rfl (by decide +kernel)) (pi_list (pv 1)) (blkOk_by (own := [("word", 4)]) (N := N_played) (sc := defScope st_played) (by decide +kernel)) (fun _ _ _ _ _ => pg_name (i := 4) nd rfl (Or.inl rfl)) (fun _ _ _ _ _ => pts_nil) (fun _ _ _ _ _ => (G_Playingrequest.p_m1 T.cf_Playing.cl (hr.mono (by decide)) (pv 2) (pa_cons (pv 4) pa_nil))))
       (pss_one (ps_ret (pe_tup (pa_cons (pv 2) (pa_cons (pv 3) pa_nil)))))))), ?_⟩
    refine ⟨_, rfl, fun x dxx hx hdx hne => ?_⟩
    have s0 : Same H (upd (upd H dxx (.own x)) x (.ins L.c_Playing dxx [])) := fun b o e => by
      rw [upd_ne (ne_of_none e hx), upd_ne (ne_of_none e hdx)]
      exact e
    exact ⟨x, v, u, rfl, mv _ s0, kit, fun d H' hd s' => k d H' hd (s0.trans s')⟩
theorem ok_played (T : LX K mg L) : CalX P w K mg base "played" 8 L.f_played ["row", "log"] (spAskRow K L) := T.d_played.calX fun fd F => fn_played T F
theorem fn_replay (T : LX K mg L) {fd : FuncData} (F : Fun K "replay" "replay" st_replay L.f_replay fd) : FnOk P w K mg base (L2.CX P w) 9 L.f_replay fd ["row", "log"] (spAskRow K L) := by
  have G_played := ok_played (P := P) (w := w) (base := base) T
  have nd := sc_replay.nd
  refine F.okX sc_replay (fun vs H Q E h => ?_) (fun cdv A outer S H vs Q E hr h => ?_)
  · obtain ⟨v, w', u, rfl, _⟩ := h
    rfl
  · obtain ⟨v, w', u, rfl, ty, kit, mv, k⟩ := h
    refine ⟨_, (pss_one (ps_ret (pe_ix (r := rIxT K) ix_tup (pe_cX (E1.ok_played (P := P) (w := w) (base := base) T) (hr.mono (by decide)) rfl (fun σ => passAt (takes_of rfl rfl rfl rfl) σ) (pa_cons (pv 0) (pa_cons (pv 1) pa_nil))) pe_int (fun _ _ => rfl)))), ?_⟩
    exact ⟨_, rfl, _, rfl, v, w', u, rfl, ty, kit, mv, k⟩
theorem ok_replay (T : LX K mg L) : CalX P w K mg base "replay" 9 L.f_replay ["row", "log"] (spAskRow K L) := T.d_replay.calX fun fd F => fn_replay T F
theorem fn_outcomes (T : LX K mg L) {fd : FuncData} (F : Fun K "outcomes" "outcomes" st_outcomes L.f_outcomes fd) : FnOk P w K mg base (L2.CX P w) 9 L.f_outcomes fd ["row", "log"] (spAskRow K L) := by
  have G_played := ok_played (P := P) (w := w) (base := base) T
  have nd := sc_outcomes.nd
  refine F.okX sc_outcomes (fun vs H Q E h => ?_) (fun cdv A outer S H vs Q E hr h => ?_)
  · obtain ⟨v, w', u, rfl, _⟩ := h
    rfl
  · obtain ⟨v, w', u, rfl, ty, kit, mv, k⟩ := h
    refine ⟨_, (pss_one (ps_ret (pe_ix (r := rIxT K) ix_tup (pe_cX (E1.ok_played (P := P) (w := w) (base := base) T) (hr.mono (by decide)) rfl (fun σ => passAt (takes_of rfl rfl rfl rfl) σ) (pa_cons (pv 0) (pa_cons (pv 1) pa_nil))) pe_int (fun _ _ => rfl)))), ?_⟩
    exact ⟨_, rfl, _, rfl, v, w', u, rfl, ty, kit, mv, k⟩
theorem ok_outcomes (T : LX K mg L) : CalX P w K mg base "outcomes" 9 L.f_outcomes ["row", "log"] (spAskRow K L) := T.d_outcomes.calX fun fd F => fn_outcomes T F
end
end E1
namespace E2
section
variable {P : Program} {w : World} {K : PySem.W.Frag} {mg : Str → Option Value} {base : Heap} {L : LA}
theorem fn_played (T : LX K mg L) {fd : FuncData} (F : Fun K "played" "played" st_played L.f_played fd) : FnOk P w K mg base (L2.CX P w) 8 L.f_played fd ["row", "log"] (spAskLog L) := by
  have G_checkwords := ok_checkwords (P := P) (w := w) (base := base) T
  have G_Playingrequest := ok_Playingrequest (P := P) (w := w) (base := base) T
  have nd := sc_played.nd
  refine F.okX sc_played (fun vs H Q E h => ?_) (fun cdv A outer S H vs Q E hr h => ?_)
  · obtain ⟨r, v, i, B, xs, ts, st, ph, rfl, _⟩ := h
    rfl
  · obtain ⟨r, v, i, B, xs, ts, st, ph, rfl, R, bad, k⟩ := h
    refine ⟨_, (pss_cons (ps_set (i := 2) nd rfl (Or.inr rfl) (pe_mkPlaying T (hr.mono (by decide)) rfl (pa_cons (pv 0) pa_nil)))
       (pss_cons (ps_expr (pe_cX (EX.ok_checkwords (P := P) (w := w) (base := base) T) (hr.mono (by decide)) rfl (fun σ => passAt (takes_of rfl rfl rfl rfl) σ) (pa_cons (pv 1) pa_nil)))
       (pss_cons (ps_setLc (i := 3) (own := [("word", 4)]) (g := gName 4) (tt := tYes) rfl nd rfl rfl (sw_true rfl rfl rfl (by decide +kernel)) (pi_list (pv 1)) (blkOk_by (own := [("word", 4)]) (N := N_played) (sc := defScope st_played) (by decide +kernel)) (fun _ _ _ _ _ => pg_name (i := 4) nd rfl (Or.inl rfl)) (fun _ _ _ _ _ => pts_nil) (fun _ _ _ _ _ => (G_Playingrequest.p_m1 T.cf_Playing.cl (hr.mono (by decide)) (pv 2) (pa_cons (pv 4) pa_nil))))
       (pss_one (ps_ret (pe_tup (pa_cons (pv 2) (pa_cons (pv 3) pa_nil)))))))), ?_⟩
    refine ⟨_, rfl, playing_made R fun p H1 _ PV s1 np => ?_⟩
    exact ⟨_, rfl, v, i, rfl, bad.ext (.of s1), fun d H' hd s' => k d H' hd (s1.trans s')⟩
theorem ok_played (T : LX K mg L) : CalX P w K mg base "played" 8 L.f_played ["row", "log"] (spAskLog L) := T.d_played.calX fun fd F => fn_played T F
theorem fn_replay (T : LX K mg L) {fd : FuncData} (F : Fun K "replay" "replay" st_replay L.f_replay fd) : FnOk P w K mg base (L2.CX P w) 9 L.f_replay fd ["row", "log"] (spAskLog L) := by
  have G_played := ok_played (P := P) (w := w) (base := base) T
  have nd := sc_replay.nd
  refine F.okX sc_replay (fun vs H Q E h => ?_) (fun cdv A outer S H vs Q E hr h => ?_)
  · obtain ⟨r, v, i, B, xs, ts, st, ph, rfl, _⟩ := h
    rfl
  · obtain ⟨r, v, i, B, xs, ts, st, ph, rfl, R, bad, k⟩ := h
    refine ⟨_, (pss_one (ps_ret (pe_ix (r := rIxT K) ix_tup (pe_cX (E2.ok_played (P := P) (w := w) (base := base) T) (hr.mono (by decide)) rfl (fun σ => passAt (takes_of rfl rfl rfl rfl) σ) (pa_cons (pv 0) (pa_cons (pv 1) pa_nil))) pe_int (fun _ _ => rfl)))), ?_⟩
    exact ⟨_, rfl, _, rfl, r, v, i, B, xs, ts, st, ph, rfl, R, bad, k⟩
theorem ok_replay (T : LX K mg L) : CalX P w K mg base "replay" 9 L.f_replay ["row", "log"] (spAskLog L) := T.d_replay.calX fun fd F => fn_replay T F
theorem fn_outcomes (T : LX K mg L) {fd : FuncData} (F : Fun K "outcomes" "outcomes" st_outcomes L.f_outcomes fd) : FnOk P w K mg base (L2.CX P w) 9 L.f_outcomes fd ["row", "log"] (spAskLog L) := by
  have G_played := ok_played (P := P) (w := w) (base := base) T
  have nd := sc_outcomes.nd
  refine F.okX sc_outcomes (fun vs H Q E h => ?_) (fun cdv A outer S H vs Q E hr h => ?_)
  · obtain ⟨r, v, i, B, xs, ts, st, ph, rfl, _⟩ := h
    rfl
  · obtain ⟨r, v, i, B, xs, ts, st, ph, rfl, R, bad, k⟩ := h
    refine ⟨_, (pss_one (ps_ret (pe_ix (r := rIxT K) ix_tup (pe_cX (E2.ok_played (P := P) (w := w) (base := base) T) (hr.mono (by decide)) rfl (fun σ => passAt (takes_of rfl rfl rfl rfl) σ) (pa_cons (pv 0) (pa_cons (pv 1) pa_nil))) pe_int (fun _ _ => rfl)))), ?_⟩
    exact ⟨_, rfl, _, rfl, r, v, i, B, xs, ts, st, ph, rfl, R, bad, k⟩
theorem ok_outcomes (T : LX K mg L) : CalX P w K mg base "outcomes" 9 L.f_outcomes ["row", "log"] (spAskLog L) := T.d_outcomes.calX fun fd F => fn_outcomes T F
end
end E2
/-- what the name holds: the row is none, or the log is none -/
inductive AskO (K : PySem.W.Frag) (L : LA) : Addr → Sp → Prop
  | r1 : AskO K L L.f_replay (spAskRow K L)
  | o1 : AskO K L L.f_outcomes (spAskRow K L)
  | r2 : AskO K L L.f_replay (spAskLog L)
  | o2 : AskO K L L.f_outcomes (spAskLog L)
theorem ask_ok {P : Program} {w : World} {K : PySem.W.Frag} {mg : Str → Option Value} {base : Heap} {L : LA} (T : LX K mg L) {A : Around} (hr : Room 9 A) : ∀ f sp, AskO K L f sp → ∃ y k ps, CalX P w K mg base y k f ps sp ∧ Room k A := fun f sp h => by
  cases h with
  | r1 => exact ⟨_, _, _, E1.ok_replay T, hr⟩
  | o1 => exact ⟨_, _, _, E1.ok_outcomes T, hr⟩
  | r2 => exact ⟨_, _, _, E2.ok_replay T, hr⟩
  | o2 => exact ⟨_, _, _, E2.ok_outcomes T, hr⟩
/-! ### which error a call raises (_law_error) -/
abbrev N_werror : List Str := ["_law_ask", "_law_result", "error"]
theorem sc_werror : FnScope N_werror ["_law_ask"] (defScope st__law_error) := ⟨rfl, rfl, rfl, by decide +kernel, rfl, by decide +kernel, by decide +kernel⟩
theorem lt_mem_wrefusedright {K : PySem.W.Frag} {mg : Str → Option Value} {L : LA} (T : LX K mg L) : (L.t__law_refused_right, (("_law_refused_right" : Str) ++ ".<locals>.") ++ "<lambda>") ∈ LT L := by simp [LT]
theorem lt_one_wrefusedright {K : PySem.W.Frag} {mg : Str → Option Value} {L : LA} (T : LX K mg L) : ∀ p ∈ LT L, p.1 = L.t__law_refused_right → p.2 = (("_law_refused_right" : Str) ++ ".<locals>.") ++ "<lambda>" := by
  intro p hp e
  simp only [LT, List.mem_cons, List.mem_nil_iff, or_false] at hp
  rcases hp with rfl
  · rfl

/-- an error that the call may raise, and what _law_error makes of it -/
inductive ErrA (K : PySem.W.Frag) (L : LA) (dd : Addr) (H : Hp) (Q : VK) : Addr → Prop where
  | row (x y : V) (h : H dd = some (.xd [("at", y), ("part", x)])) (k : ∀ p H', H' p = some (.lst [.str "row", x, y, .bl false]) → Same H H' → H p = none → Q (.ref p) H') : ErrA K L dd H Q L.e_InvalidRow
  | log (v : V) (h : H dd = some (.xd [("at", v)])) (k : ∀ p H', H' p = some (.lst [.str "log", v, .bl true]) → Same H H' → H p = none → Q (.ref p) H') : ErrA K L dd H Q L.e_InvalidLog
def ErrR (K : PySem.W.Frag) (L : LA) (cls : Value) (d : Option Addr) (H : Hp) (Q : VK) : Prop := ∃ D dd : Addr, cls = .ref D ∧ d = some dd ∧ ErrA K L dd H Q D
/-- the lambda ends well, or with such an error -/
def TTerr (K : PySem.W.Frag) (L : LA) : (XK → Hp → VK → Prop) → Hp → VK → Prop := fun tl H Q => ∀ (E : XK) (N : VK), (∀ cls d H', ErrR K L cls d H' Q → E cls d H') → (∀ v H', Q (.str "none") H' → N v H') → tl E H N
theorem Takes.long {X : Cx} {W : L2.WX} (tk : L2.Takes X W) : L2.Takes X (fun cls d σ H => σ.length = X.N.length → W cls d σ H) := fun u s' x => by
  obtain ⟨a, B, sI, pins, σ, H, cls, d, e, I, nb, up, sky, na, os, ag, w⟩ := x
  exact tk u s' ⟨a, B, sI, pins, σ, H, cls, d, e, I, nb, up, sky, na, os, ag, w I.len⟩
theorem err_gives {X : Cx} {L : LA} (T : LX X.K X.mg L) (hr9 : Room 3 X.A) {g : Addr} {cdg : Value} {q : Str} : LamX.GivesTo X N_werror "_law_error" (defScope st__law_error) g cdg (defBody st__law_error) "_law_ask" q (TTerr X.K L) := by
  intro f c' s H Q tl act hc h
  have nd := sc_werror.nd
  have hr := hr9.deeper (PyProof.Rows.envOfC "_law_error" (defScope st__law_error) s.heap.objs.size g cdg)
  refine ⟨_, (pss_cons (ps_set (i := 1) nd rfl (Or.inl rfl) pe_str) (pss_cons (ps_try_mix (Wout := fun _ _ _ _ => False) (tb := fun W D σ H => ∃ Ech : XK, (∀ cls d (σ' : L2.St) H', σ'.length = 3 → Ech cls d H' → W cls d σ' H') ∧ σ[0]? = some (some (.ref f)) ∧ H c' = some (LamX.CodeO c' q) ∧ tl Ech H fun _ H' => D.nx σ H') rfl rfl nd takes0 (fun W pn xe tk _ => ?_)
    (.named (i := 2) ⟨rfl, by decide, Or.inl T.ge_InvalidRow⟩ rfl rfl (fun a oe cls d pn hz hf => by exact (pss_one (ps_set (i := 1) nd rfl (Or.inl rfl) (pe_lst (pa_cons pe_str (pa_cons (pe_xfZ (K := X.K) (by rfl) hz hf (pv 2)) (pa_cons (pe_xfZ (K := X.K) (by rfl) hz hf (pv 2)) (pa_cons (pe_callB (call_isTZ (K := X.K) (by rfl) hz hf) (by rfl) T.b_isinstance (by decide +kernel) (pa_cons (pv 2) (pa_cons (pe_tup (pa_cons (pe_glob rfl T.ge_InvalidLog rr) (pa_cons (pe_glob rfl T.ge_InvalidIndex rr) pa_nil))) pa_nil))) pa_nil))))))))
    (.named (i := 2) ⟨rfl, by decide, Or.inl T.ge_InvalidLog⟩ rfl rfl (fun a oe cls d pn hz hf => by exact (pss_one (ps_set (i := 1) nd rfl (Or.inl rfl) (pe_lst (pa_cons pe_str (pa_cons (pe_xfZ (K := X.K) (by rfl) hz hf (pv 2)) (pa_cons (pe_callB (call_isZ (K := X.K) (by rfl) hz hf) (by rfl) T.b_isinstance (by decide +kernel) (pa_cons (pv 2) (pa_cons (pe_bltn (by rfl) T.b_ArithmeticError (by decide +kernel : bootBuiltins "ArithmeticError" = some (.type "ArithmeticError")) (v := .ty "ArithmeticError") rfl) pa_nil))) pa_nil)))))))
    (.plain ⟨rfl, by decide, Or.inl T.ge_BreakerError⟩ (fun a oe cls d pn hz hf => by exact (pss_one (ps_set (i := 1) nd rfl (Or.inl rfl) pe_str))) .nil)))) (pss_one (ps_ret (pv 1))))), ?_⟩
  · refine pss_one ⟨fun pins s' σ H' D I h' => ?_⟩
    obtain ⟨Ech, hW, h1, h2, h3⟩ := h'
    exact (ps_expr (act _ pn xe Ech _ _ (Takes.long tk) (fun cls d σ' H' e z => hW cls d σ' H' z e))).run pins s' σ H' D I ⟨h1, h2, h3⟩
  · refine ⟨fun cls d H' => ErrR X.K L cls d H' Q, fun cls d σ' H' hl z => ?_, rfl, hc, h _ _ (fun _ _ _ z => z) fun _ H' z => ⟨_, rfl, z⟩⟩
    obtain ⟨D, dd, rfl, rfl, alt⟩ := z
    obtain ⟨s0, s1, s2, rfl⟩ : ∃ a0 a1 a2, σ' = [a0, a1, a2] := by
      match σ', hl with
      | [a0, a1, a2], _ => exact ⟨a0, a1, a2, rfl⟩
    have fld : ∀ {D a : Addr} {f : Str} {v : V} {fs' : List (Str × V)} {Qx : VK} {a0 a1 : Option V} {Hx : Hp}, L2.XfC X.K D → PySem.W.findIn X.K (.ref D) f = some none → Hx dd = some (.xd fs') → fs'.lookup f = some v → Qx v Hx → tXfZ X.K a (.ref D) (some dd) f (tVar 2) [a0, a1, some (.ref a)] Hx Qx := fun {D a f v fs' Qx a0 a1 Hx} xf no h1 h2 q => ⟨D, xf, no, _, rfl, rfl, rfl, dd, _, _, rfl, h1, h2, q⟩
    have isz : ∀ {D a : Addr} {fs : List (Str × V)} {v : V} {C : Value} {x : Bool} {Hx : Hp} {Qx : VK}, IsC X.K D → PySem.W.kitOne X.K (.ref D) C = some x → (∀ u, L2.RelV v u → u = C) → Hx dd = some (.xd fs) → Qx (.bl x) Hx → rIsZ X.K a (.ref D) (some dd) [.ref a, v] Hx Qx := fun {D a fs v C x Hx Qx} ic h1 h2 h3 h4 => ⟨D, dd, rfl, rfl, ic, v, C, x, fs, rfl, h3, h2, h1, h4⟩
    have ir : ∀ (p : Addr) (u : Value), L2.RelV (.ref p) u → u = .ref p := fun p u hu => hu
    cases alt with
    | row x y hd k =>
      refine ⟨true, exm_of T.xe_InvalidRow T.te_InvalidRow T.se_InvalidRow_InvalidRow, fun _ a na => ?_, fun z => nomatch z⟩
      refine fld T.xe_InvalidRow T.ne_InvalidRow_part hd rfl (fld T.xe_InvalidRow T.ne_InvalidRow_at hd rfl ?_)
      refine ⟨_, rfl, (by show 2 ≤ sizeLine; decide), fun p4 n4 => ?_⟩
      have S4 := Same.upd (o := .tup [.ref L.e_InvalidLog, .ref L.e_InvalidIndex]) n4
      exact ⟨L.e_InvalidRow, T.is_InvalidRow, rfl, dd, p4, [L.e_InvalidLog, L.e_InvalidIndex], _, rfl, S4 _ _ hd, rfl, upd_same, (L2.kitAny_cons (b := false) (kit_of T.xe_InvalidLog T.te_InvalidLog T.se_InvalidRow_InvalidRow T.se_InvalidRow_InvalidLog) (fun _ => (L2.kitAny_cons (b := false) (kit_of T.xe_InvalidIndex T.te_InvalidIndex T.se_InvalidRow_InvalidRow T.se_InvalidRow_InvalidIndex) (fun _ => L2.kitAny_nil) (fun z => nomatch z))) (fun z => nomatch z)), ⟨(by show 4 ≤ sizeLine; decide), fun p5 n5 => ⟨_, rfl, k _ _ upd_same (S4.trans (Same.upd n5)) (none_of S4 n5)⟩⟩⟩
    | log v hd k =>
      refine ⟨false, exm_of T.xe_InvalidRow T.te_InvalidRow T.se_InvalidLog_InvalidRow, fun z => (nomatch z), fun _ => ?_⟩
      refine ⟨true, exm_of T.xe_InvalidLog T.te_InvalidLog T.se_InvalidLog_InvalidLog, fun _ a na => ?_, fun z => nomatch z⟩
      refine fld T.xe_InvalidLog T.ne_InvalidLog_at hd rfl ⟨_, rfl, ?_⟩
      exact isz T.is_InvalidLog (kit_ar (x := "ArithmeticError") (by decide) T.sa_InvalidLog) (fun u hu => hu) hd ⟨(by show 3 ≤ sizeLine; decide), fun p5 n5 => ⟨_, rfl, k _ _ upd_same (Same.upd n5) (n5)⟩⟩
/-! ### the law's own draws -/
/-- a source of draws at a: at most n were drawn -/
def Src (H : Hp) (a : Addr) (n : Nat) : Prop := ∃ x y z : Int, H a = some (.lst [.int x, .int y, .int z]) ∧ 0 ≤ x ∧ 0 ≤ y ∧ y < 2147483647 ∧ 0 ≤ z ∧ z ≤ n
theorem Src.mono {H : Hp} {a : Addr} {n m : Nat} (h : Src H a n) (l : n ≤ m) : Src H a m := by
  obtain ⟨x, y, z, e, h1, h2, h3, h4, h5⟩ := h
  exact ⟨x, y, z, e, h1, h2, h3, h4, by omega⟩
theorem Src.same {H H' : Hp} {a : Addr} {n : Nat} (h : Src H a n) (s : Same H H') : Src H' a n := by
  obtain ⟨x, y, z, e, r⟩ := h
  exact ⟨x, y, z, s _ _ e, r⟩
theorem Src.has {H : Hp} {a : Addr} {n : Nat} (h : Src H a n) : ∃ xs, H a = some (.lst xs) := by
  obtain ⟨x, y, z, e, r⟩ := h
  exact ⟨_, e⟩
def spSrcOf : Sp := fun vs H Q _ => ∃ c, vs = [.int c] ∧ ∀ a H', H a = none → Same H H' → Src H' a 0 → Q (.ref a) H'
def spNext : Sp := fun vs H Q _ => ∃ (a : Addr) (m : Int) (n : Nat), vs = [.ref a, .int m] ∧ 0 < m ∧ m.natAbs < 2 ^ 1100 ∧ Src H a n ∧ n ≤ 900000 ∧ ∀ (r : Int) H', 0 ≤ r → r < m → Src H' a (n + 1101) → Kp a H H' → Q (.int r) H'
def spOne : Sp := fun vs H Q _ => ∃ (a l : Addr) (xs : List V) (n : Nat), vs = [.ref a, .ref l] ∧ a ≠ l ∧ H l = some (.lst xs) ∧ 0 < xs.length ∧ xs.length ≤ 100000 ∧ Src H a n ∧ n ≤ 900000 ∧ ∀ v H', v ∈ xs → Src H' a (n + 1101) → Kp a H H' → Q v H'
def spCell (K : PySem.W.Frag) : Sp := fun vs H Q _ => ∃ (a : Addr) (ns : List Int) (k : Int), vs = [.ref a, .int k] ∧ SqL K H a (ns.map V.int) ∧ 0 ≤ k ∧ ∀ z, Q (.int z) H
def primes : List V := [.int 2147483647, .int 2147483629, .int 2147483587, .int 2147483579, .int 2147483563, .int 2147483549, .int 2147483543]
theorem prime_at (i : Int) (h0 : 0 ≤ i) (h7 : i < 7) : ∃ p : Int, atI primes i = some (.int p) ∧ 0 < p ∧ p ≤ 2147483647 := by
  have : i = 0 ∨ i = 1 ∨ i = 2 ∨ i = 3 ∨ i = 4 ∨ i = 5 ∨ i = 6 := by omega
  rcases this with rfl | rfl | rfl | rfl | rfl | rfl | rfl <;> exact ⟨_, rfl, by decide, by decide⟩
theorem atI_of {α : Type} {xs : List α} {i : Int} (h0 : 0 ≤ i) (h1 : i < xs.length) : ∃ v, atI xs i = some v ∧ v ∈ xs := by
  have hj : i.toNat < xs.length := by omega
  refine ⟨xs[i.toNat], ?_, List.getElem_mem _⟩
  have e : ((i.toNat : Nat) : Int) = i := by omega
  have := atI_nat (xs := xs) (j := i.toNat) (v := xs[i.toNat]) (List.getElem?_eq_getElem hj)
  rwa [e] at this
section
variable {P : Program} {w : World} {K : PySem.W.Frag} {mg : Str → Option Value} {base : Heap} {L : LA}
theorem sc_srcof : FnScope ["_law_cell"] ["_law_cell"] (defScope st__law_source_of) := ⟨rfl, rfl, rfl, by decide +kernel, rfl, by decide +kernel, by decide +kernel⟩
theorem ok_wsourceof (T : LX K mg L) : Cal P w K mg base "_law_source_of" 1 L.f__law_source_of ["_law_cell"] spSrcOf := T.d__law_source_of.cal fun fd F => by
  refine F.ok sc_srcof (fun vs H Q E h => ?_) (fun cdv A outer s H vs Q E hr h => ?_)
  · obtain ⟨c, rfl, _⟩ := h
    rfl
  · obtain ⟨c, rfl, k⟩ := h
    refine ⟨_, pss_one (ps_ret (pe_lst (pa_cons (pe_op op_mul (pv 0) (pe_callTy call_int1 (by rfl) T.b_int (by decide +kernel) (pa_cons (pe_cmpR op_ge (pv 0) (pe_op op_pow pe_int pe_int) (nomark _)) pa_nil)))
      (pa_cons (pe_op op_mod (pe_callTy call_int1 (by rfl) T.b_int (by decide +kernel) (pa_cons (pv 0) pa_nil)) pe_int) (pa_cons pe_int pa_nil))))), ?_⟩
    refine ⟨_, rfl, _, rfl, _, _, rfl, rfl, ⟨by decide, by decide, by decide⟩, _, _, rfl, rfl, .inr ⟨_, rfl, _, _, rfl, rfl, ?_, ?_⟩⟩
    · refine .inr ?_
      split <;> decide
    · refine ⟨_, rfl, .inl ⟨_, rfl, _, _, rfl, rfl, (by show (0 : Int) < 2147483647; decide), ?_⟩⟩
      refine ⟨(by show 3 ≤ sizeLine; decide), fun l hl => ?_⟩
      refine k l _ hl (Same.upd hl) ⟨_, _, _, upd_same, ?_, Int.emod_nonneg _ (by decide), Int.emod_lt_of_pos _ (by decide), Int.le_refl _, Int.le_refl _⟩
      by_cases hc : (10 : Int) ^ (18 : Int).toNat ≤ c
      · rw [decide_eq_true hc, if_pos rfl, Int.mul_one]
        exact Int.le_trans (by decide) hc
      · rw [decide_eq_false hc, if_neg Bool.false_ne_true, Int.mul_zero]
        exact Int.le_refl _
theorem sc_draw : FnScope ["_law_source", "_law_bound", "_law_result", "_law_reach", "_law_prime", "_law_mixed"] ["_law_source", "_law_bound"] (defScope st__law_draw) := ⟨rfl, rfl, rfl, by decide +kernel, rfl, by decide +kernel, by decide +kernel⟩
theorem ok_wdraw (T : LX K mg L) : Cal P w K mg base "_law_draw" 1 L.f__law_draw ["_law_source", "_law_bound"] spNext := T.d__law_draw.cal fun fd F => by
  refine F.ok sc_draw (fun vs H Q E h => ?_) (fun cdv A outer s H vs Q E hr h => ?_)
  · obtain ⟨a, m, n, rfl, _⟩ := h
    rfl
  · obtain ⟨a, m, n, rfl, m0, m1, ⟨x, y, z, ha, x0, y0, y1, z0, z1⟩, hn, k⟩ := h
    have nd := sc_draw.nd
    refine ⟨_, pss_cons (ps_if (pt_cmpR op_gt (pe_ix ix_list (pv 0) pe_int (fun _ _ => rfl)) pe_int (nomark _))
        (pss_cons (ps_set (i := 2) nd rfl (Or.inl rfl) (pe_op op_mod (pe_callTy call_int1 (by rfl) T.b_int (by decide +kernel) (pa_cons (pe_ix ix_list (pv 0) pe_int (fun _ _ => rfl)) pa_nil)) (pv 1)))
        (pss_cons (ps_asg (pe_op op_fdivW (pe_ix ix_list (pv 0) pe_int (fun _ _ => rfl)) (pv 1)) (pg_sub (pv 0) pe_int set_list))
        (pss_one (ps_ret (pv 2))))) pss_nil)
      (pss_cons (ps_asg (pe_tup (pa_cons pe_int (pa_cons pe_int pa_nil))) (pg_tup rfl (pgs_cons (pg_name (i := 2) nd rfl (Or.inl rfl)) (pgs_cons (pg_name (i := 3) nd rfl (Or.inl rfl)) pgs_nil))))
      (pss_cons (ps_while PassesOwn.never (pt_cmpR op_lt (pv 3) (pv 1) (nomark _))
        (pss_cons (ps_asg (pe_op op_add (pe_ix ix_list (pv 0) pe_int (fun _ _ => rfl)) pe_int) (pg_sub (pv 0) pe_int set_list))
        (pss_cons (ps_set (i := 4) nd rfl (Or.inl rfl) (pe_ix ix_list (pe_lst (pa_cons pe_int (pa_cons pe_int (pa_cons pe_int (pa_cons pe_int (pa_cons pe_int (pa_cons pe_int (pa_cons pe_int pa_nil))))))))
            (pe_op op_mod (pe_callTy call_int1 (by rfl) T.b_int (by decide +kernel) (pa_cons (pe_ix ix_list (pv 0) pe_int (fun _ _ => rfl)) pa_nil)) pe_int) (fun _ _ => rfl)))
        (pss_cons (ps_set (i := 5) nd rfl (Or.inl rfl) (pe_op op_mod (pe_callTy call_int1 (by rfl) T.b_int (by decide +kernel) (pa_cons
            (pe_op op_pow (pe_op op_add (pe_op op_add (pe_ix ix_list (pv 0) pe_int (fun _ _ => rfl)) (pe_op op_mul pe_int (pe_ix ix_list (pv 0) pe_int (fun _ _ => rfl)))) pe_int) pe_int) pa_nil)) (pv 4)))
        (pss_cons (ps_set (i := 5) nd rfl (Or.inl rfl) (pe_op op_mod (pe_callTy call_int1 (by rfl) T.b_int (by decide +kernel) (pa_cons
            (pe_op op_mul (pe_op op_add (pv 5) (pe_ix ix_list (pv 0) pe_int (fun _ _ => rfl))) (pe_op op_add (pe_op op_fdiv (pv 5) pe_int) pe_int)) pa_nil)) (pv 4)))
        (pss_one (ps_par (i := 2) (j := 3) (by rfl) nd rfl rfl (by decide) rfl rfl (pa_cons (pe_op op_add (pe_op op_mul (pv 2) pe_int) (pe_op op_fdiv (pv 5) pe_int)) (pa_cons (pe_op op_mul (pv 3) pe_int) pa_nil)) (by rfl))))))))
      (pss_one (ps_ret (pe_op op_mod (pe_callTy call_int1 (by rfl) T.b_int (by decide +kernel) (pa_cons (pv 2) pa_nil)) (pv 1)))))), ?_⟩
    refine ⟨_, rfl, _, _, _, _, rfl, rfl, SqL.of ha, rfl, _, _, rfl, rfl, _, rfl, ?_⟩
    refine ite2 (fun c => ?_) (fun c => ?_)
    · refine ⟨_, rfl, _, _, _, _, rfl, rfl, SqL.of ha, rfl, .inl ⟨_, rfl, _, rfl, _, _, rfl, rfl, m0, ?_⟩⟩
      refine ⟨_, rfl, _, _, _, _, rfl, rfl, SqL.of ha, rfl, _, rfl, _, _, rfl, rfl, wide_div m0 m1 (by decide) (by decide), ?_⟩
      refine ⟨_, rfl, _, _, _, 0, rfl, rfl, ha, rfl, ?_⟩
      refine ⟨_, rfl, ?_⟩
      refine k _ _ (Int.emod_nonneg _ (by omega)) (Int.emod_lt_of_pos _ m0) ⟨_, _, _, upd_same, Int.ediv_nonneg x0 (by omega), y0, y1, z0, by omega⟩ Kp.upd
    · refine ⟨(by show 2 ≤ sizeLine; decide), fun t1 ht1 => ⟨t1, _, rfl, SqT.of upd_same, rfl, _, _, rfl, _, _, rfl, rfl, ?_⟩⟩
      have s1 : Same H (upd H t1 (.tup [.int 0, .int 1])) := Same.upd ht1
      -- the mixing loop: after q turns the reach is at least 2 ^ q
      refine ⟨fun d σ H2 => ∃ (q : Nat) (v4 v5 : Option V) (res reach : Int), d = 1101 - q ∧ σ = [some (.ref a), some (.int m), some (.int res), some (.int reach), v4, v5] ∧ q ≤ 1101 ∧ ((2 : Int) ^ q ≤ reach ∧ 1 ≤ reach) ∧ H2 a = some (.lst [.int x, .int y, .int (z + q)]) ∧ Kp a H H2,
        ⟨1101, 0, none, none, 0, 1, rfl, rfl, by omega, ⟨by decide, by decide⟩, by rw [s1 _ _ ha]; simp, Kp.of s1⟩, ?_⟩
      rintro d σ H2 ⟨q, v4, v5, res, reach, rfl, rfl, hq, ⟨hre, hr1⟩, ha2, kp2⟩
      refine ⟨_, rfl, _, rfl, _, _, rfl, rfl, _, rfl, ?_⟩
      refine ite2 (fun c2 => ?_) (fun c2 => ?_)
      · have c2' : reach < m := of_decide_eq_true c2
        have hq2 : q < 1100 := by
          by_cases hge : 1100 ≤ q
          · have h1 : (2 : Nat) ^ 1100 ≤ 2 ^ q := Nat.pow_le_pow_right (by decide) hge
            have h2 : ((2 ^ q : Nat) : Int) ≤ reach := by rw [Int.natCast_pow]; exact hre
            generalize 2 ^ q = w at h1 h2
            generalize 2 ^ 1100 = w2 at h1 m1
            omega
          · omega
        refine ⟨fun σ' H' => ∃ (v4 v5 : Option V) (res reach : Int), σ' = [some (.ref a), some (.int m), some (.int res), some (.int reach), v4, v5] ∧ ((2 : Int) ^ (q + 1) ≤ reach ∧ 1 ≤ reach) ∧ H' a = some (.lst [.int x, .int y, .int (z + (q + 1 : Nat))]) ∧ Kp a H H', ?_, ?_⟩
        · rintro σ' H' ⟨v4, v5, res, reach, rfl, h1, h2, h3⟩
          exact ⟨1101 - (q + 1), by omega, q + 1, v4, v5, res, reach, rfl, rfl, by omega, h1, h2, h3⟩
        generalize hzq : z + (q : Int) = zq at ha2
        have zb : 0 ≤ zq ∧ zq ≤ 902000 := by omega
        obtain ⟨zb0, zb1⟩ := zb
        refine ⟨_, rfl, _, _, _, _, rfl, rfl, SqL.of ha2, rfl, _, _, rfl, rfl, ?_⟩
        refine ⟨_, rfl, _, _, _, 2, rfl, rfl, ha2, rfl, ?_⟩
        have ha3 : ∀ b o, b ≠ a → (upd (upd H2 a (.lst [.int x, .int y, .int (zq + 1)])) b o) a = some (.lst [.int x, .int y, .int (zq + 1)]) := fun b o n => by rw [upd_ne n.symm, upd_same]
        refine ⟨(by show 7 ≤ sizeLine; decide), fun l hl => ?_⟩
        have hla : l ≠ a := fun e => by
          subst e
          have : (upd H2 l (.lst [.int x, .int y, .int (zq + 1)])) l = none := hl
          rw [upd_same] at this
          cases this
        have hA := ha3 l (.lst primes) hla
        refine ⟨_, rfl, _, _, _, _, rfl, rfl, SqL.of hA, rfl, .inl ⟨_, rfl, _, _, rfl, rfl, (by show (0 : Int) < 7; decide), ?_⟩⟩
        obtain ⟨p, hp, p0, p1⟩ := prime_at ((zq + 1) % 7) (Int.emod_nonneg _ (by decide)) (Int.emod_lt_of_pos _ (by decide))
        refine ⟨l, primes, _, _, rfl, rfl, SqL.of upd_same, hp, ?_⟩
        refine ⟨_, rfl, _, _, _, _, rfl, rfl, SqL.of hA, rfl, _, rfl, _, _, _, _, rfl, rfl, SqL.of hA, rfl, _, _, rfl, rfl, .inl (by decide), _, _, rfl, rfl, _, _, rfl, rfl, _, _, rfl, rfl, ⟨by decide, by decide, ?_⟩, .inl ⟨_, rfl, _, rfl, _, _, rfl, rfl, p0, ?_⟩⟩
        · omega
        have f0 : 0 ≤ (y + 7919 * (zq + 1) + 1) ^ (5 : Int).toNat % p := Int.emod_nonneg _ (by omega)
        have f1 : (y + 7919 * (zq + 1) + 1) ^ (5 : Int).toNat % p < p := Int.emod_lt_of_pos _ p0
        refine ⟨_, rfl, _, rfl, _, _, _, _, rfl, rfl, SqL.of hA, rfl, _, _, rfl, rfl, _, rfl, _, _, rfl, rfl, ⟨by decide, by decide⟩, _, _, rfl, rfl, _, _, rfl, rfl, .inl ?_, .inl ⟨_, rfl, _, rfl, _, _, rfl, rfl, p0, ?_⟩⟩
        · omega
        refine ⟨_, rfl, _, _, rfl, rfl, .inr (by decide), _, rfl, _, _, rfl, rfl, ⟨by decide, by decide⟩, _, _, rfl, rfl, _, rfl, _, _, rfl, rfl, .inr (by decide), _, _, rfl, ?_⟩
        refine ⟨_, _, _, _, rfl, ⟨?_, ?_⟩, ?_, kp2.trans (Kp.upd.trans (Kp.of (Same.upd hl)))⟩
        · have e2 : (2 : Int) ^ (q + 1) = 2 ^ q * 2 := Int.pow_succ 2 q
          rw [e2]
          generalize (2 : Int) ^ q = w at hre
          show w * 2 ≤ reach * 300000007
          omega
        · show 1 ≤ reach * 300000007
          omega
        · have e3 : zq + 1 = z + ((q + 1 : Nat) : Int) := by omega
          rw [← e3]
          exact hA
      · refine ⟨_, rfl, .inl ⟨_, rfl, _, rfl, _, _, rfl, rfl, m0, ?_⟩⟩
        exact k _ _ (Int.emod_nonneg _ (by omega)) (Int.emod_lt_of_pos _ m0) ⟨_, _, _, ha2, x0, y0, y1, by omega, by omega⟩ kp2
theorem sc_choice : FnScope ["_law_source", "_law_options"] ["_law_source", "_law_options"] (defScope st__law_choice) := ⟨rfl, rfl, rfl, by decide +kernel, rfl, by decide +kernel, by decide +kernel⟩
theorem ok_wchoice (T : LX K mg L) : Cal P w K mg base "_law_choice" 2 L.f__law_choice ["_law_source", "_law_options"] spOne := T.d__law_choice.cal fun fd F => by
  have G : Cal P w K mg base "_law_draw" 1 L.f__law_draw ["_law_source", "_law_bound"] spNext := ok_wdraw T
  refine F.ok sc_choice (fun vs H Q E h => ?_) (fun cdv A outer s H vs Q E hr h => ?_)
  · obtain ⟨a, l, xs, n, rfl, _⟩ := h
    rfl
  · obtain ⟨a, l, xs, n, rfl, hal, hl, x0, x1, hs, hn, k⟩ := h
    refine ⟨_, pss_one (ps_ret (pe_ix ix_list (pv 1) (pe_c G hr rfl (pa_cons (pv 0) (pa_cons (pe_callB call_len_seq (by rfl) T.b_len PySem.boot_len (pa_cons (pv 1) pa_nil)) pa_nil))) (fun _ _ => rfl))), ?_⟩
    refine ⟨_, rfl, _, rfl, _, rfl, l, xs, rfl, .inl (SqL.of hl), a, _, n, rfl, by omega, ?_, hs, hn, fun r H' r0 r1 hs' hk => ?_⟩
    · exact Nat.lt_of_le_of_lt (show ((xs.length : Int)).natAbs ≤ 100000 by omega) (by decide)
    · obtain ⟨v, hv, hm⟩ := atI_of (xs := xs) r0 r1
      exact ⟨l, xs, r, v, rfl, rfl, SqL.of (hk _ _ hal.symm hl), hv, k v H' hm hs' hk⟩
theorem sc_cellat : FnScope ["_law_script", "_law_place"] ["_law_script", "_law_place"] (defScope st__law_cell_at) := ⟨rfl, rfl, rfl, by decide +kernel, rfl, by decide +kernel, by decide +kernel⟩
theorem ok_wcellat (T : LX K mg L) : Cal P w K mg base "_law_cell_at" 1 L.f__law_cell_at ["_law_script", "_law_place"] (spCell K) := T.d__law_cell_at.cal fun fd F => by
  refine F.ok sc_cellat (fun vs H Q E h => ?_) (fun cdv A outer s H vs Q E hr h => ?_)
  · obtain ⟨a, ns, z, rfl, _⟩ := h
    rfl
  · obtain ⟨a, ns, i, rfl, hS, i0, k⟩ := h
    refine ⟨_, pss_cons (ps_if (pt_cmpR op_lt (pv 1) (pe_callB call_len_seq (by rfl) T.b_len PySem.boot_len (pa_cons (pv 0) pa_nil)) (nomark _)) (pss_one (ps_ret (pe_ix ix_list (pv 0) (pv 1) (fun _ _ => rfl)))) pss_nil) (pss_one (ps_ret pe_int)), ?_⟩
    refine ⟨_, rfl, _, rfl, a, _, rfl, .inl hS, _, _, rfl, rfl, _, rfl, ?_⟩
    refine ite2 (fun c => ?_) (fun c => ?_)
    · have c' : i < ((ns.map V.int).length : Nat) := of_decide_eq_true c
      obtain ⟨v, hv, hm⟩ := atI_of (xs := ns.map V.int) i0 c'
      obtain ⟨z, _, rfl⟩ := List.mem_map.mp hm
      exact ⟨_, rfl, _, rfl, a, _, _, _, rfl, rfl, hS, hv, k z⟩
    · exact k 0
end
theorem draw_gen {P : Program} {w : World} {mg : Str → Option Value} {t : TA} {σ : L2.St} {H : Hp} {Q : VK} {a : Addr} {n : Nat} {ns : List Int} {hi : Int} {j : Nat} (σ0 : σ[j]? = some (some (.ref a))) (hs : Src H a n) (hn : n ≤ 898000) (ht : ∀ R : List V → Hp → Prop, R (ns.map V.int) H → t σ H R)
    (h0 : 0 < ns.length) (h1 : ns.length ≤ 1000) (hb : ∀ m ∈ ns, 0 < m ∧ m ≤ hi) (hh : hi.natAbs < 2 ^ 1100) (k : ∀ (r : Int) H', 0 ≤ r → r < hi → (∃ m ∈ ns, r < m) → Src H' a (n + 2202) → Kp a H H' → Q (.int r) H') :
    tCall spNext [] E0 (tCons (tVar j) (tCons (tCall spOne [] E0 (tCons (tVar j) (tCons (tLst t) tNil))) tNil)) σ H Q := by
  obtain ⟨ys, hy⟩ := hs.has
  refine ⟨_, σ0, _, σ0, ht _ ⟨(by rw [List.length_map]; exact Nat.le_trans h1 (by decide)), fun l hl => ?_⟩⟩
  have hal : a ≠ l := ne_of_none hy hl
  refine ⟨a, l, ns.map V.int, n, rfl, hal, upd_same, (by rw [List.length_map]; exact h0), (by rw [List.length_map]; omega), hs.same (Same.upd hl), by omega, fun v H1 hv hs1 k1 => ?_⟩
  obtain ⟨m, hm, rfl⟩ := List.mem_map.mp hv
  obtain ⟨m0, m1⟩ := hb m hm
  refine ⟨a, m, n + 1101, rfl, m0, Nat.lt_of_le_of_lt (show m.natAbs ≤ hi.natAbs by omega) hh, hs1, by omega, fun r H2 r0 r1 hs2 k2 => ?_⟩
  exact k r H2 r0 (by omega) ⟨m, hm, r1⟩ hs2 ((Kp.of (Same.upd hl)).trans (k1.trans k2))
theorem choice_gen {P : Program} {w : World} {mg : Str → Option Value} {t : TA} {σ : L2.St} {H : Hp} {Q : VK} {a : Addr} {n : Nat} {ns : List Int} {j : Nat} (σ0 : σ[j]? = some (some (.ref a))) (hs : Src H a n) (hn : n ≤ 898000) (ht : ∀ R : List V → Hp → Prop, R (ns.map V.int) H → t σ H R)
    (h0 : 0 < ns.length) (h1 : ns.length ≤ 1000) (k : ∀ (m : Int) H', m ∈ ns → Src H' a (n + 1101) → Kp a H H' → Q (.int m) H') :
    tCall spOne [] E0 (tCons (tVar j) (tCons (tLst t) tNil)) σ H Q := by
  obtain ⟨ys, hy⟩ := hs.has
  refine ⟨_, σ0, ht _ ⟨(by rw [List.length_map]; exact Nat.le_trans h1 (by decide)), fun l hl => ?_⟩⟩
  have hal : a ≠ l := ne_of_none hy hl
  refine ⟨a, l, ns.map V.int, n, rfl, hal, upd_same, (by rw [List.length_map]; exact h0), (by rw [List.length_map]; omega), hs.same (Same.upd hl), by omega, fun v H1 hv hs1 k1 => ?_⟩
  obtain ⟨m, hm, rfl⟩ := List.mem_map.mp hv
  exact k m H1 hm hs1 ((Kp.of (Same.upd hl)).trans k1)

/-! ### sources kept -/
theorem src_kp {H H' : Hp} {s l : Addr} {n : Nat} (k : Kp l H H') (h : s ≠ l) (S : Src H s n) : Src H' s n := by
  obtain ⟨x, y, z, e, r⟩ := S
  exact ⟨x, y, z, k _ _ h e, r⟩
/-! ### rows drawn, with bounds of the waits and successes -/
def OkF (f : Int) (t : Tri) : Prop := OkT t ∧ t.2.1 ≤ f ∧ t.2.2 ≤ 4
def spSpecs : Sp := fun vs H Q _ => ∃ (s : Addr) (n : Nat) (m f : Int), vs = [.ref s, .int m, .int f] ∧ Src H s n ∧ n ≤ 500000 ∧ 0 ≤ m ∧ m ≤ 12 ∧ 4 ≤ f ∧ f ≤ 1000000 ∧
  ∀ l xs ts H', H' l = some (.lst xs) → Brs H' xs ts → (∀ t ∈ ts, OkF f t) → (ts.length : Int) ≤ m → Src H' s (n + 60000) → Kp s H H' → H l = none → Q (.ref l) H'
section
variable {P : Program} {w : World} {K : PySem.W.Frag} {mg : Str → Option Value} {base : Heap} {L : LA}
abbrev N_wspecs : List Str := ["_law_source", "_law_most", "_law_far", "_law_found", "_law_repeat", "_law_wait"]
theorem sc_wspecs : FnScope N_wspecs ["_law_source", "_law_most", "_law_far"] (defScope st__law_specs) := ⟨rfl, rfl, rfl, by decide +kernel, rfl, by decide +kernel, by decide +kernel⟩
theorem fn_wspecs (T : LX K mg L) {fd : FuncData} (F : Fun K "_law_specs" "_law_specs" st__law_specs L.f__law_specs fd) : FnOk P w K mg base CX0 3 L.f__law_specs fd ["_law_source", "_law_most", "_law_far"] (spSpecs) := by
  have G_wdraw := ok_wdraw (P := P) (w := w) (base := base) T
  have G_wchoice := ok_wchoice (P := P) (w := w) (base := base) T
  have nd := sc_wspecs.nd
  refine F.ok sc_wspecs (fun vs H Q E h => ?_) (fun cdv A outer S H vs Q E hr h => ?_)
  · obtain ⟨s, n, m, f, rfl, _⟩ := h
    rfl
  · obtain ⟨s, n, m, f, rfl, src, hn, m0, m1, f0, f1, k⟩ := h
    refine ⟨_, (pss_cons (ps_set (i := 3) nd rfl (Or.inl rfl) (pe_lst pa_nil))
       (pss_cons (ps_for PassesOwn.never rfl (pi_range1 rfl T.b_range (pa_cons (pe_c G_wdraw (hr.mono (by decide)) rfl (pa_cons (pv 0) (pa_cons (pe_op op_add (pv 1) pe_int) pa_nil))) pa_nil)) (pg_name (i := 4) nd rfl (Or.inl rfl)) (pss_cons (ps_set (i := 5) nd rfl (Or.inl rfl) (pe_op op_add pe_int (pe_c G_wdraw (hr.mono (by decide)) rfl (pa_cons (pv 0) (pa_cons (pe_c G_wchoice (hr.mono (by decide)) rfl (pa_cons (pv 0) (pa_cons (pe_lst (pa_cons pe_int (pa_cons (pv 2) pa_nil))) pa_nil))) pa_nil)))))
       (pss_one (ps_expr (pe_bm PySem.F.plainAttrs_list PySem.F.slot_list_append PySem.F.type_list_append mt_append (pv 3) (pa_cons (pe_tup (pa_cons (pe_op op_add pe_int (pe_c G_wdraw (hr.mono (by decide)) rfl (pa_cons (pv 0) (pa_cons pe_int pa_nil)))) (pa_cons (pv 5) (pa_cons (pe_op op_add pe_int (pe_c G_wdraw (hr.mono (by decide)) rfl (pa_cons (pv 0) (pa_cons pe_int pa_nil)))) pa_nil)))) pa_nil))))))
       (pss_one (ps_ret (pv 3))))), ?_⟩
    obtain ⟨ys, hys⟩ := src.has
    refine ⟨(by show 0 ≤ sizeLine; decide), fun l1 hl1 => ?_⟩
    have s1 := Same.upd (o := .lst []) hl1
    have nls : s ≠ l1 := ne_of_none hys hl1
    refine ⟨_, rfl, _, rfl, _, _, rfl, rfl, s, m + 1, n, rfl, by omega, Nat.lt_of_le_of_lt (show (m + 1).natAbs ≤ 13 by omega) (by decide +kernel), src.same s1, by omega, fun q H1 q0 q1 src1 k1 => ?_⟩
    refine ⟨q, rfl, by omega, by omega, ?_⟩
    refine for_range (lo := 0) (n := q.toNat) (fun j σ H2 => ∃ v4 v5 : Option V, ∃ zs ts, σ = [some (.ref s), some (.int m), some (.int f), some (.ref l1), v4, v5] ∧ H2 l1 = some (.lst zs) ∧ Brs H2 zs ts ∧ (∀ t ∈ ts, OkF f t) ∧ zs.length ≤ j ∧ Kp s H H2 ∧ Src H2 s (n + 1101 + 4404 * j))
      ⟨none, none, [], [], rfl, k1 _ _ nls.symm upd_same, .nil, fun t ht => (nomatch ht), Nat.le_refl _, (Kp.of s1).trans k1, src1⟩ ?_ ?_
    · rintro j σ H2 hj ⟨v4, v5, zs, ts, rfl, h2, hb, ok, zl, k2, src2⟩
      refine draw_gen (P := P) (w := w) (mg := mg) (a := s) (n := n + 1101 + 4404 * j) (ns := [4, f]) (hi := f) rfl src2 (by omega) (fun R h => ⟨_, rfl, h⟩) (by simp) (by simp) (fun m hm => ?_) (Nat.lt_of_le_of_lt (show f.natAbs ≤ 1000000 by omega) (by decide +kernel)) fun wt H3 wt0 wt1 _ src3 k3 => ⟨_, _, rfl, rfl, ?_⟩
      · simp only [List.mem_cons, List.mem_nil_iff, or_false] at hm
        rcases hm with rfl | rfl <;> exact ⟨by omega, by omega⟩
      have h23 := k3 _ _ nls.symm h2
      refine ⟨_, rfl, .inl ⟨rfl, _, SqL.of h23⟩, _, rfl, s, 4, _, rfl, by decide, by decide, src3, by omega, fun fa H4 fa0 fa1 src4 k4 => ⟨_, _, rfl, rfl, _, rfl, _, rfl, s, 4, _, rfl, by decide, by decide, src4, by omega, fun su H5 su0 su1 src5 k5 => ⟨_, _, rfl, rfl, (by show 3 ≤ sizeLine; decide), fun tp htp => ?_⟩⟩⟩
      have h25 := k5 _ _ nls.symm (k4 _ _ nls.symm h23)
      have s6 := Same.upd (o := .tup [.int (1 + fa), .int (1 + wt), .int (1 + su)]) htp
      have h26 := s6 _ _ h25
      refine ⟨l1, _, _, rfl, rfl, h26, small1 (by omega), ?_⟩
      have n7 := NL.upd (o := .lst (zs ++ [.ref tp])) h26
      obtain ⟨y2, hy2⟩ := src2.has
      obtain ⟨y3, hy3⟩ := src3.has
      obtain ⟨y4, hy4⟩ := src4.has
      have nl25 : NL H2 H5 := ((Kp.nl k3 hy2).trans (Kp.nl k4 hy3)).trans (Kp.nl k5 hy4)
      refine ⟨_, _, zs ++ [.ref tp], ts ++ [(1 + fa, 1 + wt, 1 + su)], rfl, upd_same, ?_, fun t ht => ?_, by rw [List.length_append]; show zs.length + 1 ≤ j + 1; omega, fun u w nu e => ?_, ?_⟩
      · exact Brs.app (((hb.nl nl25).nl (NL.of s6)).nl n7) (.cons ⟨tp, rfl, n7 _ _ upd_same fun _ z => nomatch z⟩ .nil)
      · rcases List.mem_append.mp ht with ht | ht
        · exact ok t ht
        · rw [List.mem_singleton.mp ht]
          refine ⟨?_, show 1 + wt ≤ f by omega, show 1 + su ≤ 4 by omega⟩
          show 1 ≤ 1 + fa ∧ 1 + fa ≤ 1000000000000 ∧ 1 ≤ 1 + wt ∧ 1 + wt ≤ 1000000000000000000000000000000 ∧ 1 ≤ 1 + su ∧ 1 + su ≤ 1000000000000
          exact ⟨by omega, by omega, by omega, by omega, by omega, by omega⟩
      · rw [upd_ne (ne_of_none e hl1)]
        exact s6 _ _ (k5 _ _ nu (k4 _ _ nu (k3 _ _ nu (k2 _ _ nu e))))
      · refine src_kp ?_ nls (src5.same s6 |>.mono (by omega))
        exact Kp.upd
    · rintro σ H2 ⟨v4, v5, zs, ts, rfl, h2, hb, ok, zl, k2, src2⟩
      have bl := Brs.len hb
      exact ⟨_, rfl, k l1 zs ts H2 h2 hb ok (by omega) (src2.mono (by omega)) k2 hl1⟩
theorem ok_wspecs (T : LX K mg L) : Cal P w K mg base "_law_specs" 3 L.f__law_specs ["_law_source", "_law_most", "_law_far"] (spSpecs) := T.d__law_specs.cal fun fd F => fn_wspecs T F
end
/-! ### words drawn -/
def spWords : Sp := fun vs H Q _ => ∃ (s : Addr) (n : Nat) (m : Int), vs = [.ref s, .int m] ∧ Src H s n ∧ n ≤ 600000 ∧ 0 ≤ m ∧ m ≤ 100 ∧
  ∀ (l : Addr) (ws : List Bool) (H' : Hp), H' l = some (.lst (ws.map wV)) → (ws.length : Int) ≤ 5 * m → Src H' s (n + 1101 + 2202 * m.toNat) → Kp s H H' → H l = none → Q (.ref l) H'
section
variable {P : Program} {w : World} {K : PySem.W.Frag} {mg : Str → Option Value} {base : Heap} {L : LA}
abbrev N_wwords : List Str := ["_law_source", "_law_most", "_law_found", "_law_repeat"]
theorem sc_wwords : FnScope N_wwords ["_law_source", "_law_most"] (defScope st__law_words) := ⟨rfl, rfl, rfl, by decide +kernel, rfl, by decide +kernel, by decide +kernel⟩
theorem fn_wwords (T : LX K mg L) {fd : FuncData} (F : Fun K "_law_words" "_law_words" st__law_words L.f__law_words fd) : FnOk P w K mg base CX0 4 L.f__law_words fd ["_law_source", "_law_most"] (spWords) := by
  have G_wdraw := ok_wdraw (P := P) (w := w) (base := base) T
  have G_wchoice := ok_wchoice (P := P) (w := w) (base := base) T
  have nd := sc_wwords.nd
  refine F.ok sc_wwords (fun vs H Q E h => ?_) (fun cdv A outer S H vs Q E hr h => ?_)
  · obtain ⟨s, n, m, rfl, _⟩ := h
    rfl
  · obtain ⟨s, n, m, rfl, src, hn, m0, m1, k⟩ := h
    refine ⟨_, (pss_cons (ps_set (i := 2) nd rfl (Or.inl rfl) (pe_lst pa_nil))
       (pss_cons (ps_for PassesOwn.never rfl (pi_range1 rfl T.b_range (pa_cons (pe_c G_wdraw (hr.mono (by decide)) rfl (pa_cons (pv 0) (pa_cons (pe_op op_add (pv 1) pe_int) pa_nil))) pa_nil)) (pg_name (i := 3) nd rfl (Or.inl rfl)) (pss_one (ps_set (i := 2) nd rfl (Or.inl rfl) (pe_op op_cat (pv 2) (pe_op op_rep (pe_lst (pa_cons (pe_c G_wchoice (hr.mono (by decide)) rfl (pa_cons (pv 0) (pa_cons (pe_lst (pa_cons pe_str (pa_cons pe_str (pa_cons pe_str pa_nil)))) pa_nil))) pa_nil)) (pe_op op_add pe_int (pe_c G_wdraw (hr.mono (by decide)) rfl (pa_cons (pv 0) (pa_cons pe_int pa_nil)))))))))
       (pss_one (ps_ret (pv 2))))), ?_⟩
    obtain ⟨ys, hys⟩ := src.has
    have one : ∀ {lo : Addr} {Hx : Hp} {m : Nat}, Src Hx s m → Hx lo = none → s ≠ lo := fun S e => by
      obtain ⟨y, hy⟩ := S.has
      exact ne_of_none hy e
    refine ⟨(by show 0 ≤ sizeLine; decide), fun l0 nl0 => ?_⟩
    have s1 := Same.upd (o := .lst []) nl0
    refine ⟨_, rfl, _, rfl, _, _, rfl, rfl, s, m + 1, n, rfl, by omega, Nat.lt_of_le_of_lt (show (m + 1).natAbs ≤ 101 by omega) (by decide +kernel), src.same s1, by omega, fun q H1 q0 q1 src1 k1 => ⟨q, rfl, by omega, by omega, ?_⟩⟩
    have nsl0 := one src nl0
    refine for_range (lo := 0) (n := q.toNat) (fun j σ Hx => ∃ (v3 : Option V) (l : Addr) (ws : List Bool), σ = [some (.ref s), some (.int m), some (.ref l), v3] ∧ Hx l = some (.lst (ws.map wV)) ∧ ws.length ≤ 5 * j ∧ H l = none ∧ s ≠ l ∧ Kp s H Hx ∧ Src Hx s (n + 1101 + 2202 * j))
      ⟨none, l0, [], rfl, k1 _ _ nsl0.symm upd_same, Nat.zero_le _, nl0, nsl0, (Kp.of s1).trans k1, src1⟩ ?_ ?_
    · rintro j σ Hx hj ⟨v3, l, ws, rfl, hl, wl, nl, nsl, kx, srcx⟩
      refine ⟨_, rfl, _, rfl, (by show 3 ≤ sizeLine; decide), fun lo nlo => ?_⟩
      have s2 := Same.upd (o := .lst [.str "up", .str "down", .str "down"]) nlo
      refine ⟨s, lo, _, _, rfl, one srcx nlo, upd_same, Nat.succ_pos _, (by show 3 ≤ 100000; decide), srcx.same s2, by omega, fun v H3 hv src3 k3 => ⟨(by show 1 ≤ sizeLine; decide), fun l1 nl1 => ?_⟩⟩
      obtain ⟨up, rfl⟩ : ∃ up, v = wV up := by
        simp only [List.mem_cons, List.mem_nil_iff, or_false] at hv
        rcases hv with rfl | rfl | rfl
        · exact ⟨true, rfl⟩
        · exact ⟨false, rfl⟩
        · exact ⟨false, rfl⟩
      have s4 := Same.upd (o := .lst [wV up]) nl1
      refine ⟨_, rfl, s, 5, _, rfl, by decide, by decide +kernel, src3.same s4, by omega, fun c H5 c0 c1 src5 k5 => ⟨_, _, rfl, rfl, ?_⟩⟩
      have ns1 := one src3 nl1
      have h15 := k5 _ _ ns1.symm (upd_same (H := H3) (a := l1) (o := .lst [wV up]))
      refine ⟨l1, _, [wV up], rfl, rfl, h15, by omega, by omega, small2 (by show 1 * (1 + c).toNat ≤ 100000; omega), fun r nr => ?_⟩
      have s6 := Same.upd (o := .lst (List.replicate (1 + c).toNat [wV up]).flatten) nr
      have k36 := (((Kp.of s2).trans k3).trans (Kp.of s4)).trans k5
      have hl5 := k36 _ _ nsl.symm hl
      have er : (List.replicate (1 + c).toNat [wV up]).flatten = (List.replicate (1 + c).toNat up).map wV := by
        rw [List.flatten_replicate_singleton, List.map_replicate]
      have hr6 : (upd H5 r (.lst (List.replicate (1 + c).toNat [wV up]).flatten)) r = some (.lst ((List.replicate (1 + c).toNat up).map wV)) := by rw [upd_same, er]
      refine ⟨l, r, _, _, rfl, rfl, s6 _ _ hl5, hr6, small2 (by rw [List.length_map, List.length_map, List.length_replicate]; omega), fun l7 nl7 => ?_⟩
      have s7 := Same.upd (o := .lst (ws.map wV ++ (List.replicate (1 + c).toNat up).map wV)) nl7
      have src6 := src5.same s6
      have k7 := kx.trans ((k36.trans (Kp.of s6)).trans (Kp.of s7))
      have ns7 := one src6 nl7
      refine ⟨_, l7, ws ++ List.replicate (1 + c).toNat up, rfl, by rw [upd_same, List.map_append], by rw [List.length_append, List.length_replicate]; omega, ?_, ns7, k7, (src6.same s7).mono (by omega)⟩
      cases e : H l7 with
      | none => rfl
      | some o =>
        rw [(kx.trans (k36.trans (Kp.of s6))) _ _ ns7.symm e] at nl7
        cases nl7
    · rintro σ Hx ⟨v3, l, ws, rfl, hl, wl, nl, nsl, kx, srcx⟩
      exact ⟨_, rfl, k l ws Hx hl (by omega) (srcx.mono (by omega)) kx nl⟩
theorem ok_wwords (T : LX K mg L) : Cal P w K mg base "_law_words" 4 L.f__law_words ["_law_source", "_law_most"] (spWords) := T.d__law_words.cal fun fd F => fn_wwords T F
end
/-! ### requests taken back -/
theorem cut_to {xs : List V} {k : Nat} (h : k ≤ xs.length) : cutV xs none (some (k : Int)) = xs.take k := by
  have h1 : HT.sIx xs.length 0 none = 0 := rfl
  have h2 : HT.sIx xs.length xs.length (some (k : Int)) = k := by
    rw [HT.sIx_nat]
    exact Nat.min_eq_left h
  unfold cutV
  rw [h1, h2, List.drop_zero, Nat.sub_zero]
theorem q1' : ¬ (("words" : Str) = "row") := by decide +kernel
theorem q2' : ¬ (("history" : Str) = "row") := by decide +kernel
theorem q3' : ¬ (("history" : Str) = "words") := by decide +kernel
theorem plF_set_w (r aw ah w2 : Addr) : putF "words" (.ref w2) (plF r aw ah) = plF r w2 ah := by
  unfold plF
  simp [putF, q1, q2, q3, q1', q2', q3']
theorem plF_set_h (r aw ah h2 : Addr) : putF "history" (.ref h2) (plF r aw ah) = plF r aw h2 := by
  unfold plF
  simp [putF, q1, q2, q3, q1', q2', q3']
theorem plF_len (r aw ah : Addr) : (plF r aw ah).length = 3 := by
  unfold plF
  simp [putF, q1, q2, q3, q1', q2', q3']
theorem Sts.tp {H H' : Hp} {xs : List V} {ss : List StD} (h : Sts H xs ss) (k : ∀ b us, H b = some (.tup us) → H' b = some (.tup us)) : Sts H' xs ss := L2.Paired.mapP h fun _ _ ⟨a, e, z⟩ => ⟨a, e, k _ _ z⟩
theorem plF_row {r aw ah T : Addr} {st ph : Int} : plF r aw ah ≠ rowF T st ph := fun e => by
  have a := plF_w r aw ah
  rw [e, rowF_no _ _ _ (by decide +kernel) (by decide +kernel) (by decide +kernel)] at a
  cases a
def spPUndo (CR C : Addr) : Sp := fun vs H Q _ => ∃ p av ts st ph ws, ∃ c : Nat, vs = [.ref p, .int c] ∧ PlV CR C av H p ts st ph ws ∧ c ≤ ws.length ∧ ws.length ≤ 10000 ∧ (∀ b ∈ av, H b ≠ none) ∧ ∀ H', PlV CR C av H' p ts st ph (ws.take (ws.length - c)) → Kp p H H' → Q .non H'
def spPEq (CR C : Addr) : Sp := fun vs H Q _ => ∃ p q av bv ts st ph ws vs', vs = [.ref p, .ref q] ∧ PlV CR C av H p ts st ph ws ∧ PlV CR C bv H q ts st ph vs' ∧ Q (.bl (decide (ws = vs'))) H
section
variable {P : Program} {w : World} {K : PySem.W.Frag} {mg : Str → Option Value} {base : Heap} {L : LA}
abbrev N_Playingundo : List Str := ["self", "count", "left"]
theorem sc_Playingundo : FnScope N_Playingundo ["self", "count"] (defScope st_Playing_undo) := ⟨rfl, rfl, rfl, by decide +kernel, rfl, by decide +kernel, by decide +kernel⟩
theorem fn_Playingundo (T : LX K mg L) {fd : FuncData} (F : Fun K "undo" "Playing.undo" st_Playing_undo L.m_Playing_undo fd) : FnOk P w K mg base CX0 3 L.m_Playing_undo fd ["self", "count"] (spPUndo L.c_Row L.c_Playing) := by
  have G_iswithin := ok_iswithin (P := P) (w := w) (base := base) T
  have nd := sc_Playingundo.nd
  refine F.ok sc_Playingundo (fun vs H Q E h => ?_) (fun cdv A outer S H vs Q E hr h => ?_)
  · obtain ⟨p, av, ts, st, ph, ws, c, rfl, _⟩ := h
    rfl
  · obtain ⟨p, av, ts, st, ph, ws, c, rfl, ⟨r, B, aw, ah, xs, ls, Y, n⟩, cl, wl, na, k⟩ := h
    refine ⟨_, (pss_cons (ps_if (pt_not (pt_val (pe_c G_iswithin (hr.mono (by decide)) rfl (pa_cons (pv 1) (pa_cons pe_int (pa_cons (pe_callB call_len_seq (by rfl) T.b_len PySem.boot_len (pa_cons (pe_fld (pv 0) rfl) pa_nil)) pa_nil)))))) (pss_one (ps_never)) pss_nil)
       (pss_cons (ps_set (i := 2) nd rfl (Or.inl rfl) (pe_op op_sub (pe_callB call_len_seq (by rfl) T.b_len PySem.boot_len (pa_cons (pe_fld (pv 0) rfl) pa_nil)) (pv 1)))
       (pss_cons (ps_fld (pv 0) (pe_slice (r := rSlL K) sl_list (pe_fld (pv 0) rfl) po_none (po_some (pv 2))) rfl)
       (pss_one (ps_fld (pv 0) (pe_slice (r := rSlL K) sl_list (pe_fld (pv 0) rfl) po_none (po_some (pe_op op_add (pv 2) pe_int))) rfl))))), ?_⟩
    obtain ⟨dx, hp⟩ := Y.ob
    obtain ⟨m, hm⟩ : ∃ m : Nat, m = ws.length - c := ⟨_, rfl⟩
    have lln := Y.ln
    refine ⟨_, rfl, _, rfl, p, L.c_Playing, dx, _, _, rfl, hp, T.cf_Playing.cl, T.nf_Playing_words, plF_w _ _ _, aw, _, rfl, .inl (SqL.of Y.hw), _, _, _, _, rfl, .int _, _, rfl, ?_⟩
    rw [List.length_map]
    show if (!(decide ((0 : Int) ≤ (c : Int)) && decide ((c : Int) ≤ (ws.length : Int)))) = true then _ else _
    rw [k6_pos (by omega) (by omega)]
    refine iteF ⟨_, rfl, p, L.c_Playing, dx, _, _, rfl, hp, T.cf_Playing.cl, T.nf_Playing_words, plF_w _ _ _, aw, _, rfl, .inl (SqL.of Y.hw), _, rfl, _, _, rfl, rfl, ?_⟩
    rw [List.length_map]
    show gName 2 (.int ((ws.length : Int) - (c : Int))) _ _ _
    rw [show (ws.length : Int) - (c : Int) = (m : Int) by omega]
    refine ⟨_, rfl, p, L.c_Playing, dx, _, _, rfl, hp, T.cf_Playing.cl, T.nf_Playing_words, plF_w _ _ _, _, rfl, (m : Int), rfl, aw, _, rfl, SqL.of Y.hw, fun l1 hl1 => ?_⟩
    rw [cut_to (by rw [List.length_map]; omega), ← List.map_take]
    have s1 := Same.upd (o := .lst ((ws.take m).map wV)) hl1
    obtain ⟨H1, hH1⟩ : ∃ Hx : Hp, Hx = upd H l1 (.lst ((ws.take m).map wV)) := ⟨_, rfl⟩
    rw [← hH1] at s1
    rw [← hH1]
    have hl11 : H1 l1 = some (.lst ((ws.take m).map wV)) := by rw [hH1]; exact upd_same
    refine ⟨_, rfl, p, L.c_Playing, dx, _, rfl, s1 _ _ hp, T.cf_Playing.cl, T.nf_Playing_words, (by rw [plF_len]; decide), ?_⟩
    rw [plF_set_w]
    obtain ⟨H2, hH2⟩ : ∃ Hx : Hp, Hx = upd H1 p (.ins L.c_Playing dx (plF r l1 ah)) := ⟨_, rfl⟩
    rw [← hH2]
    have hp2 : H2 p = some (.ins L.c_Playing dx (plF r l1 ah)) := by rw [hH2]; exact upd_same
    have k2 : Kp p H1 H2 := by rw [hH2]; exact Kp.upd
    have npl : ∀ b xs, H b = some (.lst xs) → b ≠ p := fun b xs e q => by rw [q, hp] at e; cases e
    have hh2 : H2 ah = some (.lst (ls.map V.ref)) := k2 _ _ (npl _ _ Y.hh) (s1 _ _ Y.hh)
    refine ⟨_, rfl, p, L.c_Playing, dx, _, _, rfl, hp2, T.cf_Playing.cl, T.nf_Playing_history, plF_h _ _ _, _, rfl, _, _, rfl, rfl, _, rfl, ah, _, rfl, SqL.of hh2, fun l2 hl2 => ?_⟩
    have ec : cutV (ls.map V.ref) none (some ((m : Int) + 1)) = (ls.take (m + 1)).map V.ref := by
      rw [show (m : Int) + 1 = ((m + 1 : Nat) : Int) by omega, cut_to (by rw [List.length_map]; omega), List.map_take]
    have s3 := Same.upd (o := .lst ((ls.take (m + 1)).map V.ref)) hl2
    obtain ⟨H3, hH3⟩ : ∃ Hx : Hp, Hx = upd H2 l2 (.lst ((ls.take (m + 1)).map V.ref)) := ⟨_, rfl⟩
    have eH : upd H2 l2 (.lst (cutV (ls.map V.ref) none (some ((m : Int) + 1)))) = H3 := by rw [ec, hH3]
    have hl23 : H3 l2 = some (.lst ((ls.take (m + 1)).map V.ref)) := by rw [hH3]; exact upd_same
    rw [← hH3] at s3
    have hp3 := s3 _ _ hp2
    refine ⟨_, rfl, p, L.c_Playing, dx, plF r l1 ah, rfl, (by rw [← hp3, ← eH]), T.cf_Playing.cl, T.nf_Playing_history, (by rw [plF_len]; decide), ?_⟩
    have e4 : ∀ Hx : Hp, Hx = H3 → upd Hx p (.ins L.c_Playing dx (putF "history" (.ref l2) (plF r l1 ah))) = upd H3 p (.ins L.c_Playing dx (plF r l1 l2)) := fun Hx e => by rw [e, plF_set_h]
    show Q .non (upd (upd H2 l2 (.lst (cutV (ls.map V.ref) none (some ((m : Int) + 1))))) p (.ins L.c_Playing dx (putF "history" (.ref l2) (plF r l1 ah))))
    rw [e4 _ eH]
    obtain ⟨H4, hH4⟩ : ∃ Hx : Hp, Hx = upd H3 p (.ins L.c_Playing dx (plF r l1 l2)) := ⟨_, rfl⟩
    rw [← hH4]
    have k4 : Kp p H3 H4 := by rw [hH4]; exact Kp.upd
    have kA : Kp p H H4 := (((Kp.of s1).trans k2).trans (Kp.of s3)).trans k4
    have tpk : ∀ b us, H b = some (.tup us) → H4 b = some (.tup us) := fun b us e => kA _ _ (fun q => by rw [q, hp] at e; cases e) e
    have l1p : l1 ≠ p := fun q => by rw [q, hp] at hl1; cases hl1
    have hl12 := k2 _ _ l1p hl11
    have l12 : l1 ≠ l2 := ne_of_none hl12 hl2
    have l2p : l2 ≠ p := fun q => by rw [q, hp2] at hl2; cases hl2
    have old : ∀ b, H b ≠ none → b ≠ l1 ∧ b ≠ l2 := fun b hb => by
      refine ⟨fun q => hb (by rw [q]; exact hl1), fun q => ?_⟩
      rw [← q] at hl2
      cases e : H b with
      | none => exact hb e
      | some o =>
        by_cases c : b = p
        · rw [c, hp2] at hl2; cases hl2
        · rw [k2 _ _ c (s1 _ _ e)] at hl2
          cases hl2
    have lsn : ∀ l ∈ ls, H l ≠ none := fun l hl => by
      obtain ⟨j, hj⟩ := List.mem_iff_getElem?.mp hl
      obtain ⟨ys, h1, _⟩ := Y.hs j l hj
      rw [h1]
      exact fun z => nomatch z
    have rp : r ≠ p := fun q => by
      obtain ⟨dr, hr⟩ := Y.row.ob
      rw [q, hp] at hr
      have := HO.ins.inj (Option.some.inj hr)
      exact plF_row this.2.2
    refine k H4 ⟨r, B, l1, l2, xs, ls.take (m + 1), ⟨⟨dx, by rw [hH4]; exact upd_same⟩, Y.row.kpn kA rp ⟨_, _, _, hp⟩, ?_, k4 _ _ l2p hl23, ?_, fun j l hj => ?_, l12, fun q => ?_, fun q => ?_⟩, fun b hb => ?_⟩ kA
    · rw [← hm]
      exact k4 _ _ l1p (s3 _ _ hl12)
    · rw [List.length_take, List.length_take]
      omega
    · have jm : j < m + 1 := by
        have := (List.getElem?_eq_some_iff.mp hj).1
        rw [List.length_take] at this
        omega
      rw [List.getElem?_take_of_lt jm] at hj
      obtain ⟨ys, h1, h2⟩ := Y.hs j l hj
      refine ⟨ys, kA _ _ (npl _ _ h1) h1, ?_⟩
      rw [List.take_take, ← hm, Nat.min_eq_left (by omega)]
      exact h2.tp tpk
    · exact (old _ (lsn _ (List.mem_of_mem_take q))).1 rfl
    · exact (old _ (lsn _ (List.mem_of_mem_take q))).2 rfl
    · have o := old b (na b hb)
      exact ⟨o.1, o.2, fun q => (n b hb).2.2 (List.mem_of_mem_take q)⟩
theorem ok_Playingundo (T : LX K mg L) : Met P w K mg base L.c_Playing "undo" 3 L.m_Playing_undo ["self", "count"] (spPUndo L.c_Row L.c_Playing) := T.mm_Playing_undo.met fun fd F => fn_Playingundo T F
end
/-! ### what no change of an older list can touch (for chains without V7) -/
/-- what is no part of H0, and what is no list, is kept -/
def KO (H0 H H' : Hp) : Prop := ∀ b o, H b = some o → (H0 b = none ∨ ∀ xs, o ≠ .lst xs) → H' b = some o
theorem KO.same {H0 H H' : Hp} (s : Same H H') : KO H0 H H' := fun b o e _ => s b o e
theorem KO.kp {H0 H H' : Hp} {a : Addr} {xs : List V} (k : Kp a H H') (h0 : H0 a ≠ none) (h : H a = some (.lst xs)) : KO H0 H H' := fun b o e q => k b o (fun z => by
  subst z
  rcases q with q | q
  · exact h0 q
  · rw [h] at e
    exact q xs (Option.some.inj e).symm) e
theorem KO.nl {H0 H H' : Hp} (k : KO H0 H H') : NL H H' := fun b o e q => k b o e (.inr q)
theorem KO.trans {H0 H H1 H2 : Hp} (a : KO H0 H H1) (b : KO H0 H1 H2) : KO H0 H H2 := fun c o e q => b c o (a c o e q) q
theorem KO.base {H0 H1 H H' : Hp} (k : KO H0 H H') (s : Same H0 H1) : KO H1 H H' := fun b o e q => k b o e (by
  rcases q with q | q
  · exact .inl (none_of s q)
  · exact .inr q)
def Fr (H0 H : Hp) : Hp := fun b => match H b with
  | some (.lst xs) => (match H0 b with
    | none => some (.lst xs)
    | some _ => none)
  | o => o
theorem Fr.nol {H0 H : Hp} {b : Addr} {o : HO} (h : H b = some o) (n : ∀ xs, o ≠ .lst xs) : Fr H0 H b = some o := by
  unfold Fr
  rw [h]
  cases o with
  | lst xs => exact absurd rfl (n xs)
  | _ => rfl
theorem Fr.new {H0 H : Hp} {b : Addr} (h : H0 b = none) : Fr H0 H b = H b := by
  unfold Fr
  cases e : H b with
  | none => rfl
  | some o =>
    cases o with
    | lst xs =>
      show (match H0 b with | none => some (HO.lst xs) | some _ => none) = _
      rw [h]
    | _ => rfl
theorem Fr.inv {H0 H : Hp} {b : Addr} {o : HO} (h : Fr H0 H b = some o) : H b = some o ∧ (H0 b = none ∨ ∀ xs, o ≠ .lst xs) := by
  unfold Fr at h
  cases e : H b with
  | none => rw [e] at h; cases h
  | some u =>
    rw [e] at h
    cases u with
    | lst xs =>
      have h : (match H0 b with | none => some (HO.lst xs) | some _ => none) = some o := h
      cases q : H0 b with
      | none => rw [q] at h; cases h; exact ⟨rfl, .inl rfl⟩
      | some z => rw [q] at h; cases h
    | _ => cases h; exact ⟨rfl, .inr fun xs z => nomatch z⟩
theorem Fr.of {H0 H : Hp} {b : Addr} {o : HO} (h : H b = some o) (n : H0 b = none ∨ ∀ xs, o ≠ .lst xs) : Fr H0 H b = some o := by
  rcases n with n | n
  · rw [Fr.new n]; exact h
  · exact Fr.nol h n
theorem Fr.le {H0 H : Hp} : Same (Fr H0 H) H := fun b o e => (Fr.inv e).1
theorem Fr.ko {H0 H H' : Hp} (k : KO H0 H H') : Same (Fr H0 H) (Fr H0 H') := fun b o e => by
  obtain ⟨h, n⟩ := Fr.inv e
  exact Fr.of (k b o h n) n
theorem Fr.same {H0 H H' : Hp} (s : Same H H') : Same (Fr H0 H) (Fr H0 H') := Fr.ko (KO.same s)
theorem Fr.kp {H0 H H' : Hp} {a : Addr} {xs : List V} (k : Kp a H H') (h : H0 a ≠ none) (ha : H a = some (.lst xs)) : Same (Fr H0 H) (Fr H0 H') := Fr.ko (KO.kp k h ha)
theorem Fr.base' {H0 H1 H : Hp} (s : ∀ b, H1 b = none → H0 b = none) : Same (Fr H1 H) (Fr H0 H) := fun b o e => by
  obtain ⟨h, n⟩ := Fr.inv e
  exact Fr.of h (n.elim (fun n => .inl (s b n)) .inr)
theorem Fr.base {H0 H1 H : Hp} (s : Same H0 H1) : Same (Fr H1 H) (Fr H0 H) := Fr.base' fun b h => none_of s h
theorem Fr.nl {H0 H H' : Hp} (k : NL H H') : NL (Fr H0 H) (Fr H0 H') := fun b o e n => Fr.nol (k b o (Fr.le b o e) n) n
/-! ### Playings with their own lists named, side by side -/
/-- what stays but for the lists of a set: everything else, and what is no list -/
abbrev KeO (ow : AvS) (H H' : Hp) : Prop := KeB ow H H'
/-- a Playing whose own lists are these -/
def Po (CR C : Addr) (H : Hp) (p : Addr) (ts : List Tri) (st ph : Int) (ws : List Bool) (ow : AvS) : Prop := ∃ r B aw ah xs ls, PlAt CR C H p r B aw ah xs ts st ph ws ls ∧ ∀ b, b ∈ ow ↔ (b = aw ∨ b = ah ∨ b ∈ ls)
theorem Po.v {CR C : Addr} {H : Hp} {p : Addr} {ts : List Tri} {st ph : Int} {ws : List Bool} {ow av : AvS} (h : Po CR C H p ts st ph ws ow) (n : ∀ b ∈ av, b ∉ ow) : PlV CR C av H p ts st ph ws := by
  obtain ⟨r, B, aw, ah, xs, ls, Y, e⟩ := h
  refine ⟨r, B, aw, ah, xs, ls, Y, fun b hb => ?_⟩
  have := n b hb
  rw [e] at this
  exact ⟨fun z => this (.inl z), fun z => this (.inr (.inl z)), fun z => this (.inr (.inr z))⟩
theorem PlV.po {CR C : Addr} {H : Hp} {p : Addr} {ts : List Tri} {st ph : Int} {ws : List Bool} {av : AvS} (h : PlV CR C av H p ts st ph ws) : ∃ ow : AvS, Po CR C H p ts st ph ws ow ∧ ∀ b ∈ av, b ∉ ow := by
  obtain ⟨r, B, aw, ah, xs, ls, Y, n⟩ := h
  refine ⟨fun b => b = aw ∨ b = ah ∨ b ∈ ls, ⟨r, B, aw, ah, xs, ls, Y, fun b => Iff.rfl⟩, fun b hb m => ?_⟩
  obtain ⟨n1, n2, n3⟩ := n b hb
  rcases m with m | m | m
  · exact n1 m
  · exact n2 m
  · exact n3 m
/-- all that is old and not its own -/
def oth (H : Hp) (ow : AvS) : AvS := fun b => b ∉ ow ∧ H b ≠ none
theorem Po.keB {CR C : Addr} {H H' : Hp} {p : Addr} {ts : List Tri} {st ph : Int} {ws : List Bool} {ow kv : AvS} (h : Po CR C H p ts st ph ws ow) (k : KeB kv H H') (n : ∀ b ∈ kv, b ∉ ow) : Po CR C H' p ts st ph ws ow := by
  obtain ⟨r, B, aw, ah, xs, ls, Y, e⟩ := h
  refine ⟨r, B, aw, ah, xs, ls, Y.keB (av := kv) (fun b hb => ?_) k, e⟩
  have := n b hb
  rw [e] at this
  exact ⟨fun z => this (.inl z), fun z => this (.inr (.inl z)), fun z => this (.inr (.inr z))⟩
theorem Po.same {CR C : Addr} {H H' : Hp} {p : Addr} {ts : List Tri} {st ph : Int} {ws : List Bool} {ow : AvS} (h : Po CR C H p ts st ph ws ow) (s : Same H H') : Po CR C H' p ts st ph ws ow := h.keB (kv := AvS.non) (.same s) fun b hb => hb.elim
theorem Po.lst {CR C : Addr} {H : Hp} {p : Addr} {ts : List Tri} {st ph : Int} {ws : List Bool} {ow : AvS} (h : Po CR C H p ts st ph ws ow) : ∀ b ∈ ow, ∃ xs, H b = some (.lst xs) := by
  obtain ⟨r, B, aw, ah, xs, ls, Y, e⟩ := h
  intro b hb
  rcases (e b).mp hb with rfl | rfl | hb
  · exact ⟨_, Y.hw⟩
  · exact ⟨_, Y.hh⟩
  · obtain ⟨j, hj⟩ := List.mem_iff_getElem?.mp hb
    obtain ⟨ys, h1, _⟩ := Y.hs j b hj
    exact ⟨_, h1⟩
theorem Po.ob {CR C : Addr} {H : Hp} {p : Addr} {ts : List Tri} {st ph : Int} {ws : List Bool} {ow : AvS} (h : Po CR C H p ts st ph ws ow) : ∃ dx r aw ah, H p = some (.ins C dx (plF r aw ah)) := by
  obtain ⟨r, B, aw, ah, xs, ls, Y, e⟩ := h
  obtain ⟨dx, hp⟩ := Y.ob
  exact ⟨dx, r, aw, ah, hp⟩
/-- where another Playing takes requests back -/
theorem Po.kp {CR C : Addr} {H H' : Hp} {p q : Addr} {ts : List Tri} {st ph : Int} {ws : List Bool} {ow : AvS} (h : Po CR C H p ts st ph ws ow) (k : Kp q H H') (n : p ≠ q) (hq : ∃ dx r aw ah, H q = some (.ins C dx (plF r aw ah))) : Po CR C H' p ts st ph ws ow := by
  obtain ⟨r, B, aw, ah, xs, ls, Y, e⟩ := h
  obtain ⟨dy, r', aw', ah', hq⟩ := hq
  obtain ⟨dx, hp⟩ := Y.ob
  have nl : ∀ b zs, H b = some (.lst zs) → b ≠ q := fun b zs e z => by rw [z, hq] at e; cases e
  have rq : r ≠ q := fun z => by
    obtain ⟨dr, hr⟩ := Y.row.ob
    rw [z, hq] at hr
    have := HO.ins.inj (Option.some.inj hr)
    exact plF_row this.2.2
  refine ⟨r, B, aw, ah, xs, ls, ⟨⟨dx, k _ _ n hp⟩, Y.row.kpn k rq ⟨_, _, _, hq⟩, k _ _ (nl _ _ Y.hw) Y.hw, k _ _ (nl _ _ Y.hh) Y.hh, Y.ln, fun j l hj => ?_, Y.n1, Y.n2, Y.n3⟩, e⟩
  obtain ⟨ys, h1, h2⟩ := Y.hs j l hj
  exact ⟨ys, k _ _ (nl _ _ h1) h1, h2.tp fun b us e => k _ _ (fun z => by rw [z, hq] at e; cases e) e⟩
/-- n Playings -/
structure Fam (CR C : Addr) (H : Hp) (n : Nat) (p : Nat → Addr) (ts : List Tri) (st : Int) (ph : Nat → Int) (ws : Nat → List Bool) (ow : Nat → AvS) : Prop where
  pl : ∀ i, i < n → Po CR C H (p i) ts st (ph i) (ws i) (ow i)
  dj : ∀ i j, i < n → j < n → i ≠ j → ∀ b ∈ ow i, b ∉ ow j
  pd : ∀ i j, i < n → j < n → i ≠ j → p i ≠ p j
/-- none of them has this list -/
def Fam.out (n : Nat) (ow : Nat → AvS) (b : Addr) : Prop := ∀ i, i < n → b ∉ ow i
def putF' {α : Type} (f : Nat → α) (i : Nat) (a : α) : Nat → α := fun j => if j = i then a else f j
theorem putF'_same {α : Type} {f : Nat → α} {i : Nat} {a : α} : putF' f i a i = a := if_pos rfl
theorem putF'_ne {α : Type} {f : Nat → α} {i j : Nat} {a : α} (h : j ≠ i) : putF' f i a j = f j := if_neg h
section
variable {CR C : Addr} {H H' : Hp} {n : Nat} {p : Nat → Addr} {ts : List Tri} {st : Int} {ph : Nat → Int} {ws : Nat → List Bool} {ow : Nat → AvS}
theorem Fam.same (F : Fam CR C H n p ts st ph ws ow) (s : Same H H') : Fam CR C H' n p ts st ph ws ow := ⟨fun i hi => (F.pl i hi).same s, F.dj, F.pd⟩
theorem Fam.keB {kv : AvS} (F : Fam CR C H n p ts st ph ws ow) (k : KeB kv H H') (o : ∀ b ∈ kv, Fam.out n ow b) : Fam CR C H' n p ts st ph ws ow := ⟨fun i hi => (F.pl i hi).keB k fun b hb => o b hb i hi, F.dj, F.pd⟩
/-- a list that is not theirs is written -/
theorem Fam.wr {a : Addr} {xs : List V} (F : Fam CR C H n p ts st ph ws ow) (k : Kp a H H') (h : H a = some (.lst xs)) (o : Fam.out n ow a) : Fam CR C H' n p ts st ph ws ow :=
  F.keB (kv := AvS.add a AvS.non) (KeB.kp k AvS.hd h) fun b hb => by
    rcases AvS.mem.mp hb with rfl | hb
    · exact o
    · exact hb.elim
theorem Fam.fresh (F : Fam CR C H n p ts st ph ws ow) {b : Addr} (h : H b = none) : Fam.out n ow b := fun i hi m => by
  obtain ⟨xs, e⟩ := (F.pl i hi).lst b m
  rw [h] at e
  cases e
/-- a request of one of them -/
theorem Fam.req (F : Fam CR C H n p ts st ph ws ow) {i : Nat} (hi : i < n) {us : List Bool} (Y : PlV CR C (oth H (ow i)) H' (p i) ts st (ph i) us) (k : KeV (oth H (ow i)) H H') :
    ∃ ow' : Nat → AvS, Fam CR C H' n p ts st ph (putF' ws i us) ow' ∧ (∀ b, H b ≠ none → Fam.out n ow b → Fam.out n ow' b) := by
  obtain ⟨o, P, ho⟩ := Y.po
  have old : ∀ b ∈ o, b ∈ ow i ∨ H b = none := fun b hb => by
    cases e : H b with
    | none => exact .inr rfl
    | some x =>
      refine .inl (Classical.byContradiction fun z => ho b ⟨z, by rw [e]; exact fun y => nomatch y⟩ hb)
  have kb : KeB (ow i) H H' := fun b x e q => k b x e (by
    rcases q with q | q
    · exact .inl ⟨q, by rw [e]; exact fun y => nomatch y⟩
    · exact .inr q)
  refine ⟨putF' ow i o, ⟨fun j hj => ?_, fun a b ha hb ne x hx => ?_, F.pd⟩, fun b hb hout j hj => ?_⟩
  · by_cases c : j = i
    · subst c
      rw [putF'_same, putF'_same]
      exact P
    · rw [putF'_ne c, putF'_ne c]
      exact (F.pl j hj).keB kb (F.dj i j hi hj (Ne.symm c))
  · by_cases ca : a = i
    · subst ca
      rw [putF'_same] at hx
      rw [putF'_ne (Ne.symm ne)]
      rcases old x hx with m | m
      · exact F.dj _ _ ha hb ne x m
      · exact F.fresh m b hb
    · rw [putF'_ne ca] at hx
      by_cases cb : b = i
      · subst cb
        rw [putF'_same]
        intro m
        rcases old x m with m | m
        · exact F.dj _ _ ha hb ne x hx m
        · exact F.fresh m a ha hx
      · rw [putF'_ne cb]
        exact F.dj _ _ ha hb ne x hx
  · by_cases c : j = i
    · subst c
      rw [putF'_same]
      intro m
      rcases old b m with m | m
      · exact hout j hj m
      · exact hb m
    · rw [putF'_ne c]
      exact hout j hj
/-- one of them takes requests back -/
theorem Fam.undo (F : Fam CR C H n p ts st ph ws ow) {i : Nat} (hi : i < n) {us : List Bool} (Y : PlV CR C (oth H (ow i)) H' (p i) ts st (ph i) us) (k : Kp (p i) H H') :
    ∃ ow' : Nat → AvS, Fam CR C H' n p ts st ph (putF' ws i us) ow' ∧ (∀ b, H b ≠ none → Fam.out n ow b → Fam.out n ow' b) := by
  obtain ⟨o, P, ho⟩ := Y.po
  have old : ∀ b ∈ o, b ∈ ow i ∨ H b = none := fun b hb => by
    cases e : H b with
    | none => exact .inr rfl
    | some x =>
      refine .inl (Classical.byContradiction fun z => ho b ⟨z, by rw [e]; exact fun y => nomatch y⟩ hb)
  refine ⟨putF' ow i o, ⟨fun j hj => ?_, fun a b ha hb ne x hx => ?_, F.pd⟩, fun b hb hout j hj => ?_⟩
  · by_cases c : j = i
    · subst c
      rw [putF'_same, putF'_same]
      exact P
    · rw [putF'_ne c, putF'_ne c]
      exact (F.pl j hj).kp k (F.pd j i hj hi c) (F.pl i hi).ob
  · by_cases ca : a = i
    · subst ca
      rw [putF'_same] at hx
      rw [putF'_ne (Ne.symm ne)]
      rcases old x hx with m | m
      · exact F.dj _ _ ha hb ne x m
      · exact F.fresh m b hb
    · rw [putF'_ne ca] at hx
      by_cases cb : b = i
      · subst cb
        rw [putF'_same]
        intro m
        rcases old x m with m | m
        · exact F.dj _ _ ha hb ne x hx m
        · exact F.fresh m a ha hx
      · rw [putF'_ne cb]
        exact F.dj _ _ ha hb ne x hx
  · by_cases c : j = i
    · subst c
      rw [putF'_same]
      intro m
      rcases old b m with m | m
      · exact hout j hj m
      · exact hb m
    · rw [putF'_ne c]
      exact hout j hj
theorem Fam.av (F : Fam CR C H n p ts st ph ws ow) {i : Nat} (hi : i < n) : PlV CR C (oth H (ow i)) H (p i) ts st (ph i) (ws i) ∧ ∀ b ∈ oth H (ow i), H b ≠ none := ⟨(F.pl i hi).v fun b hb => hb.1, fun b hb => hb.2⟩
end
theorem Fam.nil {CR C : Addr} {H : Hp} {p : Nat → Addr} {ts : List Tri} {st : Int} {ph : Nat → Int} {ws : Nat → List Bool} {ow : Nat → AvS} : Fam CR C H 0 p ts st ph ws ow := ⟨fun i hi => absurd hi (Nat.not_lt_zero _), fun i j hi => absurd hi (Nat.not_lt_zero _), fun i j hi => absurd hi (Nat.not_lt_zero _)⟩
/-- one more: new, with no list of the old heap -/
theorem Fam.add {CR C : Addr} {H H' : Hp} {n : Nat} {p : Nat → Addr} {ts : List Tri} {st : Int} {ph : Nat → Int} {ws : Nat → List Bool} {ow : Nat → AvS} (F : Fam CR C H n p ts st ph ws ow) (s : Fam CR C H' n p ts st ph ws ow) {q : Addr} {ph' : Int} {us : List Bool} (Y : PlV CR C (AvS.dom H) H' q ts st ph' us) (nq : H q = none) :
    ∃ ow' : Nat → AvS, Fam CR C H' (n + 1) (putF' p n q) ts st (putF' ph n ph') (putF' ws n us) ow' ∧ (∀ b, H b ≠ none → Fam.out n ow b → Fam.out (n + 1) ow' b) := by
  obtain ⟨o, P, ho⟩ := Y.po
  have new : ∀ b ∈ o, H b = none := fun b hb => Classical.byContradiction fun z => ho b z hb
  have pq : ∀ j, j < n → p j ≠ q := fun j hj e => by
    obtain ⟨dx, r, aw, ah, h⟩ := (F.pl j hj).ob
    rw [e, nq] at h
    cases h
  refine ⟨putF' ow n o, ⟨fun j hj => ?_, fun a b ha hb ne x hx => ?_, fun a b ha hb ne => ?_⟩, fun b hb hout j hj => ?_⟩
  · by_cases c : j = n
    · subst c
      rw [putF'_same, putF'_same, putF'_same, putF'_same]
      exact P
    · rw [putF'_ne c, putF'_ne c, putF'_ne c, putF'_ne c]
      exact s.pl j (by omega)
  · by_cases ca : a = n
    · subst ca
      rw [putF'_same] at hx
      rw [putF'_ne (Ne.symm ne)]
      exact F.fresh (new x hx) b (by omega)
    · rw [putF'_ne ca] at hx
      by_cases cb : b = n
      · subst cb
        rw [putF'_same]
        exact fun m => F.fresh (new x m) a (by omega) hx
      · rw [putF'_ne cb]
        exact F.dj _ _ (by omega) (by omega) ne x hx
  · by_cases ca : a = n
    · subst ca
      rw [putF'_same, putF'_ne (Ne.symm ne)]
      exact (pq b (by omega)).symm
    · by_cases cb : b = n
      · subst cb
        rw [putF'_same, putF'_ne ca]
        exact pq a (by omega)
      · rw [putF'_ne ca, putF'_ne cb]
        exact F.pd a b (by omega) (by omega) ne
  · by_cases c : j = n
    · subst c
      rw [putF'_same]
      exact fun m => hb (new b m)
    · rw [putF'_ne c]
      exact hout j (by omega)
/-! ### != of lists with own objects in them, all of them equal -/
theorem ne_loopL {prog : Program} {w : World} {A : Around} {R : Result → Shared → Prop} {l b : Addr} {N : Nat} {I : Nat → Shared → Prop} (hl : GQ.ListI prog w A (fun e s' => R (.error e) s') l b N I)
    (fin : ∀ s : Shared, I N s → R (.ok (.ret (.bool false))) s) : ∀ (k i : Nat), N - i = k → i ≤ N → ∀ s : Shared, I i s →
    wpAny (model prog w) A.in1 (Builtin.«list.__eq__.loop» ⟨[.ref l, .ref b, rawInt i, rawInt 3], []⟩) (GQ.FinOf prog w A R) (fun e s' => R (.error e) s') s
  | 0, i, hk, hi, s, h => by
    obtain ⟨xs, ys, n, n2, h1, h2, z1, z2, _⟩ := hl i s h
    have e : i = N := by omega
    have q := fin s (e ▸ h)
    obtain ⟨hp, g, d, tk, os⟩ := s
    wp_walk using AutoSeq1.wpAny_loadPart' h1, AutoSeq1.wpAny_loadPart' h2
    have o1 : xs[((i : Nat) : Int).toNat]? = none := by simp; omega
    have o2 : ys[((i : Nat) : Int).toNat]? = none := by simp; omega
    rw [o1, o2]
    wp_walk using AutoSeq1.wpAny_loadPart' h1, AutoSeq1.wpAny_loadPart' h2
    show R (.ok (.ret (.bool (xs.size != ys.size)))) _
    rw [z1, z2, bne_self_eq_false]
    exact q
  | k + 1, i, hk, hi, s, h => by
    obtain ⟨xs, ys, n, n2, h1, h2, z1, z2, turn⟩ := hl i s h
    have l1 : i < xs.size := by omega
    have l2 : i < ys.size := by omega
    have go := turn l1 l2
    obtain ⟨hp, g, d, tk, os⟩ := s
    wp_walk using AutoSeq1.wpAny_loadPart' h1, AutoSeq1.wpAny_loadPart' h2
    have a1 : xs[((i : Nat) : Int).toNat]? = some xs[i] := by simp [l1]
    have a2 : ys[((i : Nat) : Int).toNat]? = some ys[i] := by simp [l2]
    rw [a1, a2]
    refine wpAny_bind (wpAny_mono go ?_ fun _ _ z => z)
    rintro r s2 ⟨rfl, q⟩
    have more := ne_loopL hl fin k (i + 1) (by omega) (by omega) s2 q
    obtain ⟨hp2, g2, d2, tk2, os2⟩ := s2
    wp_walk
    rw [show ((i : Int) + 1) = ((i + 1 : Nat) : Int) by omega]
    refine ⟨plainId_quiet MeetsSeq3.plain_eq_loop _, codeAny_builtin MeetsSeq3.entry_eq_loop ?_⟩
    rw [Around.under_plainId MeetsSeq3.plain_eq_loop _]
    exact more
theorem list_neL {prog : Program} {w : World} {A : Around} {R : Result → Shared → Prop} {l b : Addr} {N : Nat} {I : Nat → Shared → Prop} (hl : GQ.ListI prog w A (fun e s' => R (.error e) s') l b N I)
    (fin : ∀ s : Shared, I N s → R (.ok (.ret (.bool false))) s) {s : Shared} (h : I 0 s) :
    wpAny (model prog w) A.in1 (Builtin.«list.__ne__» ⟨[.ref l, .ref b], []⟩) (GQ.FinOf prog w A R) (fun e s' => R (.error e) s') s := by
  obtain ⟨xs, ys, n, n2, h1, h2, z1, z2, _⟩ := hl _ _ h
  have go := ne_loopL hl fin N 0 rfl (Nat.zero_le _) s h
  obtain ⟨hp, g, d, tk, os⟩ := s
  have f3 := AutoSeq1.sub_list_list
  have same : ¬ (xs.size != ys.size) = true := by simp [z1, z2]
  wp_walk using AutoSeq1.wpAny_loadPart' h1, AutoSeq1.wpAny_loadPart' h2
  refine ⟨plainId_quiet MeetsSeq3.plain_eq_loop _, codeAny_builtin MeetsSeq3.entry_eq_loop ?_⟩
  rw [Around.under_plainId MeetsSeq3.plain_eq_loop _]
  exact go
theorem rc_listN {prog : Program} {w : World} {A : Around} {E : Value → Shared → Prop} {s : Shared} {l b : Addr} {N : Nat} {Q : Value → Shared → Prop} (hu : A.units < cLine) (I : Nat → Shared → Prop) (hl : GQ.ListI prog w A E l b N I)
    (fin : ∀ s : Shared, I N s → Q (.bool false) s) (h : I 0 s) : wpAny (model prog w) A (richCompare .NotEq (.ref l) (.ref b)) Q E s := by
  obtain ⟨_, _, n, n2, h1, h2, _, _, _⟩ := hl _ _ h
  refine wpAny_richCompare_same_room (op := .NotEq) ⟨_, h1, rfl⟩ ⟨_, h2, rfl⟩ F.slot_list_ne ?_ hu
  refine GQ.call_here F.slot_list_ne ⟨_, h1, rfl⟩ F.entry_list_ne (F.args_list_ne_2 _ _) ?_
  exact list_neL (R := wants (fun v s' => v ≠ .notImplemented ∧ Q v s') E) hl (fun s' q => ⟨(fun x => nomatch x), fin s' q⟩) h
def rNeL (D : L2.Eqv) : R2 := fun x y H Q => L2.DList D x y H ∧ ∀ H', L2.Ext H H' → Q (.bl false) H'
theorem op_neL {X : Cx} {n : Nat} {D : L2.Eqv} (hD : L2.Mon D) (h : L2.EqG X n D) (hr : Room (n + 1) X.A) : OpR X (compareOp .NotEq) (rNeL D) := by
  rintro pins s σ H x y v u Q I rx ry ⟨⟨a, b, xs, ys, rfl, rfl, ha, hb, p⟩, q⟩
  cases rx
  cases ry
  show wpAny (model X.prog X.w) X.A (richCompare .NotEq (.ref a) (.ref b)) _ _ _
  refine wpAny_mono (Q := fun r s' => r = Value.bool false ∧ L2.LoopI X pins σ H s') (rc_listN (N := xs.length) hr.units0 (fun _ s' => L2.LoopI X pins σ H s') ?_ (fun s' z => ⟨rfl, z⟩) ⟨H, I, L2.Ext.rfl'⟩) ?_ fun _ _ z => z
  · rintro i s' ⟨H1, I1, e1⟩
    obtain ⟨_, its, k, r, e⟩ := I1.hok a _ (e1 _ _ ha)
    obtain ⟨_, its2, k2, r2, e2⟩ := I1.hok b _ (e1 _ _ hb)
    exact ⟨its.toArray, its2.toArray, k, k2, e, e2, by rw [List.size_toArray, ← r.length], by rw [List.size_toArray, ← r2.length, ← p.1], fun h1 h2 => L2.turnG hD h ⟨hr, rfl⟩ p r r2 i h1 h2 s' ⟨H1, I1, e1⟩⟩
  · rintro r s' ⟨rfl, H', I', e⟩
    exact ⟨.bl false, H', I', rfl, q H' e⟩
/-! ### an instance of another class is none of this one -/
theorem CF.kitC {K : PySem.W.Frag} {C D : Addr} (M : CF K C) (h : PySem.W.mroIn K D (.ref C) = some false) : PySem.W.kitOne K (.ref D) (.ref C) = some false ∧ D ≠ C := by
  have ne : D ≠ C := fun z => by
    subst z
    have sf : (PySem.W.clsIn K D).any (fun cd => cd.mro.head? == some (.ref D)) = true := M.sf
    have h : (PySem.W.clsIn K D).bind (fun cd => if cd.mro.isEmpty then none else some (cd.mro.contains (.ref D))) = some false := h
    cases q : PySem.W.clsIn K D with
    | none => rw [q] at sf; cases sf
    | some cd =>
      rw [q] at sf h
      have sf : (cd.mro.head? == some (.ref D)) = true := sf
      have h : (if cd.mro.isEmpty = true then none else some (cd.mro.contains (.ref D))) = some false := h
      cases e : cd.mro with
      | nil => rw [e] at sf; exact absurd sf Bool.false_ne_true
      | cons a r =>
        rw [e] at sf h
        have e2 : a = .ref D := Option.some.inj (eq_of_beq sf)
        rw [e2, List.contains_cons] at h
        simp at h
  refine ⟨?_, ne⟩
  have e1 : ((PySem.W.clsIn K C).isSome && PySem.W.typeIn K (.ref C) == some (.type "type")) = true := by
    have h2 : (PySem.W.clsIn K C).isSome = true := M.cls
    rw [h2, M.ty] <;> rfl
  show (if (Value.ref D == Value.ref C) = true then some true else PySem.W.kitCls K (.ref D) (.ref C)) = some false
  rw [if_neg (by intro z; have := eq_of_beq z; injection this with this; exact ne this)]
  show (if ((PySem.W.clsIn K C).isSome && PySem.W.typeIn K (.ref C) == some (.type "type")) = true then PySem.W.subIn K (.ref D) (.ref C) else none) = some false
  rw [if_pos e1]
  exact h
/-! ### k56: the law's own rules of a request -/
theorem pe_dgX {X : Cx} {o i : Expr} {pos : Pos} {td ty : TE} (ho : PE X o td) (hi : PE X i ty) (hs : NoSl i) (hu : X.A.units + 64 < cLine) : PE X (.Subscript o i pos) (tDGet td ty) := pe_dget (by omega) ho hi hs
def tmX : Int := 10000000000000000000000000000000000000000
def InS (bs : List Tri) (ss : List StD) : Prop := ss.length = bs.length ∧ ∀ (i : Nat) (b : Tri) (s : StD), bs[i]? = some b → ss[i]? = some s → okW s ∧ (s.1 = "closed" → s.2 + 1 ≤ b.1) ∧ 0 ≤ s.2 ∧ s.2 ≤ tmX
theorem InS.ok {bs : List Tri} {ss : List StD} (h : InS bs ss) : ∀ s ∈ ss, okW s := fun s hs => by
  obtain ⟨i, hi⟩ := List.getElem?_of_mem hs
  have := (List.getElem?_eq_some_iff.mp hi).1
  exact (h.2 i (bs[i]'(by rw [← h.1]; exact this)) s (List.getElem?_eq_getElem _) hi).1
theorem stpS_in {b : Tri} {s : StD} {t : Int} {g : Bool} (hb : OkT b) (h0 : 0 ≤ s.2) (t0 : 0 ≤ t) (t1 : t ≤ tmX) : ((stpS b s t g).1 = "closed" → (stpS b s t g).2 + 1 ≤ b.1) ∧ 0 ≤ (stpS b s t g).2 ∧ (stpS b s t g).2 ≤ tmX := by
  obtain ⟨b1, b2, b3, b4, b5, b6⟩ := hb
  have hf0 : 0 ≤ (hfS s).2 := by
    unfold hfS
    split
    · exact Int.le_refl _
    · exact h0
  unfold tmX at *
  unfold stpS
  split
  · unfold okS
    split
    · rename_i c
      exact ⟨fun e => absurd e.symm sC_H, by show 0 ≤ (hfS s).2 + 1; omega, by show (hfS s).2 + 1 ≤ _; omega⟩
    · exact ⟨fun _ => by show (0 : Int) + 1 ≤ b.1; omega, by decide, by decide⟩
  · unfold badS
    split
    · rename_i c
      exact ⟨fun _ => by show ((hfS s).2 + 1) + 1 ≤ b.1; omega, by show 0 ≤ (hfS s).2 + 1; omega, by show (hfS s).2 + 1 ≤ _; omega⟩
    · exact ⟨fun e => absurd e sO_C, t0, t1⟩
theorem sntS_in {bs : List Tri} {ss : List StD} {t : Int} {up : Bool} (hb : ∀ b ∈ bs, OkT b) (h : InS bs ss) (t0 : 0 ≤ t) (t1 : t ≤ tmX) : InS bs (sntS bs ss t up) := by
  refine ⟨sntS_len, fun i b s eb es => ?_⟩
  obtain ⟨s0, hs0⟩ : ∃ s0, ss[i]? = some s0 := ⟨_, List.getElem?_eq_getElem (by rw [h.1]; exact (List.getElem?_eq_some_iff.mp eb).1)⟩
  rw [sntS_get eb hs0] at es
  have b1 := hb b (List.mem_of_getElem? eb)
  split at es
  · cases es
    exact ⟨stpS_W _ _ _ _, stpS_in b1 (h.2 i b s0 eb hs0).2.2.1 t0 t1⟩
  · cases es
    exact h.2 i b _ eb hs0
theorem whole_in (bs : List Tri) (hb : ∀ b ∈ bs, OkT b) : InS bs (List.replicate bs.length (("closed", 0) : StD)) := by
  refine ⟨List.length_replicate, fun i b s eb es => ?_⟩
  have b1 := (hb b (List.mem_of_getElem? eb)).1
  have := List.eq_of_mem_replicate (List.mem_of_getElem? es)
  subst this
  exact ⟨.inl rfl, fun _ => by show (0 : Int) + 1 ≤ b.1; omega, by decide, by decide⟩
theorem num_mul {n : Int} (k : Bool) (h0 : 0 ≤ n) (h1 : n ≤ tmX) : CMulW n (if k = true then 1 else 0) := by
  unfold tmX at h1
  unfold CMulW
  have h2 : n.natAbs < 2 ^ 140 := Nat.lt_of_le_of_lt (show n.natAbs ≤ 10000000000000000000000000000000000000000 by omega) (by decide)
  have h3 : n.natAbs.log2 < 200000 := by
    by_cases z : n.natAbs = 0
    · rw [z]; decide
    · exact Nat.lt_trans ((Nat.log2_lt z).mpr h2) (by decide)
  cases k
  · show n.natAbs.log2 + 0 < _
    omega
  · show n.natAbs.log2 + 0 < _
    omega
def spShut : Sp := fun vs H Q _ => ∃ x y b s t, vs = [x, y, .int t] ∧ BrAt H x b ∧ StAt H y s ∧ Q (.bl (decide (¬ psB b s t))) H
def spWBehind (K : PySem.W.Frag) : Sp := fun vs H Q _ => ∃ B l xs ys bs ss t up, vs = [.ref B, .ref l, .int t, wV up] ∧ H B = some (.lst xs) ∧ Brs H xs bs ∧ H l = some (.lst ys) ∧ Sts H ys ss ∧ InS bs ss ∧ bs.length ≤ 100 ∧
  ∀ q x l2 ys2 H', H' q = some (.tup [.ref l2, x]) → TldAt K H' x bs.length (kOf bs ss t) up → H' l2 = some (.lst ys2) → Sts H' ys2 (sntS bs ss t up) → Same H H' → H q = none → H l2 = none → Q (.ref q) H'
theorem told_val (up : Bool) : some (V.str (if up = true then "served" else "failed")) = valV (mergeK [] [((.inr "up" : Key), V.str "served"), ((.inr "down" : Key), V.str "failed")]) (.inr (if up = true then "up" else "down") : Key) := by
  cases up <;> decide +kernel
theorem told_get {H : Hp} {p : Addr} {up : Bool} (h : H p = some (.dK (mergeK [] [((.inr "up" : Key), V.str "served"), ((.inr "down" : Key), V.str "failed")]))) : DGet H p (wV up) (some (.str (if up = true then "served" else "failed"))) := .inl ⟨_, .inr (if up = true then "up" else "down"), .of h, by cases up <;> rfl, told_val up⟩
section
variable {P : Program} {w : World} {K : PySem.W.Frag} {mg : Str → Option Value} {base : Heap} {L : LA}
abbrev N_wisshut : List Str := ["_law_spec", "_law_state", "_law_time"]
theorem sc_wisshut : FnScope N_wisshut ["_law_spec", "_law_state", "_law_time"] (defScope st__law_is_shut) := ⟨rfl, rfl, rfl, by decide +kernel, rfl, by decide +kernel, by decide +kernel⟩
theorem fn_wisshut (T : LX K mg L) {fd : FuncData} (F : Fun K "_law_is_shut" "_law_is_shut" st__law_is_shut L.f__law_is_shut fd) : FnOk P w K mg base CX0 1 L.f__law_is_shut fd ["_law_spec", "_law_state", "_law_time"] (spShut) := by
  have nd := sc_wisshut.nd
  refine F.ok sc_wisshut (fun vs H Q E h => ?_) (fun cdv A outer S H vs Q E hr h => ?_)
  · obtain ⟨x, y, b, s, t, rfl, _⟩ := h
    rfl
  · obtain ⟨x, y, b, s, t, rfl, ⟨ab, rfl, hb⟩, ⟨as, rfl, hs⟩, k⟩ := h
    refine ⟨_, (pss_one (ps_ret (pe_and (pe_cmpR op_eq (pe_ix (r := rIxT K) ix_tup (pv 1) pe_int (fun _ _ => rfl)) pe_str (nomark _)) (pe_one (pe_cmpR op_lt (pe_op op_sub (pv 2) (pe_ix (r := rIxT K) ix_tup (pv 1) pe_int (fun _ _ => rfl))) (pe_ix (r := rIxT K) ix_tup (pv 0) pe_int (fun _ _ => rfl)) (nomark _)))))), ?_⟩
    refine ⟨_, rfl, as, _, 0, .str s.1, rfl, rfl, SqT.of hs, rfl, rfl, _, rfl, ite2 (fun c => ?_) (fun c => ?_)⟩
    · have c' : s.1 = "open" := by simpa using c
      have e : decide (¬ psB b s t) = decide (t - s.2 < b.2.1) := by
        rw [Bool.eq_iff_iff, decide_eq_true_iff, decide_eq_true_iff]
        exact ⟨fun h => Classical.byContradiction fun z => h fun _ => by omega, fun h z => by have := z c'; omega⟩
      rw [e] at k
      exact ⟨_, rfl, _, rfl, as, _, 1, .int s.2, rfl, rfl, SqT.of hs, rfl, _, _, rfl, rfl, _, rfl, ab, _, 1, .int b.2.1, rfl, rfl, SqT.of hb, rfl, _, _, rfl, rfl, k⟩
    · have c' : ¬ s.1 = "open" := fun e => by simp [e] at c
      rw [decide_eq_false (show ¬ ¬ psB b s t from fun h => h fun e => absurd e c')] at k
      exact k
theorem ok_wisshut (T : LX K mg L) : Cal P w K mg base "_law_is_shut" 1 L.f__law_is_shut ["_law_spec", "_law_state", "_law_time"] (spShut) := T.d__law_is_shut.cal fun fd F => fn_wisshut T F
abbrev N_wbehind : List Str := ["_law_specs_here", "_law_states", "_law_time", "_law_word", "_law_stop", "_law_told", "_law_found", "_law_at", "_law_sort", "_law_number", "_law_is_half"]
theorem sc_wbehind : FnScope N_wbehind ["_law_specs_here", "_law_states", "_law_time", "_law_word"] (defScope st__law_behind) := ⟨rfl, rfl, rfl, by decide +kernel, rfl, by decide +kernel, by decide +kernel⟩
theorem fn_wbehind (T : LX K mg L) {fd : FuncData} (F : Fun K "_law_behind" "_law_behind" st__law_behind L.f__law_behind fd) : FnOk P w K mg base CX0 3 L.f__law_behind fd ["_law_specs_here", "_law_states", "_law_time", "_law_word"] (spWBehind K) := by
  have G_wisshut := ok_wisshut (P := P) (w := w) (base := base) T
  have nd := sc_wbehind.nd
  refine F.ok sc_wbehind (fun vs H Q E h => ?_) (fun cdv A outer S H vs Q E hr h => ?_)
  · obtain ⟨B, l, xs, ys, bs, ss, t, up, rfl, _⟩ := h
    rfl
  · obtain ⟨B, l, xs, ys, bs, ss, t, up, rfl, hB, hb, hl, hs, ins, bl, k⟩ := h
    refine ⟨_, (pss_cons (ps_set (i := 4) nd rfl (Or.inl rfl) pe_int)
       (C8.pss_cut (ps_while PassesOwn.never (PW.pt (pw_and (pt_cmpR op_lt (pv 4) (pe_callB call_len_seq (by rfl) T.b_len PySem.boot_len (pa_cons (pv 0) pa_nil)) (nomark _)) (pw_and1 (pt_not (pt_val (pe_c G_wisshut (hr.mono (by decide)) rfl (pa_cons (pe_ix (r := rIxL K) ix_list (pv 0) (pv 4) (fun _ _ => rfl)) (pa_cons (pe_ix (r := rIxL K) ix_list (pv 1) (pv 4) (fun _ _ => rfl)) (pa_cons (pv 2) pa_nil))))))))) (pss_one (ps_set (i := 4) nd rfl (Or.inl rfl) (pe_op op_add (pv 4) pe_int))))
       (C8.pss_cut (ps_set (i := 5) nd rfl (Or.inl rfl) (pe_ifExp (pt_cmpR op_eq (pv 4) (pe_callB call_len_seq (by rfl) T.b_len PySem.boot_len (pa_cons (pv 0) pa_nil)) (nomark _)) (pe_tup (pa_cons (pe_dgX (pe_disp (pps_cons pe_str pe_str (pps_cons pe_str pe_str pps_nil)) rfl rfl (fun q => nomatch q) (by decide)) (pv 3) (fun _ _ => rfl) hr.units) pa_nil)) (pe_tup (pa_cons pe_str (pa_cons (pv 4) pa_nil)))))
       (pss_cons (ps_set (i := 6) nd rfl (Or.inl rfl) (pe_lst pa_nil))
       (C8.pss_cut (ps_for PassesOwn.never rfl (pi_enum (by rfl) T.b_enumerate (pa_cons (pv 1) pa_nil)) (pg_tup rfl (pgs_cons (pg_name (i := 7) nd rfl (Or.inl rfl)) (pgs_cons (pg_tup rfl (pgs_cons (pg_name (i := 8) nd rfl (Or.inl rfl)) (pgs_cons (pg_name (i := 9) nd rfl (Or.inl rfl)) pgs_nil))) pgs_nil))) (pss_one (ps_if (pt_cmpR op_ge (pv 7) (pv 4) (nomark _)) (pss_one (ps_expr (pe_bm PySem.F.plainAttrs_list PySem.F.slot_list_append PySem.F.type_list_append mt_append (pv 6) (pa_cons (pe_tup (pa_cons (pv 8) (pa_cons (pv 9) pa_nil))) pa_nil)))) (pss_one (ps_if (pt_cmpR (op_eqD hr.units) (pv 5) (pe_tup (pa_cons pe_str pa_nil)) (nomark _)) (pss_cons (ps_set (i := 9) nd rfl (Or.inl rfl) (pe_op op_add pe_int (pe_op op_mulW (pv 9) (pe_callTy call_int1 (by rfl) T.b_int (by decide +kernel) (pa_cons (pe_cmpR op_eq (pv 8) pe_str (nomark _)) pa_nil)))))
       (pss_cons (ps_set (i := 10) nd rfl (Or.inl rfl) (pe_and (pe_cmpR op_ne (pv 8) pe_str (nomark _)) (pe_one (pe_cmpR op_lt (pv 9) (pe_ix (r := rIxT K) ix_tup (pe_ix (r := rIxL K) ix_list (pv 0) (pv 7) (fun _ _ => rfl)) pe_int (fun _ _ => rfl)) (nomark _)))))
       (pss_one (ps_expr (pe_bm PySem.F.plainAttrs_list PySem.F.slot_list_append PySem.F.type_list_append mt_append (pv 6) (pa_cons (pe_ifExp (pt_val (pv 10)) (pe_tup (pa_cons pe_str (pa_cons (pv 9) pa_nil))) (pe_tup (pa_cons pe_str (pa_cons pe_int pa_nil)))) pa_nil)))))) (pss_one (ps_if (PW.pt (pw_or (pt_cmpR op_ne (pv 8) pe_str (nomark _)) (pw_or1 (pt_cmpR op_eq (pe_op op_add (pv 9) pe_int) (pe_ix (r := rIxT K) ix_tup (pe_ix (r := rIxL K) ix_list (pv 0) (pv 7) (fun _ _ => rfl)) pe_int (fun _ _ => rfl)) (nomark _))))) (pss_one (ps_expr (pe_bm PySem.F.plainAttrs_list PySem.F.slot_list_append PySem.F.type_list_append mt_append (pv 6) (pa_cons (pe_tup (pa_cons pe_str (pa_cons (pv 2) pa_nil))) pa_nil)))) (pss_one (ps_expr (pe_bm PySem.F.plainAttrs_list PySem.F.slot_list_append PySem.F.type_list_append mt_append (pv 6) (pa_cons (pe_tup (pa_cons pe_str (pa_cons (pe_op op_add (pv 9) pe_int) pa_nil))) pa_nil)))))))))))
       (pss_one (ps_ret (pe_tup (pa_cons (pv 6) (pa_cons (pv 5) pa_nil)))))))))), ?_⟩
    have xl := hb.len
    have yl := paired_len hs
    have sl := ins.1
    refine ⟨fun σ' H' => σ' = [some (.ref B), some (.ref l), some (.int t), some (wV up), some (.int (kOf bs ss t : Nat)), none, none, none, none, none, none] ∧ H' = H, ?_, ?_⟩
    · refine while_by (fun σ H2 => ∃ j : Nat, σ = [some (.ref B), some (.ref l), some (.int t), some (wV up), some (.int (j : Nat)), none, none, none, none, none, none] ∧ j ≤ bs.length ∧ (∀ (i : Nat) (b : Tri) (s : StD), i < j → bs[i]? = some b → ss[i]? = some s → psB b s t) ∧ H2 = H)
        (fun σ _ => match σ with | [_, _, _, _, some (.int r), _, _, _, _, _, _] => ((bs.length : Int) - r).toNat | _ => 0)
        ⟨0, rfl, Nat.zero_le _, fun i b s h => absurd h (Nat.not_lt_zero _), rfl⟩ ?_ ?_
      · rintro σ H2 ⟨j, rfl, jl, hj, rfl⟩
        refine ⟨_, rfl, _, rfl, B, _, rfl, .inl (SqL.of hB), _, _, rfl, rfl, _, rfl, ite2 (fun c => ?_) (fun c => ?_)⟩
        · have c' : (j : Int) < xs.length := of_decide_eq_true c
          have jb : j < bs.length := by omega
          obtain ⟨x, hx⟩ : ∃ x, xs[j]? = some x := ⟨_, List.getElem?_eq_getElem (by omega)⟩
          obtain ⟨y, hy⟩ : ∃ y, ys[j]? = some y := ⟨_, List.getElem?_eq_getElem (by omega)⟩
          obtain ⟨b, eb, hbx⟩ := hb.get hx
          obtain ⟨s, es, hsy⟩ := paired_get hs hy
          refine ⟨_, rfl, _, rfl, B, xs, (j : Int), x, rfl, rfl, SqL.of hB, atI_nat hx, _, rfl, _, rfl, l, ys, (j : Int), y, rfl, rfl, SqL.of hl, atI_nat hy, _, rfl, x, y, b, s, t, rfl, hbx, hsy, _, rfl, ite2 (fun p => ?_) (fun p => ?_)⟩
          · have p' : psB b s t := Classical.byContradiction fun z => by simp [z] at p
            refine ⟨_, rfl, _, _, rfl, rfl, ⟨j + 1, rfl, jb, fun i b' s' hi e1 e2 => ?_, rfl⟩, ?_⟩
            · by_cases q : i < j
              · exact hj i b' s' q e1 e2
              · have : i = j := by omega
                subst this
                rw [eb] at e1
                rw [es] at e2
                cases e1
                cases e2
                exact p'
            · show ((bs.length : Int) - ((j : Int) + 1)).toNat < ((bs.length : Int) - (j : Int)).toNat
              omega
          · have e := kOf_is sl jl hj fun b' s' e1 e2 => by
              rw [eb] at e1
              rw [es] at e2
              cases e1
              cases e2
              exact fun h => by simp [h] at p
            rw [← e]
            exact ⟨rfl, rfl⟩
        · have c' : ¬ (j : Int) < xs.length := fun h => c (decide_eq_true h)
          have e := kOf_is sl jl hj fun b' s' e1 e2 => absurd (List.getElem?_eq_some_iff.mp e1).1 (by omega)
          rw [← e]
          exact ⟨rfl, rfl⟩
      · rintro σ H Q Q' m ⟨a1, a2, a3, a4, a5, a6, a7, a8, a9, a10, a11, a12, bb, a13, q⟩
        refine ⟨a1, a2, a3, a4, a5, a6, a7, a8, a9, a10, a11, a12, bb, a13, ?_⟩
        cases bb with
        | false => exact iteF (m _ _ (by rwa [if_neg Bool.false_ne_true] at q))
        | true =>
          rw [if_pos rfl] at q
          obtain ⟨b1, b2, b3, b4, b5, b6, b7, b8, b9, b10, b11, b12, b13, b14, b15, b16, b17, b18, b19, b20, b21, b22, b23, b24, b25, b26, b27, b28, b29, b30, b31, b32, b33, b34, b35, b36, q⟩ := q
          exact iteT ⟨b1, b2, b3, b4, b5, b6, b7, b8, b9, b10, b11, b12, b13, b14, b15, b16, b17, b18, b19, b20, b21, b22, b23, b24, b25, b26, b27, b28, b29, b30, b31, b32, b33, b34, b35, b36, m _ _ q⟩
    rintro σ' H' ⟨rfl, rfl⟩
    have kl := kOf_le bs ss t
    obtain ⟨n, hn⟩ : ∃ n, n = kOf bs ss t := ⟨_, rfl⟩
    refine ⟨fun σ2 H2 => ∃ a, σ2 = [some (.ref B), some (.ref l), some (.int t), some (wV up), some (.int (kOf bs ss t : Nat)), some (.ref a), none, none, none, none, none] ∧ SqT K H2 a (outV bs.length (kOf bs ss t) (!up)) ∧ Same H' H2, ?_, ?_⟩
    · refine ⟨_, rfl, _, rfl, B, _, rfl, .inl (SqL.of hB), rfl, _, rfl, ite2 (fun c => ?_) (fun c => ?_)⟩
      · have c' : kOf bs ss t = bs.length := by
          have := of_decide_eq_true c
          have := V.int.inj this
          omega
        rw [c', outV_n]
        intro p np
        refine ⟨upd_same, [((.inr "up" : Key), V.str "served"), ((.inr "down" : Key), V.str "failed")], rfl, (by show 2 ≤ 15; decide), _, rfl, p, .str (if up = true then "served" else "failed"), rfl, ?_, ?_⟩
        · exact told_get upd_same
        · refine ⟨(by show 1 ≤ sizeLine; decide), fun q nq => ⟨q, rfl, ?_, ?_⟩⟩
          · refine SqT.of (upd_same.trans ?_)
            cases up <;> rfl
          · have nqp : q ≠ p := fun e => by rw [e, upd_same] at nq; cases nq
            exact fun b o e => by
              have bp : b ≠ p := ne_of_none e np
              have bq : b ≠ q := fun z => by rw [z] at e; rw [upd_ne nqp, upd_ne nqp, e] at nq; cases nq
              rw [upd_ne bq, upd_ne bp, upd_ne bp]
              exact e
      · have c' : ¬ kOf bs ss t = bs.length := fun h => c (decide_eq_true (by rw [h, xl]))
        refine ⟨_, rfl, (by show 2 ≤ sizeLine; decide), fun p np => ⟨p, rfl, ?_, Same.upd np⟩⟩
        rw [outV_k (show kOf bs ss t < bs.length by omega)]
        exact SqT.of upd_same
    rintro σ2 H2 ⟨a, rfl, ha, s2⟩
    refine ⟨(by show 0 ≤ sizeLine; decide), fun D nD => ?_⟩
    refine ⟨fun σ3 H3 => ∃ ws, ∃ v1 v2 v3 v4 : Option V, σ3 = [some (.ref B), some (.ref l), some (.int t), some (wV up), some (.int (kOf bs ss t : Nat)), some (.ref a), some (.ref D), v1, v2, v3, v4] ∧ H3 D = some (.lst ws) ∧ Sts H3 ws (sntS bs ss t up) ∧ Same H2 H3, ?_, ?_⟩
    · have hl2 := s2 _ _ hl
      refine ⟨_, rfl, l, ys, rfl, SqL.of ((Same.upd nD) _ _ hl2), for_enum (K := K) (a := l) (xs := ys) (fun i σ H3 => ∃ ws, ∃ v1 v2 v3 v4 : Option V, σ = [some (.ref B), some (.ref l), some (.int t), some (wV up), some (.int (kOf bs ss t : Nat)), some (.ref a), some (.ref D), v1, v2, v3, v4] ∧ H3 D = some (.lst ws) ∧ Sts H3 ws ((sntS bs ss t up).take i) ∧ Same H2 H3) ⟨[], none, none, none, none, rfl, upd_same, .nil, Same.upd nD⟩ (fun i σ H3 _ ⟨_, _, _, _, _, _, _, _, s3⟩ => SqL.of (s3 _ _ hl2)) ?_ ?_⟩
      · rintro i x T' σ H3 hx ⟨ws, v1, v2, v3, v4, rfl, hD, hz, s3⟩ hT
        obtain ⟨s, es, as, rfl, hsy⟩ := paired_get hs hx
        have ib : i < bs.length := by have := (List.getElem?_eq_some_iff.mp hx).1; omega
        obtain ⟨b, eb⟩ : ∃ b, bs[i]? = some b := ⟨_, List.getElem?_eq_getElem ib⟩
        obtain ⟨xb, hxb, ab, rfl, hbx⟩ := paired_get2 hb eb
        have sT := Same.upd (o := .tup [.int (i : Nat), .ref as]) hT
        have s2T := (s2.trans s3).trans sT
        refine ⟨T', _, rfl, SqT.of upd_same, rfl, _, _, rfl, _, _, rfl, as, _, rfl, SqT.of (s2T _ _ hsy), rfl, _, _, rfl, _, _, rfl, rfl, rfl, ?_⟩
        have wl := paired_len hz
        rw [List.length_take, sntS_len] at wl
        have s3T := s3.trans sT
        have eg := sntS_get (t := t) (up := up) eb es
        have hDT := sT _ _ hD
        -- what is put in is the state behind the request
        have fin : ∀ (d : StD) (p : Addr) (Hm H4 : Hp) (u1 u2 u3 u4 : Option V), (sntS bs ss t up)[i]? = some d → Same (upd H3 T' (.tup [.int (i : Nat), .ref as])) Hm → Hm p = none → H4 = upd Hm p (.tup [.str d.1, .int d.2]) →
            H4 D = some (.lst ws) ∧ ws.length < sizeLine ∧ (∃ ws', ∃ v1 v2 v3 v4 : Option V, [some (.ref B), some (.ref l), some (.int t), some (wV up), some (.int (kOf bs ss t : Nat)), some (.ref a), some (.ref D), u1, u2, u3, u4] = [some (.ref B), some (.ref l), some (.int t), some (wV up), some (.int (kOf bs ss t : Nat)), some (.ref a), some (.ref D), v1, v2, v3, v4] ∧ (upd H4 D (.lst (ws ++ [.ref p]))) D = some (.lst ws') ∧ Sts (upd H4 D (.lst (ws ++ [.ref p]))) ws' ((sntS bs ss t up).take (i + 1)) ∧ Same H2 (upd H4 D (.lst (ws ++ [.ref p])))) := fun d p Hm H4 u1 u2 u3 u4 ed sm np e4 => by
          subst e4
          have sp := sm.trans (Same.upd (o := .tup [.str d.1, .int d.2]) np)
          have hD4 := sp _ _ hDT
          have n7 := NL.upd (o := .lst (ws ++ [.ref p])) hD4
          refine ⟨hD4, small1 (by omega), ws ++ [.ref p], u1, u2, u3, u4, rfl, upd_same, ?_, fun b o e => ?_⟩
          · rw [List.take_add_one, ed]
            exact paired_app (((hz.same sT).same sp).nl n7) (.cons ⟨p, rfl, n7 _ _ upd_same fun _ z => nomatch z⟩ .nil)
          · rw [upd_ne (ne_of_none e nD)]
            exact sp _ _ (s3T _ _ e)
        have hB3 := s2T _ _ hB
        have hb3 := s2T _ _ hbx
        refine ⟨_, rfl, _, rfl, _, _, rfl, rfl, _, rfl, ite2 (fun c => ?_) (fun c => ?_)⟩
        · have c' : (kOf bs ss t : Int) ≤ i := of_decide_eq_true c
          rw [if_neg (by omega)] at eg
          refine ⟨_, rfl, .inl ⟨rfl, _, SqL.of hDT⟩, _, rfl, _, rfl, (by show 2 ≤ sizeLine; decide), fun p np => ?_⟩
          obtain ⟨f1, f2, f3⟩ := fin s p _ _ _ _ _ _ eg (.refl _) np rfl
          exact ⟨D, _, _, rfl, rfl, f1, f2, f3⟩
        · have c' : ¬ (kOf bs ss t : Int) ≤ i := fun h => c (decide_eq_true h)
          rw [if_pos (by omega)] at eg
          obtain ⟨g, hg⟩ : ∃ g : Bool, g = (decide (kOf bs ss t = bs.length) && up) := ⟨_, rfl⟩
          rw [← hg] at eg
          obtain ⟨okw, okc, s0, s1⟩ := ins.2 i b s eb es
          refine ⟨_, rfl, (by show 1 ≤ sizeLine; decide), fun e ne => ?_⟩
          have se := Same.upd (o := .tup [.str "served"]) ne
          have hd : Dp K (upd (upd H3 T' (.tup [.int (i : Nat), .ref as])) e (.tup [.str "served"])) (.ref a) (outD bs.length (kOf bs ss t) (!up)) := TldAt.dp ⟨a, rfl, ha.ext fun b o z => se _ _ (s3T b o z)⟩
          refine ⟨_, _, hd, .tup (SqT.of upd_same) (.cons (.str _) .nil), outD_sh _ _ _, served_sh, ?_⟩
          rw [outD_served _ _ _ kl, Bool.not_not, ← hg]
          cases g with
          | true =>
            refine ⟨_, rfl, iteT ?_⟩
            refine ⟨_, rfl, _, rfl, rfl, .inr ⟨_, rfl, _, _, rfl, rfl, num_mul _ s0 s1, _, _, rfl, rfl, ?_⟩⟩
            have hDe := se _ _ hDT
            refine ⟨_, rfl, rfl, _, rfl, ite2 (fun c2 => ?_) (fun c2 => ?_)⟩
            · have c2' : ¬ s.1 = "closed" := fun e => by simp [e] at c2
              refine ⟨_, rfl, _, rfl, _, rfl, B, xs, (i : Int), _, rfl, rfl, SqL.of (se _ _ hB3), atI_nat hxb, ab, _, 2, .int b.2.2, rfl, rfl, SqT.of (se _ _ hb3), rfl, _, _, rfl, rfl, ?_⟩
              have key : (sntS bs ss t up)[i]? = some (if (1 + s.2 * if decide (V.str s.1 = V.str "half") = true then 1 else 0) < b.2.2 then (("half", 1 + s.2 * if decide (V.str s.1 = V.str "half") = true then 1 else 0) : StD) else ("closed", 0)) := by
                rw [eg]
                refine congrArg some ?_
                show okS b s = _
                by_cases h : s.1 = "half"
                · rw [okS_half h, if_pos (decide_eq_true (congrArg V.str h)), show 1 + s.2 * 1 = s.2 + 1 by omega]
                · have o : s.1 = "open" := by
                    rcases okw with e | e | e
                    · exact absurd e c2'
                    · exact e
                    · exact absurd e h
                  rw [okS_open o, if_neg (fun z => h (V.str.inj (of_decide_eq_true z))), show 1 + s.2 * 0 = 1 by omega]
              refine ⟨_, rfl, .inl ⟨rfl, _, SqL.of hDe⟩, _, rfl, _, rfl, ite2 (fun c3 => ?_) (fun c3 => ?_)⟩
              · have key := key.trans (congrArg some (if_pos (of_decide_eq_true c3)))
                refine ⟨_, rfl, (by show 2 ≤ sizeLine; decide), fun p np => ?_⟩
                obtain ⟨f1, f2, f3⟩ := fin ("half", _) p _ _ _ _ _ _ key se np rfl
                exact ⟨D, _, _, rfl, rfl, f1, f2, f3⟩
              · have key := key.trans (congrArg some (if_neg (fun z => c3 (decide_eq_true z))))
                refine ⟨(by show 2 ≤ sizeLine; decide), fun p np => ?_⟩
                obtain ⟨f1, f2, f3⟩ := fin ("closed", 0) p _ _ _ _ _ _ key se np rfl
                exact ⟨D, _, _, rfl, rfl, f1, f2, f3⟩
            · have c2' : s.1 = "closed" := by simpa using c2
              refine ⟨_, rfl, .inl ⟨rfl, _, SqL.of hDe⟩, _, rfl, _, rfl, iteF ⟨(by show 2 ≤ sizeLine; decide), fun p np => ?_⟩⟩
              obtain ⟨f1, f2, f3⟩ := fin ("closed", 0) p _ _ _ _ _ _ (eg.trans (congrArg some (okS_closed c2'))) se np rfl
              exact ⟨D, _, _, rfl, rfl, f1, f2, f3⟩
          | false =>
            refine ⟨_, rfl, iteF ?_⟩
            refine ⟨_, rfl, rfl, _, rfl, ite2 (fun c2 => ?_) (fun c2 => ?_)⟩
            · have c2' : ¬ s.1 = "closed" := fun e => by simp [e] at c2
              refine iteT ⟨_, rfl, .inl ⟨rfl, _, SqL.of (se _ _ hDT)⟩, _, rfl, (by show 2 ≤ sizeLine; decide), fun p np => ?_⟩
              obtain ⟨f1, f2, f3⟩ := fin ("open", t) p _ _ _ _ _ _ (eg.trans (congrArg some (badS_other c2'))) se np rfl
              exact ⟨D, _, _, rfl, rfl, f1, f2, f3⟩
            · have c2' : s.1 = "closed" := by simpa using c2
              refine ⟨_, rfl, _, _, rfl, rfl, _, rfl, _, rfl, B, xs, (i : Int), _, rfl, rfl, SqL.of (se _ _ hB3), atI_nat hxb, ab, _, 0, .int b.1, rfl, rfl, SqT.of (se _ _ hb3), rfl, rfl, _, rfl, ite2 (fun c3 => ?_) (fun c3 => ?_)⟩
              · have c3' : ¬ s.2 + 1 < b.1 := by
                  have := V.int.inj (of_decide_eq_true c3)
                  omega
                refine ⟨_, rfl, .inl ⟨rfl, _, SqL.of (se _ _ hDT)⟩, _, rfl, (by show 2 ≤ sizeLine; decide), fun p np => ?_⟩
                obtain ⟨f1, f2, f3⟩ := fin ("open", t) p _ _ _ _ _ _ (eg.trans (congrArg some ((badS_closed c2').trans (if_neg c3')))) se np rfl
                exact ⟨D, _, _, rfl, rfl, f1, f2, f3⟩
              · have c3' : s.2 + 1 < b.1 := by
                  have h1 := okc c2'
                  have : ¬ s.2 + 1 = b.1 := fun e => c3 (decide_eq_true (congrArg V.int e))
                  omega
                refine ⟨_, rfl, .inl ⟨rfl, _, SqL.of (se _ _ hDT)⟩, _, rfl, _, _, rfl, rfl, (by show 2 ≤ sizeLine; decide), fun p np => ?_⟩
                obtain ⟨f1, f2, f3⟩ := fin ("closed", s.2 + 1) p _ _ _ _ _ _ (eg.trans (congrArg some ((badS_closed c2').trans (if_pos c3')))) se np rfl
                exact ⟨D, _, _, rfl, rfl, f1, f2, f3⟩
      · rintro σ H3 ⟨ws, v1, v2, v3, v4, rfl, hD, hz, s3⟩
        rw [yl, sl, List.take_of_length_le (by rw [sntS_len]; exact Nat.le_refl _)] at hz
        exact ⟨ws, v1, v2, v3, v4, rfl, hD, hz, s3⟩
    rintro σ3 H3 ⟨ws, v1, v2, v3, v4, rfl, hD, hz, s3⟩
    refine ⟨_, rfl, _, rfl, (by show 2 ≤ sizeLine; decide), fun q nq => ?_⟩
    have sq := Same.upd (o := .tup [.ref D, .ref a]) nq
    have sA := (s2.trans s3).trans sq
    exact k q (.ref a) D ws _ upd_same ⟨a, rfl, ha.ext fun b o e => sq _ _ (s3 b o e)⟩ (sq _ _ hD) (hz.same sq) sA (none_of (s2.trans s3) nq) (none_of s2 nD)
theorem ok_wbehind (T : LX K mg L) : Cal P w K mg base "_law_behind" 3 L.f__law_behind ["_law_specs_here", "_law_states", "_law_time", "_law_word"] (spWBehind K) := T.d__law_behind.cal fun fd F => fn_wbehind T F
end
/-! ### k56: what a Playing shows, with its row -/
def RRow (C : Addr) : Addr → Addr → Hp → Prop := fun a b H => ∃ B B' xs xs' ts st ph, RowAt C H a B xs ts st ph ∧ RowAt C H b B' xs' ts st ph
def DIt (K : PySem.W.Frag) (C : Addr) : L2.Eqv := fun x y H => L2.DFlat x y H ∨ (L2.DList L2.DFlat x y H ∨ (L2.DList (L2.DTup K L2.DFlat) x y H ∨ L2.DIns C (RRow C) x y H))
def DSh (K : PySem.W.Frag) (C : Addr) : L2.Eqv := L2.DList (DIt K C)
theorem eqG_row {X : Cx} {L : LA} (T : LX X.K X.mg L) : L2.EqG X 1 (L2.DIns L.c_Row (RRow L.c_Row)) ∧ L2.Mon (L2.DIns L.c_Row (RRow L.c_Row)) := by
  refine ⟨?_, L2.mon_ins fun a b H H' e ⟨B, B', xs, xs', ts, st, ph, R, R'⟩ => ⟨B, B', xs, xs', ts, st, ph, R.nl (NL.of e), R'.nl (NL.of e)⟩⟩
  have c := ok_Roweq (P := X.prog) (w := X.w) (base := X.base) T
  obtain ⟨fd, F, b⟩ := c.ex
  have imp : ∀ (vs : List V) (H : Hp) (Q : VK) (E : XK), L2.spEq (RRow L.c_Row) vs H Q E → spEqR L.c_Row vs H Q E := fun vs H Q E h => by
    obtain ⟨a, b, rfl, ⟨B, B', xs, xs', ts, st, ph, R, R'⟩, k⟩ := h
    have EB : EqOf L.c_Row H (ts, st, ph) (.ref b) (decide ((ts, st, ph) = (ts, st, ph))) := .row R'
    rw [decide_eq_true rfl] at EB
    exact ⟨a, B, xs, ts, st, ph, .ref b, true, rfl, R, EB, k H L2.Ext.rfl'⟩
  have F' : FnOk X.prog X.w X.K X.mg X.base CX0 1 L.m_Row_eq fd ["self", "other"] (L2.spEq (RRow L.c_Row)) :=
    ⟨fun vs H Q E h => F.len vs H Q E (imp vs H Q E h), fun A outer s H args us vs Q E hr he hb hv h => F.run A outer s H args us vs Q E hr he hb hv (imp vs H Q E h)⟩
  exact L2.eqG_ins (E := E0) F' c.me.at_ c.me.fn b pass0
theorem mon_it {X : Cx} {L : LA} (T : LX X.K X.mg L) : L2.Mon (DIt X.K L.c_Row) := L2.Mon.or L2.mon_flat (L2.Mon.or (L2.mon_list L2.mon_flat) (L2.Mon.or (L2.mon_list (L2.mon_tup L2.mon_flat)) (eqG_row T).2))
theorem eqG_it {X : Cx} {L : LA} (T : LX X.K X.mg L) : L2.EqG X 2 (DIt X.K L.c_Row) :=
  L2.EqG.or (L2.eqG_flat.mono (by decide)) (L2.EqG.or ((L2.eqG_list L2.mon_flat L2.eqG_flat).mono (by decide)) (L2.EqG.or (L2.eqG_list (L2.mon_tup L2.mon_flat) (L2.eqG_tup L2.mon_flat L2.eqG_flat)) ((eqG_row T).1.mono (by decide))))
theorem op_neSh {X : Cx} {L : LA} (T : LX X.K X.mg L) (hr : Room 3 X.A) : OpR X (compareOp .NotEq) (rNeL (DIt X.K L.c_Row)) := op_neL (mon_it T) (eqG_it T) hr
theorem op_neShs {X : Cx} {L : LA} (T : LX X.K X.mg L) (hr : Room 4 X.A) : OpR X (compareOp .NotEq) (rNeL (DSh X.K L.c_Row)) := op_neL (L2.mon_list (mon_it T)) (L2.eqG_list (mon_it T) (eqG_it T)) hr
theorem op_eqSh {X : Cx} {L : LA} (T : LX X.K X.mg L) (hr : Room 3 X.A) : OpR X (compareOp .Eq) (L2.rEqG (DSh X.K L.c_Row)) := L2.op_eqG (L2.rcG_list (mon_it T) (eqG_it T)) hr
/-- x shows what is seen behind these words -/
def ShW (CR : Addr) (H : Hp) (x : V) (ts : List Tri) (st ph : Int) (ws : List Bool) : Prop := ∃ l a c r xs B bx, x = .ref l ∧ H l = some (.lst [.ref a, .bl (decide (plA ts st ph ws = List.replicate ts.length (("closed", 0) : StD))), .ref c, .int (ph + (ws.length : Int) * st), .ref r]) ∧
  H a = some (.lst xs) ∧ Sts H xs (plA ts st ph ws) ∧ H c = some (.lst (ws.map wV)) ∧ RowAt CR H r B bx ts st ph
theorem ShW.same {CR : Addr} {H H' : Hp} {x : V} {ts : List Tri} {st ph : Int} {ws : List Bool} (h : ShW CR H x ts st ph ws) (s : Same H H') : ShW CR H' x ts st ph ws := by
  obtain ⟨l, a, c, r, xs, B, bx, e, h1, h2, h3, h4, h5⟩ := h
  exact ⟨l, a, c, r, xs, B, bx, e, s _ _ h1, s _ _ h2, h3.same s, s _ _ h4, h5.nl (NL.of s)⟩
theorem ShW.fr {CR : Addr} {H H' : Hp} {l a c r B : Addr} {xs bx : List V} {ts : List Tri} {st ph : Int} {ws : List Bool} (nl : H l = none) (na : H a = none) (nc : H c = none) (h1 : H' l = some (.lst [.ref a, .bl (decide (plA ts st ph ws = List.replicate ts.length (("closed", 0) : StD))), .ref c, .int (ph + (ws.length : Int) * st), .ref r]))
    (h2 : H' a = some (.lst xs)) (h3 : Sts H' xs (plA ts st ph ws)) (h4 : H' c = some (.lst (ws.map wV))) (h5 : RowAt CR H' r B bx ts st ph) : ShW CR (Fr H H') (.ref l) ts st ph ws := by
  have n : NL H' (Fr H H') := fun b o e q => Fr.nol e q
  exact ⟨l, a, c, r, xs, B, bx, rfl, (Fr.new nl).trans h1, (Fr.new na).trans h2, h3.nl n, (Fr.new nc).trans h4, h5.nl n⟩
theorem flat_prs (H : Hp) : ∀ vs : List V, (∀ v ∈ vs, flatV v = true ∧ eqV v v = true) → L2.Prs L2.DFlat vs vs H
  | [], _ => .nil
  | v :: vs, h => .cons ⟨(h v (List.mem_cons_self ..)).1, (h v (List.mem_cons_self ..)).1, (h v (List.mem_cons_self ..)).2⟩ (flat_prs H vs fun u hu => h u (List.mem_cons_of_mem _ hu))
theorem words_prs (H : Hp) (ws : List Bool) : L2.Prs L2.DFlat (ws.map wV) (ws.map wV) H := flat_prs H _ fun v hv => by
  obtain ⟨b, _, rfl⟩ := List.mem_map.mp hv
  exact ⟨rfl, by simp [wV, eqV]⟩
theorem sts_prs {K : PySem.W.Frag} {H : Hp} : ∀ {xs ys : List V} {ss : List StD}, Sts H xs ss → Sts H ys ss → L2.Prs (L2.DTup K L2.DFlat) xs ys H
  | _, _, _, .nil, .nil => .nil
  | _, _, _, .cons ⟨a, e, h⟩ t, .cons ⟨b, e', h'⟩ t' => by
    subst e e'
    exact .cons ⟨a, b, _, _, rfl, rfl, SqT.of h, SqT.of h', flat_prs H _ fun v hv => by
      simp only [List.mem_cons, List.mem_nil_iff, or_false] at hv
      rcases hv with rfl | rfl
      · exact ⟨rfl, by simp [eqV]⟩
      · exact ⟨rfl, by simp [eqV]⟩⟩ (sts_prs t t')
theorem shW_eq {K : PySem.W.Frag} {CR : Addr} {H : Hp} {x y : V} {ts : List Tri} {st ph : Int} {ws : List Bool} (h : ShW CR H x ts st ph ws) (h' : ShW CR H y ts st ph ws) : DSh K CR x y H := by
  obtain ⟨l, a, c, r, xs, B, bx, rfl, h1, h2, h3, h4, h5⟩ := h
  obtain ⟨l', a', c', r', xs', B', bx', rfl, h1', h2', h3', h4', h5'⟩ := h'
  obtain ⟨dx, ho⟩ := h5.ob
  obtain ⟨dy, ho'⟩ := h5'.ob
  refine ⟨l, l', _, _, rfl, rfl, h1, h1', .cons (.inr (.inr (.inl ⟨a, a', _, _, rfl, rfl, h2, h2', sts_prs h3 h3'⟩))) (.cons (.inl ⟨rfl, rfl, by simp [eqV]⟩) (.cons (.inr (.inl ⟨c, c', _, _, rfl, rfl, h4, h4', words_prs H ws⟩)) (.cons (.inl ⟨rfl, rfl, by simp [eqV]⟩) (.cons (.inr (.inr (.inr ⟨r, r', dx, dy, _, _, rfl, rfl, ho, ho', B, B', bx, bx', ts, st, ph, h5, h5'⟩))) .nil))))⟩
def spWShown (CR C : Addr) : Sp := fun vs H Q _ => ∃ p av ts st ph ws, vs = [.ref p] ∧ PlV CR C av H p ts st ph ws ∧ ws.length ≤ 10000 ∧ ∀ l H', ShW CR (Fr H H') (.ref l) ts st ph ws → Same H H' → H l = none → Q (.ref l) H'
def spWDue (CR : Addr) : Sp := fun vs H Q _ => ∃ pa sp wl xs ts st ph ws, vs = [.ref pa, .ref wl] ∧ H pa = some (.tup [.ref sp, .int st, .int ph]) ∧ H sp = some (.lst xs) ∧ Brs H xs ts ∧ (∀ t ∈ ts, OkT t) ∧ ts.length ≤ 12 ∧ 1 ≤ st ∧ st ≤ 1000 ∧ 0 ≤ ph ∧ ph ≤ 1000000000000000000000000000000 ∧
  H wl = some (.lst (ws.map wV)) ∧ ws.length ≤ 10000 ∧ ∀ l H', ShW CR (Fr H H') (.ref l) ts st ph ws → (∀ a vs, H' l = some (.lst (.ref a :: vs)) → H a = none) → Same H H' → H l = none → Q (.ref l) H'
theorem plA_in {ts : List Tri} {st ph : Int} (ok : ∀ t ∈ ts, OkT t) (s0 : 1 ≤ st) (s1 : st ≤ 1000) (p0 : 0 ≤ ph) (p1 : ph ≤ 1000000000000000000000000000000) (ws : List Bool) : ∀ n : Nat, n ≤ 10000 → InS ts (plA ts st ph (ws.take n))
  | 0, _ => whole_in ts ok
  | n + 1, hn => by
    have ih := plA_in ok s0 s1 p0 p1 ws n (by omega)
    cases e : ws[n]? with
    | none =>
      rw [List.take_add_one, e]
      simpa using ih
    | some w =>
      have l := (List.getElem?_eq_some_iff.mp e).1
      rw [List.take_add_one, e]
      show InS ts (plA ts st ph (ws.take n ++ [w]))
      rw [plA_app, List.length_take, Nat.min_eq_left (by omega)]
      have m0 : 0 ≤ (n : Int) * st := Int.mul_nonneg (by omega) (by omega)
      have m1 : (n : Int) * st ≤ 10000 * 1000 := Int.mul_le_mul (by omega) s1 (by omega) (by decide)
      exact sntS_in ok ih (by omega) (by unfold tmX; omega)
section
variable {P : Program} {w : World} {K : PySem.W.Frag} {mg : Str → Option Value} {base : Heap} {L : LA}
abbrev N_wshown : List Str := ["_law_game"]
theorem sc_wshown : FnScope N_wshown ["_law_game"] (defScope st__law_shown) := ⟨rfl, rfl, rfl, by decide +kernel, rfl, by decide +kernel, by decide +kernel⟩
theorem fn_wshown (T : LX K mg L) {fd : FuncData} (F : Fun K "_law_shown" "_law_shown" st__law_shown L.f__law_shown fd) : FnOk P w K mg base CX0 5 L.f__law_shown fd ["_law_game"] (spWShown L.c_Row L.c_Playing) := by
  have G_Playingstatelist := ok_Playingstatelist (P := P) (w := w) (base := base) T
  have G_Playingiswhole := ok_Playingiswhole (P := P) (w := w) (base := base) T
  have G_Playinglog := ok_Playinglog (P := P) (w := w) (base := base) T
  have G_Playingnextrequest := ok_Playingnextrequest (P := P) (w := w) (base := base) T
  have G_Playingbaserow := ok_Playingbaserow (P := P) (w := w) (base := base) T
  have nd := sc_wshown.nd
  refine F.ok sc_wshown (fun vs H Q E h => ?_) (fun cdv A outer S H vs Q E hr h => ?_)
  · obtain ⟨p, av, ts, st, ph, ws, rfl, _⟩ := h
    rfl
  · obtain ⟨p, av, ts, st, ph, ws, rfl, Y, wl, k⟩ := h
    refine ⟨_, (pss_one (ps_ret (pe_lst (pa_cons (G_Playingstatelist.p_m0 T.cf_Playing.cl (hr.mono (by decide)) (pv 0)) (pa_cons (G_Playingiswhole.p_m0 T.cf_Playing.cl (hr.mono (by decide)) (pv 0)) (pa_cons (G_Playinglog.p_m0 T.cf_Playing.cl (hr.mono (by decide)) (pv 0)) (pa_cons (G_Playingnextrequest.p_m0 T.cf_Playing.cl (hr.mono (by decide)) (pv 0)) (pa_cons (G_Playingbaserow.p_m0 T.cf_Playing.cl (hr.mono (by decide)) (pv 0)) pa_nil)))))))), ?_⟩
    obtain ⟨dx, r0, aw, ah, hp⟩ := Y.ob
    refine ⟨_, rfl, p, dx, _, rfl, hp, plF_no _ _ _ (by decide +kernel) (by decide +kernel) (by decide +kernel), p, av, ts, st, ph, ws, rfl, Y, fun sl ys H1 hsl hys s1 nsl => ?_⟩
    have Y1 := Y.same s1
    refine ⟨_, rfl, p, dx, _, rfl, s1 _ _ hp, plF_no _ _ _ (by decide +kernel) (by decide +kernel) (by decide +kernel), p, _, ts, st, ph, ws, rfl, Y1, fun H2 s2 => ?_⟩
    have s12 := s1.trans s2
    have Y2 := Y.same s12
    refine ⟨_, rfl, p, dx, _, rfl, s12 _ _ hp, plF_no _ _ _ (by decide +kernel) (by decide +kernel) (by decide +kernel), p, _, ts, st, ph, ws, rfl, Y2, fun ll H3 hll s3 nll => ?_⟩
    have s13 := s12.trans s3
    have Y3 := Y.same s13
    refine ⟨_, rfl, p, dx, _, rfl, s13 _ _ hp, plF_no _ _ _ (by decide +kernel) (by decide +kernel) (by decide +kernel), p, _, ts, st, ph, ws, rfl, Y3, wl, ?_⟩
    refine ⟨_, rfl, p, dx, _, rfl, s13 _ _ hp, plF_no _ _ _ (by decide +kernel) (by decide +kernel) (by decide +kernel), p, _, ts, st, ph, ws, rfl, Y3, fun r B xs R => ⟨(by show 5 ≤ sizeLine; decide), fun a na => ?_⟩⟩
    have s4 := Same.upd (o := .lst [.ref sl, .bl (decide (plA ts st ph ws = List.replicate ts.length (("closed", 0) : StD))), .ref ll, .int (ph + (ws.length : Int) * st), .ref r]) na
    exact k a _ (ShW.fr (none_of s13 na) nsl (none_of s12 nll) upd_same (s4 _ _ (s3 _ _ (s2 _ _ hsl))) (((hys.same s2).same s3).same s4) (s4 _ _ hll) (R.nl (NL.of s4))) (s13.trans s4) (none_of s13 na)
theorem ok_wshown (T : LX K mg L) : Cal P w K mg base "_law_shown" 5 L.f__law_shown ["_law_game"] (spWShown L.c_Row L.c_Playing) := T.d__law_shown.cal fun fd F => fn_wshown T F
abbrev N_wdue : List Str := ["_law_parts", "_law_words_here", "_law_specs_here", "_law_step", "_law_early", "_law_whole", "_law_states", "_law_at", "_law_word"]
theorem sc_wdue : FnScope N_wdue ["_law_parts", "_law_words_here"] (defScope st__law_due) := ⟨rfl, rfl, rfl, by decide +kernel, rfl, by decide +kernel, by decide +kernel⟩
theorem fn_wdue (T : LX K mg L) {fd : FuncData} (F : Fun K "_law_due" "_law_due" st__law_due L.f__law_due fd) : FnOk P w K mg base CX0 7 L.f__law_due fd ["_law_parts", "_law_words_here"] (spWDue L.c_Row) := by
  have G_wbehind := ok_wbehind (P := P) (w := w) (base := base) T
  have nd := sc_wdue.nd
  refine F.ok sc_wdue (fun vs H Q E h => ?_) (fun cdv A outer S H vs Q E hr h => ?_)
  · obtain ⟨pa, sp, wl, xs, ts, st, ph, ws, rfl, _⟩ := h
    rfl
  · obtain ⟨pa, sp, wl, xs, ts, st, ph, ws, rfl, hpa, hsp, hb, ok, l12, s0, s1, p0, p1, hwl, wsl, k⟩ := h
    refine ⟨_, (pss_cons (ps_asg (pv 0) (pg_tup rfl (pgs_cons (pg_name (i := 2) nd rfl (Or.inl rfl)) (pgs_cons (pg_name (i := 3) nd rfl (Or.inl rfl)) (pgs_cons (pg_name (i := 4) nd rfl (Or.inl rfl)) pgs_nil)))))
       (pss_cons (ps_set (i := 5) nd rfl (Or.inl rfl) (pe_op op_rep (pe_lst (pa_cons (pe_tup (pa_cons pe_str (pa_cons pe_int pa_nil))) pa_nil)) (pe_callB call_len_seq (by rfl) T.b_len PySem.boot_len (pa_cons (pv 2) pa_nil))))
       (pss_cons (ps_set (i := 6) nd rfl (Or.inl rfl) (pv 5))
       (pss_cons (ps_for PassesOwn.never rfl (pi_enum (by rfl) T.b_enumerate (pa_cons (pv 1) pa_nil)) (pg_tup rfl (pgs_cons (pg_name (i := 7) nd rfl (Or.inl rfl)) (pgs_cons (pg_name (i := 8) nd rfl (Or.inl rfl)) pgs_nil))) (pss_one (ps_set (i := 6) nd rfl (Or.inl rfl) (pe_ix (r := rIxT K) ix_tup (pe_c G_wbehind (hr.mono (by decide)) rfl (pa_cons (pv 2) (pa_cons (pv 6) (pa_cons (pe_op op_add (pv 4) (pe_op op_mulW (pv 3) (pv 7))) (pa_cons (pv 8) pa_nil))))) pe_int (fun _ _ => rfl)))))
       (pss_one (ps_ret (pe_lst (pa_cons (pv 6) (pa_cons (pe_cmpR (op_eqD hr.units) (pv 6) (pv 5) (nomark _)) (pa_cons (pe_callTy call_list_of (by rfl) T.b_list (by decide +kernel) (pa_cons (pv 1) pa_nil)) (pa_cons (pe_op op_add (pv 4) (pe_op op_mulW (pv 3) (pe_callB call_len_seq (by rfl) T.b_len PySem.boot_len (pa_cons (pv 1) pa_nil)))) (pa_cons (pe_mkRow_p_phase T (hr.mono (by decide)) rfl (pa_cons (pv 2) (pa_cons (pv 3) pa_nil)) (pk_cons (pv 4) pk_nil)) pa_nil)))))))))))), ?_⟩
    have xl := hb.len
    refine ⟨_, rfl, pa, _, rfl, SqT.of hpa, rfl, _, _, rfl, _, _, rfl, _, _, rfl, rfl, ?_⟩
    refine ⟨(by show 2 ≤ sizeLine; decide), fun t ht => ⟨(by show 1 ≤ sizeLine; decide), fun l hl => ?_⟩⟩
    have z1 := Same.upd (o := .tup [.str "closed", .int 0]) ht
    have z2 := z1.trans (Same.upd (o := .lst [.ref t]) hl)
    refine ⟨_, rfl, sp, _, rfl, .inl (SqL.of (z2 _ _ hsp)), l, (xs.length : Nat), [.ref t], rfl, rfl, upd_same, by omega, by omega, small2 (by rw [Int.toNat_natCast]; show 1 * xs.length ≤ 100000; omega), fun r hr => ?_⟩
    have z3 := z2.trans (Same.upd (o := .lst (List.replicate (xs.length : Int).toNat [V.ref t]).flatten) hr)
    have ht3 : (upd (upd (upd H t (.tup [.str "closed", .int 0])) l (.lst [.ref t])) r (.lst (List.replicate (xs.length : Int).toNat [V.ref t]).flatten)) t = some (.tup [.str "closed", .int 0]) := by
      have h1 : (upd (upd H t (.tup [.str "closed", .int 0])) l (.lst [.ref t])) t = some (.tup [.str "closed", .int 0]) := (Same.upd hl) _ _ upd_same
      rw [upd_ne (ne_of_none h1 hr)]
      exact h1
    have hr3 : (upd (upd (upd H t (.tup [.str "closed", .int 0])) l (.lst [.ref t])) r (.lst (List.replicate (xs.length : Int).toNat [V.ref t]).flatten)) r = some (.lst (List.replicate ts.length (V.ref t))) := by
      rw [upd_same, Int.toNat_natCast, List.flatten_replicate_singleton, xl]
    have hz3 := sts_rep (d := ("closed", 0)) ht3 ts.length
    have nr := none_of z2 hr
    generalize upd (upd (upd H t (.tup [.str "closed", .int 0])) l (.lst [.ref t])) r (.lst (List.replicate (xs.length : Int).toNat [V.ref t]).flatten) = H3 at z3 hr3 hz3 ht3
    refine ⟨_, rfl, ?_⟩
    have hsp3 := z3 _ _ hsp
    have hb3 := hb.nl (NL.of z3)
    have hwl3 := z3 _ _ hwl
    refine ⟨_, rfl, wl, _, rfl, SqL.of hwl3, for_enum (K := K) (a := wl) (xs := ws.map wV) (fun i σ H4 => ∃ a ys, ∃ u v : Option V, σ = [some (.ref pa), some (.ref wl), some (.ref sp), some (.int st), some (.int ph), some (.ref r), some (.ref a), u, v] ∧ H4 a = some (.lst ys) ∧ Sts H4 ys (plA ts st ph (ws.take i)) ∧ Same H3 H4 ∧ H a = none)
      ⟨r, _, none, none, rfl, hr3, hz3, Same.refl H3, nr⟩ (fun i σ H4 _ ⟨_, _, _, _, _, _, _, s4, _⟩ => SqL.of (s4 _ _ hwl3)) ?_ ?_⟩
    · rintro i x T' σ H4 hx ⟨a, ys, u, v, rfl, ha, hys, s4, _⟩ hT
      rw [List.getElem?_map] at hx
      obtain ⟨up, eu, rfl⟩ := Option.map_eq_some_iff.mp hx
      have iw := (List.getElem?_eq_some_iff.mp eu).1
      have sT := Same.upd (o := .tup [.int (i : Nat), wV up]) hT
      have s3T := s4.trans sT
      refine ⟨T', _, rfl, SqT.of upd_same, rfl, _, _, rfl, _, _, rfl, rfl, ?_⟩
      refine ⟨_, rfl, _, rfl, _, rfl, _, rfl, _, rfl, _, _, rfl, rfl, wide_mul (a := 20) (b := 100) (Nat.lt_of_le_of_lt (show st.natAbs ≤ 1000 by omega) (by decide)) (Nat.lt_of_le_of_lt (show ((i : Nat) : Int).natAbs ≤ 10000 by omega) (by decide)) (by decide) (by decide) (by decide), _, _, rfl, rfl, _, rfl, ?_⟩
      have et : ph + st * (i : Int) = ph + (((ws.take i).length : Nat) : Int) * st := by
        rw [List.length_take, Nat.min_eq_left (by omega), Int.mul_comm]
      have nn : 0 ≤ (i : Int) * st := Int.mul_nonneg (by omega) (by omega)
      have mm : (i : Int) * st ≤ 10000 * 1000 := Int.mul_le_mul (by omega) s1 (by omega) (by decide)
      refine ⟨sp, a, xs, ys, ts, plA ts st ph (ws.take i), ph + st * (i : Int), up, rfl, s3T _ _ hsp3, hb3.nl (NL.of s3T), sT _ _ ha, hys.same sT, plA_in ok s0 s1 p0 p1 ws i (by omega), by omega, fun q x l2 ys2 H5 hq htl hl2 hs2 s5 nq nl2 => ?_⟩
      refine ⟨q, _, 0, .ref l2, rfl, rfl, SqT.of hq, rfl, ?_⟩
      rw [et] at hs2
      refine ⟨l2, ys2, _, _, rfl, hl2, ?_, s3T.trans s5, none_of (z3.trans s3T) nl2⟩
      rw [List.take_add_one, eu]
      show Sts H5 ys2 (plA ts st ph (ws.take i ++ [up]))
      rw [plA_app]
      exact hs2
    · rintro σ H4 ⟨a, ys, u, v, rfl, ha, hys, s4, nwa⟩
      rw [List.length_map, List.take_length] at hys
      have hr4 := s4 _ _ hr3
      have hz4 := hz3.same s4
      have cw : ∀ s ∈ List.replicate ts.length (("closed", 0) : StD), okW s := fun s h => by rw [List.eq_of_mem_replicate h]; exact .inl rfl
      refine ⟨_, rfl, _, rfl, _, rfl, _, _, Sts.dpl ha hys, Sts.dpl hr4 hz4, shSts (plA_ok ts st ph ws).2, shSts cw, ?_⟩
      rw [eqSts]
      have hwl4 := s4 _ _ hwl3
      refine ⟨_, rfl, wl, _, rfl, .inl (SqL.of hwl4), fun c hc => ?_⟩
      have s5 := Same.upd (o := .lst (ws.map wV)) hc
      have s35 := s4.trans s5
      have nn : 0 ≤ (ws.length : Int) * st := Int.mul_nonneg (by omega) (by omega)
      refine ⟨_, rfl, _, rfl, _, rfl, wl, _, rfl, .inl (SqL.of (s5 _ _ hwl4)), _, _, rfl, rfl, wide_mul (a := 20) (b := 100) (Nat.lt_of_le_of_lt (show st.natAbs ≤ 1000 by omega) (by decide)) (Nat.lt_of_le_of_lt (show (((ws.map wV).length : Nat) : Int).natAbs ≤ 10000 by rw [List.length_map]; omega) (by decide)) (by decide) (by decide) (by decide), _, _, rfl, rfl, ?_⟩
      rw [List.length_map]
      refine ⟨_, rfl, _, rfl, _, rfl, rfl, rfl, ?_⟩
      refine row_made (xs := xs) (ts := ts) (s35 _ _ hsp3) (hb3.nl (NL.of s35)) ok l12 ⟨by omega, by omega, by omega, by omega⟩ fun rw' B H6 R6 s6 nr6 => ⟨(by show 5 ≤ sizeLine; decide), fun q nq => ?_⟩
      have s7 := Same.upd (o := .lst [.ref a, .bl (decide (plA ts st ph ws = List.replicate ts.length (("closed", 0) : StD))), .ref c, .int (ph + st * (ws.length : Int)), .ref rw']) nq
      have s47 := s5.trans (s6.trans s7)
      refine k q _ (ShW.fr (none_of ((z3.trans s35).trans s6) nq) nwa (none_of (z3.trans s4) hc) ?_ (s47 _ _ ha) (hys.same s47) (s7 _ _ (s6 _ _ upd_same)) (R6.nl (NL.of s7))) (fun a' vs e => by rw [upd_same] at e; cases e; exact nwa) ((z3.trans s35).trans (s6.trans s7)) (none_of ((z3.trans s35).trans s6) nq)
      rw [Int.mul_comm (ws.length : Int) st]
      exact upd_same
theorem ok_wdue (T : LX K mg L) : Cal P w K mg base "_law_due" 7 L.f__law_due ["_law_parts", "_law_words_here"] (spWDue L.c_Row) := T.d__law_due.cal fun fd F => fn_wdue T F
end
/-! ### k56: == of Playings, also against other things -/
abbrev PDat := RDat × List Bool
inductive EqPl (CR C : Addr) (H : Hp) (d : PDat) : V → Bool → Prop where
  | pl {q : Addr} {bv : AvS} {us : List Tri} {st ph : Int} {vs : List Bool} (Y : PlV CR C bv H q us st ph vs) : EqPl CR C H d (.ref q) (decide (d = ((us, st, ph), vs)))
  | non : EqPl CR C H d .non false
  | int (i : Int) : EqPl CR C H d (.int i) false
  | str (x : Str) : EqPl CR C H d (.str x) false
  | lst {a : Addr} {xs : List V} (e : H a = some (.lst xs)) : EqPl CR C H d (.ref a) false
  | row {q U : Addr} {ys : List V} {us : List Tri} {st ph : Int} (R : RowAt CR H q U ys us st ph) : EqPl CR C H d (.ref q) false
def spPEqA (CR C : Addr) : Sp := fun vs H Q _ => ∃ p av ts st ph ws v b, vs = [.ref p, v] ∧ PlV CR C av H p ts st ph ws ∧ EqPl CR C H ((ts, st, ph), ws) v b ∧ Q (.bl b) H
theorem notF {K : PySem.W.Frag} {C C2 : Addr} (h : PySem.W.mroIn K C2 (.ref C) = some false) : PySem.W.notFirst K C (.ref C2) = true := Bool.or_eq_true_iff.mpr (.inr (beq_iff_eq.mpr h))
/-- == of an own object, also against an instance of another class -/
def rOwnEq2 (C C2 : Addr) (sp : Sp) (E : XK) : R2 := fun x y H Q => ∃ p dx fs, x = .ref p ∧ H p = some (.ins C dx fs) ∧ ((∃ t, TyN H C y t) ∨ ∃ q dy gs, y = .ref q ∧ H q = some (.ins C2 dy gs)) ∧ sp [.ref p, y] H (BlQ Q _root_.id) E
theorem Met.op_eq2 {X : Cx} {C C2 : Addr} {k : Nat} {f : Addr} {ps : List Str} {sp : Sp} (c : Met X.prog X.w X.K X.mg X.base C "__eq__" k f ps sp) (hr : Room k X.A) (nf : PySem.W.notFirst X.K C (.ref C2) = true) : OpR X (compareOp .Eq) (rOwnEq2 C C2 sp E0) := by
  obtain ⟨fd, F, b⟩ := c.ex
  rintro pins s σ H x y v u Q I rx ry ⟨p, dx, fs, rfl, hp, ty, q⟩
  rcases ty with ⟨t, ty⟩ | ⟨r, dy, gs, rfl, hq⟩
  · exact op_own_eq F hr c.me.at_ c.me.fn b pass0 pins s σ H _ y v u Q I rx ry ⟨p, dx, fs, t, rfl, hp, ty, q⟩
  · cases rx
    cases ry
    obtain ⟨od, J⟩ := inst_of I hp
    obtain ⟨od', J'⟩ := inst_of I hq
    obtain ⟨m, hF⟩ := I.fr
    show wpAny (model X.prog X.w) X.A (richCompare .Eq (.ref p) (.ref r)) (EP X pins σ Q) X.xe s
    refine PySem.W.cmp_K (op := .Eq) hr.units0 hF I.ok.mod.kin J J'.type nf c.me.at_ c.me.fn (thn (run_at F hr rfl b pass0 I (.cons rr (.cons rr .nil)) q) fun z s' hh => ?_)
    obtain ⟨z', H', I', rz, b', ez, q'⟩ := hh
    subst ez
    cases rz
    exact ⟨.bl b', H', I', rfl, q'⟩
theorem EqPl.ty {CR C : Addr} {H : Hp} {d : PDat} {v : V} {b : Bool} (h : EqPl CR C H d v b) : (∃ t, TyN H C v t) ∨ ∃ q dy gs, v = .ref q ∧ H q = some (.ins CR dy gs) := by
  cases h with
  | pl Y =>
    obtain ⟨dx, r, aw, ah, hp⟩ := Y.ob
    exact .inl ⟨_, .ins hp⟩
  | non => exact .inl ⟨_, .non⟩
  | int i => exact .inl ⟨_, .int i⟩
  | str x => exact .inl ⟨_, .str x⟩
  | lst e => exact .inl ⟨_, .lst e⟩
  | row R =>
    obtain ⟨dx, hq⟩ := R.ob
    exact .inr ⟨_, _, _, rfl, hq⟩
theorem eq_pl {CR C : Addr} {H : Hp} {p q : Addr} {av bv : AvS} {ts us : List Tri} {st ph st' ph' : Int} {ws vs : List Bool} {Q : VK} (Y : PlV CR C av H p ts st ph ws) (Y' : PlV CR C bv H q us st' ph' vs) (k : Q (.bl (decide ((((ts, st, ph), ws) : PDat) = ((us, st', ph'), vs)))) H) : rOwnEq C (spPEqA CR C) E0 _root_.id (.ref p) (.ref q) H Q := by
  obtain ⟨dx, r, aw, ah, hp⟩ := Y.ob
  obtain ⟨dy, r', aw', ah', hq⟩ := Y'.ob
  exact ⟨p, dx, _, _, rfl, hp, .ins hq, p, av, ts, st, ph, ws, _, _, rfl, Y, .pl Y', _, rfl, k⟩
theorem ne_pl {CR C : Addr} {H : Hp} {p q : Addr} {av bv : AvS} {ts us : List Tri} {st ph st' ph' : Int} {ws vs : List Bool} {Q : VK} (Y : PlV CR C av H p ts st ph ws) (Y' : PlV CR C bv H q us st' ph' vs) (k : Q (.bl (!decide ((((ts, st, ph), ws) : PDat) = ((us, st', ph'), vs)))) H) : rOwnEq C (spPEqA CR C) E0 Bool.not (.ref p) (.ref q) H Q := by
  obtain ⟨dx, r, aw, ah, hp⟩ := Y.ob
  obtain ⟨dy, r', aw', ah', hq⟩ := Y'.ob
  exact ⟨p, dx, _, _, rfl, hp, .ins hq, p, av, ts, st, ph, ws, _, _, rfl, Y, .pl Y', _, rfl, k⟩
theorem eq_pl2 {CR C : Addr} {H : Hp} {p : Addr} {av : AvS} {ts : List Tri} {st ph : Int} {ws : List Bool} {v : V} {b : Bool} {Q : VK} (Y : PlV CR C av H p ts st ph ws) (h : EqPl CR C H ((ts, st, ph), ws) v b) (k : Q (.bl b) H) : rOwnEq2 C CR (spPEqA CR C) E0 (.ref p) v H Q := by
  obtain ⟨dx, r, aw, ah, hp⟩ := Y.ob
  exact ⟨p, dx, _, rfl, hp, h.ty, p, av, ts, st, ph, ws, v, b, rfl, Y, h, b, rfl, k⟩
section
variable {P : Program} {w : World} {K : PySem.W.Frag} {mg : Str → Option Value} {base : Heap} {L : LA}
abbrev N_Playingeq : List Str := ["self", "other"]
theorem sc_Playingeq : FnScope N_Playingeq ["self", "other"] (defScope st_Playing_eq) := ⟨rfl, rfl, rfl, by decide +kernel, rfl, by decide +kernel, by decide +kernel⟩
theorem fn_Playingeq (T : LX K mg L) {fd : FuncData} (F : Fun K "__eq__" "Playing.__eq__" st_Playing_eq L.m_Playing_eq fd) : FnOk P w K mg base CX0 3 L.m_Playing_eq fd ["self", "other"] (spPEqA L.c_Row L.c_Playing) := by
  have G_Roweq := ok_Roweq (P := P) (w := w) (base := base) T
  have M_Playing := T.gc_Playing
  have nd := sc_Playingeq.nd
  refine F.ok sc_Playingeq (fun vs H Q E h => ?_) (fun cdv A outer S H vs Q E hr h => ?_)
  · obtain ⟨p, av, ts, st, ph, ws, v, b, rfl, _⟩ := h
    rfl
  · obtain ⟨p, av, ts, st, ph, ws, v, b, rfl, ⟨r, B, aw, ah, xs, ls, Y, n⟩, h, k⟩ := h
    refine ⟨_, (pss_one (ps_ret (pe_and (pe_callB call_isi (by rfl) T.b_isinstance (by decide +kernel) (pa_cons (pv 1) (pa_cons (pe_glob rfl M_Playing rr) pa_nil))) (pe_and (pe_cmpR (G_Roweq.op_eq (hr.mono (by decide))) (pe_fld (pv 0) rfl) (pe_fld (pv 1) rfl) (nomark _)) (pe_one (pe_cmpR (op_eqD hr.units) (pe_fld (pv 0) rfl) (pe_fld (pv 1) rfl) (nomark _))))))), ?_⟩
    obtain ⟨dx, hp⟩ := Y.ob
    cases h with
    | non => exact ⟨_, rfl, _, .ref L.c_Playing, _, _, _, rfl, .own L.c_Playing, Kd.non.ty, T.cf_Playing.kitT (H := H) .non, _, rfl, iteF k⟩
    | int i => exact ⟨_, rfl, _, .ref L.c_Playing, _, _, _, rfl, .own L.c_Playing, (Kd.int i).ty, T.cf_Playing.kitT (H := H) (.int i), _, rfl, iteF k⟩
    | str x => exact ⟨_, rfl, _, .ref L.c_Playing, _, _, _, rfl, .own L.c_Playing, (Kd.str x).ty, T.cf_Playing.kitT (H := H) (.str x), _, rfl, iteF k⟩
    | lst e => exact ⟨_, rfl, _, .ref L.c_Playing, _, _, _, rfl, .own L.c_Playing, (Kd.lst e).ty, T.cf_Playing.kitT (.lst e), _, rfl, iteF k⟩
    | row R =>
      obtain ⟨dy, hq⟩ := R.ob
      exact ⟨_, rfl, _, .ref L.c_Playing, _, _, _, rfl, .own L.c_Playing, T.cf_Row.tyR hq, (T.cf_Playing.kitC T.mo_Row_Playing).1, _, rfl, iteF k⟩
    | @pl q bv us st' ph' vs Y' =>
      obtain ⟨r2, B2, aw2, ah2, xs2, ls2, Y2, n2⟩ := Y'
      obtain ⟨dx2, hq⟩ := Y2.ob
      refine ⟨_, rfl, _, .ref L.c_Playing, _, _, _, rfl, .own L.c_Playing, T.cf_Playing.tyR hq, if_pos (beq_self_eq_true _), _, rfl, iteT ?_⟩
      refine ⟨_, rfl, p, L.c_Playing, dx, _, _, rfl, hp, T.cf_Playing.cl, T.nf_Playing_row, plF_r _ _ _, _, rfl, q, L.c_Playing, dx2, _, _, rfl, hq, T.cf_Playing.cl, T.nf_Playing_row, plF_r _ _ _, eq_row Y.row (.row Y2.row) ⟨_, rfl, ?_⟩⟩
      have fin : ∀ c : Bool, decide ((((ts, st, ph), ws) : PDat) = ((us, st', ph'), vs)) = c → Q (.bl c) H := fun c e => by rw [← e]; exact k
      refine ite2 (fun c1 => ?_) (fun c1 => ?_)
      · have c1' : (ts, st, ph) = (us, st', ph') := of_decide_eq_true c1
        refine ⟨_, rfl, p, L.c_Playing, dx, _, _, rfl, hp, T.cf_Playing.cl, T.nf_Playing_words, plF_w _ _ _, _, rfl, q, L.c_Playing, dx2, _, _, rfl, hq, T.cf_Playing.cl, T.nf_Playing_words, plF_w _ _ _, _, _, Dp.ws Y.hw, Dp.ws Y2.hw, ws_sh _, ws_sh _, ?_⟩
        rw [ws_eq]
        refine fin _ ?_
        rw [c1', Bool.eq_iff_iff]
        simp
      · refine fin false (decide_eq_false fun e => c1 (decide_eq_true ?_))
        exact congrArg (fun z : PDat => z.1) e
theorem ok_Playingeq (T : LX K mg L) : Met P w K mg base L.c_Playing "__eq__" 3 L.m_Playing_eq ["self", "other"] (spPEqA L.c_Row L.c_Playing) := T.mm_Playing_eq.met fun fd F => fn_Playingeq T F
end
/-! ### several Playings: what they leave as it is -/
abbrev OutP (n : Nat) (p : Nat → Addr) (ow : Nat → AvS) (b : Addr) : Prop := Fam.out n ow b ∧ ∀ i, i < n → b ≠ p i
def Stp (n : Nat) (p : Nat → Addr) (H : Hp) (ow : Nat → AvS) (n' : Nat) (p' : Nat → Addr) (H' : Hp) (ow' : Nat → AvS) : Prop := ∀ b o, H b = some o → OutP n p ow b → H' b = some o ∧ OutP n' p' ow' b
theorem Stp.trans {n n' n2 : Nat} {p p' p2 : Nat → Addr} {H H' H2 : Hp} {ow ow' ow2 : Nat → AvS} (a : Stp n p H ow n' p' H' ow') (b : Stp n' p' H' ow' n2 p2 H2 ow2) : Stp n p H ow n2 p2 H2 ow2 := fun c o e q => by
  obtain ⟨e', q'⟩ := a c o e q
  exact b c o e' q'
theorem Stp.same {n : Nat} {p : Nat → Addr} {H H' : Hp} {ow : Nat → AvS} (s : Same H H') : Stp n p H ow n p H' ow := fun b o e q => ⟨s b o e, q⟩
theorem Stp.all {p p' : Nat → Addr} {H H' : Hp} {ow ow' : Nat → AvS} {n' : Nat} (a : Stp 0 p H ow n' p' H' ow') : Same H H' := fun b o e => (a b o e ⟨fun i hi => absurd hi (Nat.not_lt_zero _), fun i hi => absurd hi (Nat.not_lt_zero _)⟩).1
section
variable {CR C : Addr} {H H' : Hp} {n : Nat} {p : Nat → Addr} {ts : List Tri} {st : Int} {ph : Nat → Int} {ws : Nat → List Bool} {ow : Nat → AvS}
theorem Fam.freshP (F : Fam CR C H n p ts st ph ws ow) {b : Addr} (h : H b = none) : OutP n p ow b := ⟨F.fresh h, fun i hi e => by
  obtain ⟨dx, r, aw, ah, z⟩ := (F.pl i hi).ob
  rw [← e, h] at z
  cases z⟩
theorem Fam.req1 (F : Fam CR C H n p ts st ph ws ow) {i : Nat} (hi : i < n) {us : List Bool} (Y : PlV CR C (oth H (ow i)) H' (p i) ts st (ph i) us) (k : KeV (oth H (ow i)) H H') :
    ∃ ow' : Nat → AvS, Fam CR C H' n p ts st ph (putF' ws i us) ow' ∧ Stp n p H ow n p H' ow' := by
  obtain ⟨ow', F', q⟩ := F.req hi Y k
  exact ⟨ow', F', fun b o e x => ⟨k b o e (.inl ⟨x.1 i hi, by rw [e]; exact fun z => nomatch z⟩), q b (by rw [e]; exact fun z => nomatch z) x.1, x.2⟩⟩
theorem Fam.undo1 (F : Fam CR C H n p ts st ph ws ow) {i : Nat} (hi : i < n) {us : List Bool} (Y : PlV CR C (oth H (ow i)) H' (p i) ts st (ph i) us) (k : Kp (p i) H H') :
    ∃ ow' : Nat → AvS, Fam CR C H' n p ts st ph (putF' ws i us) ow' ∧ Stp n p H ow n p H' ow' := by
  obtain ⟨ow', F', q⟩ := F.undo hi Y k
  exact ⟨ow', F', fun b o e x => ⟨k b o (x.2 i hi) e, q b (by rw [e]; exact fun z => nomatch z) x.1, x.2⟩⟩
theorem Fam.add1 (F : Fam CR C H n p ts st ph ws ow) (s : Same H H') {q : Addr} {ph' : Int} {us : List Bool} (Y : PlV CR C (AvS.dom H) H' q ts st ph' us) (nq : H q = none) :
    ∃ ow' : Nat → AvS, Fam CR C H' (n + 1) (putF' p n q) ts st (putF' ph n ph') (putF' ws n us) ow' ∧ Stp n p H ow (n + 1) (putF' p n q) H' ow' := by
  obtain ⟨ow', F', k⟩ := F.add (F.same s) Y nq
  refine ⟨ow', F', fun b o e x => ⟨s b o e, k b (by rw [e]; exact fun z => nomatch z) x.1, fun i hi => ?_⟩⟩
  by_cases c : i = n
  · subst c
    rw [putF'_same]
    intro z
    rw [z, nq] at e
    cases e
  · rw [putF'_ne c]
    exact x.2 i (by omega)
end
theorem keV_dom {H H' : Hp} {l : Addr} (k : KeV (AvS.add l (AvS.dom H)) H H') : Same H H' := fun b o e => k b o e (.inl (AvS.tl (AvS.of e)))
theorem putF'_const {α : Type} (a : α) (i : Nat) : putF' (fun _ => a) i a = fun _ => a := funext fun j => by
  unfold putF'
  split <;> rfl
section
variable {CR C : Addr} {H H' : Hp} {n : Nat} {p : Nat → Addr} {ts : List Tri} {st ph : Int} {ws : Nat → List Bool} {ow : Nat → AvS}
/-- all n Playings of one row, with its phase -/
abbrev Fm1 (CR C : Addr) (H : Hp) (n : Nat) (p : Nat → Addr) (ts : List Tri) (st ph : Int) (ws : Nat → List Bool) (ow : Nat → AvS) : Prop := Fam CR C H n p ts st (fun _ => ph) ws ow
theorem Fam.req2 (F : Fm1 CR C H n p ts st ph ws ow) {i : Nat} (hi : i < n) {us : List Bool} (Y : PlV CR C (oth H (ow i)) H' (p i) ts st ph us) (k : KeV (oth H (ow i)) H H') :
    ∃ ws' ow', Fm1 CR C H' n p ts st ph ws' ow' ∧ ws' i = us ∧ (∀ j, j ≠ i → ws' j = ws j) ∧ Stp n p H ow n p H' ow' := by
  obtain ⟨ow', F', q⟩ := Fam.req1 F hi Y k
  exact ⟨_, ow', F', putF'_same, fun j hj => putF'_ne hj, q⟩
theorem Fam.undo2 (F : Fm1 CR C H n p ts st ph ws ow) {i : Nat} (hi : i < n) {us : List Bool} (Y : PlV CR C (oth H (ow i)) H' (p i) ts st ph us) (k : Kp (p i) H H') :
    ∃ ws' ow', Fm1 CR C H' n p ts st ph ws' ow' ∧ ws' i = us ∧ (∀ j, j ≠ i → ws' j = ws j) ∧ Stp n p H ow n p H' ow' := by
  obtain ⟨ow', F', q⟩ := Fam.undo1 F hi Y k
  exact ⟨_, ow', F', putF'_same, fun j hj => putF'_ne hj, q⟩
theorem Fam.add2 (F : Fm1 CR C H n p ts st ph ws ow) (s : Same H H') {q : Addr} {us : List Bool} (Y : PlV CR C (AvS.dom H) H' q ts st ph us) (nq : H q = none) :
    ∃ p' ws' ow', Fm1 CR C H' (n + 1) p' ts st ph ws' ow' ∧ p' n = q ∧ ws' n = us ∧ (∀ j, j < n → p' j = p j ∧ ws' j = ws j) ∧ Stp n p H ow (n + 1) p' H' ow' := by
  obtain ⟨ow', F', k⟩ := Fam.add1 F s Y nq
  rw [putF'_const] at F'
  exact ⟨_, _, ow', F', putF'_same, putF'_same, fun j hj => ⟨putF'_ne (by omega), putF'_ne (by omega)⟩, k⟩
end
section
variable {CR C : Addr} {H H' : Hp} {n : Nat} {p : Nat → Addr} {ts : List Tri} {st : Int} {ph : Nat → Int} {ws : Nat → List Bool} {ow : Nat → AvS}
theorem Fam.add3 (F : Fam CR C H n p ts st ph ws ow) (s : Same H H') {q : Addr} {h : Int} {us : List Bool} (Y : PlV CR C (AvS.dom H) H' q ts st h us) (nq : H q = none) :
    ∃ p' ph' ws' ow', Fam CR C H' (n + 1) p' ts st ph' ws' ow' ∧ p' n = q ∧ ph' n = h ∧ ws' n = us ∧ (∀ j, j < n → p' j = p j ∧ ph' j = ph j ∧ ws' j = ws j) ∧ Stp n p H ow (n + 1) p' H' ow' := by
  obtain ⟨ow', F', k⟩ := Fam.add1 F s Y nq
  exact ⟨_, _, _, ow', F', putF'_same, putF'_same, putF'_same, fun j hj => ⟨putF'_ne (by omega), putF'_ne (by omega), putF'_ne (by omega)⟩, k⟩
theorem Fam.req3 (F : Fam CR C H n p ts st ph ws ow) {i : Nat} (hi : i < n) {us : List Bool} (Y : PlV CR C (oth H (ow i)) H' (p i) ts st (ph i) us) (k : KeV (oth H (ow i)) H H') :
    ∃ ws' ow', Fam CR C H' n p ts st ph ws' ow' ∧ ws' i = us ∧ (∀ j, j ≠ i → ws' j = ws j) ∧ Stp n p H ow n p H' ow' := by
  obtain ⟨ow', F', q⟩ := Fam.req1 F hi Y k
  exact ⟨_, ow', F', putF'_same, fun j hj => putF'_ne hj, q⟩
end
/-! ### k54: values that are no rows and no logs -/
theorem tabs_same {T : List (Addr × Str)} {H H' : Hp} (t : LamX.Tabs T H) (s : Same H H') : LamX.Tabs T H' := t.ext s
theorem ext_same {H H' : Hp} (s : Same H H') : LamX.ExtN H H' := .of s
theorem TabS.nx {H H' : Hp} {P : Addr} {q : Str} (t : LamX.TabS H P q) (n : ∀ b o, H b = some o → (∀ xs, o ≠ .lst xs) → (∀ C dx fs, o ≠ .ins C dx fs) → H' b = some o) : LamX.TabS H' P q := by
  obtain ⟨ps, h1, h2, h3⟩ := t
  refine ⟨ps, n _ _ h1 (fun _ z => nomatch z) (fun _ _ _ z => nomatch z), h2, fun pos cv hc => ?_⟩
  obtain ⟨c, e1, e2⟩ := h3 pos cv hc
  exact ⟨c, e1, n _ _ e2 (fun _ z => by unfold LamX.CodeO at z; cases z) (fun _ _ _ z => by unfold LamX.CodeO at z; cases z)⟩
theorem Tabs.nx {T : List (Addr × Str)} {H H' : Hp} (t : LamX.Tabs T H) (n : ∀ b o, H b = some o → (∀ xs, o ≠ .lst xs) → (∀ C dx fs, o ≠ .ins C dx fs) → H' b = some o) : LamX.Tabs T H' := fun p hp => TabS.nx (t p hp) n
theorem Tabs.nl {T : List (Addr × Str)} {H H' : Hp} (t : LamX.Tabs T H) (n : NL H H') : LamX.Tabs T H' := Tabs.nx t fun b o e h _ => n b o e h
theorem Tabs.kp {T : List (Addr × Str)} {H H' : Hp} {p : Addr} (t : LamX.Tabs T H) (k : Kp p H H') (hp : ∃ C dx fs, H p = some (.ins C dx fs)) : LamX.Tabs T H' := Tabs.nx t fun b o e _ h => by
  obtain ⟨C, dx, fs, hp⟩ := hp
  exact k b o (fun z => by rw [z, hp] at e; cases e; exact h _ _ _ rfl) e
/-- the data of what _law_error gives -/
def rowE : PyData := .list [.str "row", .str "row", .int (-1), .bool false]
def logE (i : Int) : PyData := .list [.str "log", .int i, .bool true]
theorem rowE_sh : SeqAt.shaped rowE = true := by
  refine Bool.and_eq_true_iff.mpr ⟨?_, decide_eq_true ?_⟩
  · have h : PyData.strOk "row" = true := by decide +kernel
    simp [rowE, PyData.canLay0, PyData.canLayAll0, h]
  · simp [rowE, PyData.depth, PyData.depthAll]
theorem logE_sh (i : Int) : SeqAt.shaped (logE i) = true := by
  refine Bool.and_eq_true_iff.mpr ⟨?_, decide_eq_true ?_⟩
  · have h : PyData.strOk "log" = true := by decide +kernel
    simp [logE, PyData.canLay0, PyData.canLayAll0, h]
  · simp [logE, PyData.depth, PyData.depthAll]
theorem rowE_eq : PyData.eqv rowE rowE = true := SeqAt.eqv_refl _ (Bool.and_eq_true_iff.mp rowE_sh).1
theorem logE_eq (i : Int) : PyData.eqv (logE i) (logE i) = true := SeqAt.eqv_refl _ (Bool.and_eq_true_iff.mp (logE_sh i)).1
theorem rowE_dp {K : PySem.W.Frag} {H : Hp} {p : Addr} (h : H p = some (.lst [.str "row", .str "row", .int (-1), .bl false])) : Dp K H (.ref p) rowE := .lst (SqL.of h) (.cons (.str _) (.cons (.str _) (.cons (.int _) (.cons (.bl _) .nil))))
theorem logE_dp {K : PySem.W.Frag} {H : Hp} {p : Addr} {i : Int} (h : H p = some (.lst [.str "log", .int i, .bl true])) : Dp K H (.ref p) (logE i) := .lst (SqL.of h) (.cons (.str _) (.cons (.int _) (.cons (.bl _) .nil)))
theorem rep1 (v : V) : ∀ n, (List.replicate n [v]).flatten = List.replicate n v
  | 0 => rfl
  | n + 1 => by rw [List.replicate_succ, List.replicate_succ, List.flatten_cons, rep1 v n]; rfl
theorem Src.ext {H H' : Hp} {a : Addr} {n : Nat} (h : Src H a n) (k : LamX.ExtN H H') : Src H' a n := by
  obtain ⟨x, y, z, e, r⟩ := h
  exact ⟨x, y, z, k _ _ e fun _ z => (nomatch z), r⟩
/-- both defs, one after the other -/
theorem ask_two {K : PySem.W.Frag} {H : Hp} {p : Addr} {f g : Addr} (h : H p = some (.tup [.ref f, .ref g])) : SqT K H p [.ref f, .ref g] := SqT.of h
theorem two_at {f g : Addr} {i : Nat} {v : V} (h : [V.ref f, V.ref g][i]? = some v) : v = .ref f ∨ v = .ref g := by
  match i, h with
  | 0, h => exact .inl (Option.some.inj h).symm
  | 1, h => exact .inr (Option.some.inj h).symm
def KTb (s : Addr) (H H' : Hp) : Prop := ∀ b o, b ≠ s → H b = some o → (∀ ps, o ≠ .tbl ps) → H' b = some o
def spRefused (L : LA) : Sp := fun vs H Q _ => ∃ s r l B xs ts st ph, ∃ (ws : List Bool) (n : Nat), vs = [.ref s, .ref r, .ref l] ∧ Src H s n ∧ n ≤ 800000 ∧ RowAt L.c_Row H r B xs ts st ph ∧ H l = some (.lst (ws.map wV)) ∧ ws.length ≤ 200 ∧ l ≠ s ∧ LamX.Tabs (LT L) H ∧ ∀ H', KTb s H H' → LamX.Tabs (LT L) H' → Q (.bl true) H'
section
variable {P : Program} {w : World} {K : PySem.W.Frag} {mg : Str → Option Value} {base : Heap} {L : LA}
abbrev N_wrefusedright : List Str := ["_law_source", "_law_line", "_law_words_here", "_law_ask", "_law_at", "_law_odd"]
theorem sc_wrefusedright : FnScope N_wrefusedright ["_law_source", "_law_line", "_law_words_here"] (defScope st__law_refused_right) := ⟨rfl, rfl, rfl, by decide +kernel, rfl, by decide +kernel, by decide +kernel⟩
theorem fn_wrefusedright (T : LX K mg L) (B : TX base mg L) {fd : FuncData} (F : FunT K "_law_refused_right" "_law_refused_right" st__law_refused_right L.f__law_refused_right L.k__law_refused_right fd) : FnOk P w K mg base CX0 14 L.f__law_refused_right fd ["_law_source", "_law_line", "_law_words_here"] (spRefused L) := by
  have G_wdraw := ok_wdraw (P := P) (w := w) (base := base) T
  have G_replay := ok_replay (P := P) (w := w) (base := base) T
  have G_outcomes := ok_outcomes (P := P) (w := w) (base := base) T
  have nd := sc_wrefusedright.nd
  refine F.ok sc_wrefusedright (fun vs H Q E h => ?_) (fun A outer S H vs Q E hr h => ?_)
  · obtain ⟨s, r, l, Bq, xs, ts, st, ph, ws, n, rfl, _⟩ := h
    rfl
  · obtain ⟨s, r, l, Bq, xs, ts, st, ph, ws, n, rfl, src, hn, R, hl, wl, nsl, tabs, k⟩ := h
    refine ⟨_, (pss_cons (ps_for PassesOwn.never rfl (pi_list (pe_lst (pa_cons pe_non (pa_cons pe_int (pa_cons pe_str (pa_cons (pe_lst (pa_cons pe_int pa_nil)) (pa_cons pe_dnewK (pa_cons (pe_tup (pa_cons (pv 1) pa_nil)) (pa_cons (pe_lst (pa_cons (pv 1) pa_nil)) pa_nil))))))))) (pg_name (i := 5) nd rfl (Or.inr rfl)) (pss_one (ps_for PassesOwn.never rfl (pi_tup (pe_tup (pa_cons (pe_glob rfl T.d_replay.g rr) (pa_cons (pe_glob rfl T.d_outcomes.g rr) pa_nil)))) (pg_name (i := 3) nd rfl (Or.inr rfl)) (pss_one (ps_if (pt_cmpR (op_neD hr.units) (pe_lamc (T := LT L) (TT := TTerr K L) (c := L.k__law_refused_right) (P := L.t__law_refused_right) (k := 9) T.d__law_error sc_werror rfl (Or.inl rfl) (fun _ => err_gives T (hr.mono (by decide))) B.b__law_refused_right rfl (lt_mem_wrefusedright T) (lt_one_wrefusedright T) (hr.mono (by decide)) (LamX.lamS_by (sc := defScope st__law_refused_right) (by decide +kernel)) rfl (fun _ _ _ _ _ => rfl) (fun A outer s H E f c2 hr => by exact (pe_vcall (Ok := AskO K L) (i := 3) (ask_ok (P := P) (w := w) (base := base) T (hr.mono (by decide))) (takes_of rfl rfl rfl rfl) (pv 3) (pa_cons (pv 5) (pa_cons pe_non pa_nil))))) (pe_lst (pa_cons pe_str (pa_cons pe_str (pa_cons (pe_un un_neg pe_int) (pa_cons pe_bl pa_nil))))) (nomark _)) (pss_one (ps_ret pe_bl)) pss_nil)))))
       (pss_cons (ps_for PassesOwn.never rfl (pi_list (pe_lst (pa_cons pe_non (pa_cons pe_int (pa_cons pe_str (pa_cons (pe_tup (pa_cons pe_str pa_nil)) (pa_cons pe_dnewK (pa_cons (pe_op op_rep (pe_lst (pa_cons pe_str pa_nil)) pe_int) pa_nil)))))))) (pg_name (i := 5) nd rfl (Or.inr rfl)) (pss_one (ps_for PassesOwn.never rfl (pi_tup (pe_tup (pa_cons (pe_glob rfl T.d_replay.g rr) (pa_cons (pe_glob rfl T.d_outcomes.g rr) pa_nil)))) (pg_name (i := 3) nd rfl (Or.inr rfl)) (pss_one (ps_if (pt_cmpR (op_neD hr.units) (pe_lamc (T := LT L) (TT := TTerr K L) (c := L.k__law_refused_right) (P := L.t__law_refused_right) (k := 9) T.d__law_error sc_werror rfl (Or.inl rfl) (fun _ => err_gives T (hr.mono (by decide))) B.b__law_refused_right rfl (lt_mem_wrefusedright T) (lt_one_wrefusedright T) (hr.mono (by decide)) (LamX.lamS_by (sc := defScope st__law_refused_right) (by decide +kernel)) rfl (fun _ _ _ _ _ => rfl) (fun A outer s H E f c2 hr => by exact (pe_vcall (Ok := AskO K L) (i := 3) (ask_ok (P := P) (w := w) (base := base) T (hr.mono (by decide))) (takes_of rfl rfl rfl rfl) (pv 3) (pa_cons (pv 1) (pa_cons (pv 5) pa_nil))))) (pe_lst (pa_cons pe_str (pa_cons (pe_un un_neg pe_int) (pa_cons pe_bl pa_nil)))) (nomark _)) (pss_one (ps_ret pe_bl)) pss_nil)))))
       (pss_cons (ps_set (i := 4) nd rfl (Or.inr rfl) (pe_c G_wdraw (hr.mono (by decide)) rfl (pa_cons (pv 0) (pa_cons (pe_op op_add (pe_callB call_len_seq (by rfl) T.b_len PySem.boot_len (pa_cons (pv 2) pa_nil)) pe_int) pa_nil))))
       (pss_cons (ps_for PassesOwn.never rfl (pi_list (pe_lst (pa_cons pe_non (pa_cons pe_bl (pa_cons pe_str (pa_cons pe_str (pa_cons pe_int (pa_cons (pe_lst (pa_cons pe_str pa_nil)) (pa_cons (pe_tup (pa_cons pe_str pa_nil)) (pa_cons pe_dnewK pa_nil)))))))))) (pg_name (i := 5) nd rfl (Or.inr rfl)) (pss_one (ps_for PassesOwn.never rfl (pi_tup (pe_tup (pa_cons (pe_glob rfl T.d_replay.g rr) (pa_cons (pe_glob rfl T.d_outcomes.g rr) pa_nil)))) (pg_name (i := 3) nd rfl (Or.inr rfl)) (pss_one (ps_if (pt_cmpR (op_neD hr.units) (pe_lamc (T := LT L) (TT := TTerr K L) (c := L.k__law_refused_right) (P := L.t__law_refused_right) (k := 9) T.d__law_error sc_werror rfl (Or.inl rfl) (fun _ => err_gives T (hr.mono (by decide))) B.b__law_refused_right rfl (lt_mem_wrefusedright T) (lt_one_wrefusedright T) (hr.mono (by decide)) (LamX.lamS_by (sc := defScope st__law_refused_right) (by decide +kernel)) rfl (fun _ _ _ _ _ => rfl) (fun A outer s H E f c2 hr => by exact (pe_vcall (Ok := AskO K L) (i := 3) (ask_ok (P := P) (w := w) (base := base) T (hr.mono (by decide))) (takes_of rfl rfl rfl rfl) (pv 3) (pa_cons (pv 1) (pa_cons (pe_op op_cat (pe_slice (r := rSlL K) sl_list (pv 2) po_none (po_some (pv 4))) (pe_lst (pa_cons (pv 5) (pa_cons pe_non pa_nil)))) pa_nil))))) (pe_lst (pa_cons pe_str (pa_cons (pv 4) (pa_cons pe_bl pa_nil)))) (nomark _)) (pss_one (ps_ret pe_bl)) pss_nil)))))
       (pss_one (ps_ret pe_bl)))))), ?_⟩
    refine ⟨(by show 1 ≤ sizeLine; decide), fun a1 n1 => fun a2 n2 => ⟨_, rfl, (by show 1 ≤ sizeLine; decide), fun a3 n3 => ⟨_, rfl, (by show 1 ≤ sizeLine; decide), fun a4 n4 => ⟨(by show 7 ≤ sizeLine; decide), fun lo nlo => ?_⟩⟩⟩⟩
    have u1 := Same.upd (o := .lst [.int 1]) n1
    have u2 := Same.upd (o := .dK []) n2
    have u3 := Same.upd (o := .tup [.ref r]) n3
    have u4 := Same.upd (o := .lst [.ref r]) n4
    have u5 := Same.upd (o := .lst [.non, .int 5, .str "up", .ref a1, .ref a2, .ref a3, .ref a4]) nlo
    have f1 := u5 _ _ (u4 _ _ (u3 _ _ (u2 _ _ (upd_same (a := a1) (o := .lst [.int 1]) (H := H)))))
    have f2 := u5 _ _ (u4 _ _ (u3 _ _ (upd_same (a := a2) (o := .dK []) (H := upd H a1 (.lst [.int 1])))))
    have f3 := u5 _ _ (u4 _ _ (upd_same (a := a3) (o := .tup [.ref r]) (H := upd (upd H a1 (.lst [.int 1])) a2 (.dK []))))
    have f4 := u5 _ _ (upd_same (a := a4) (o := .lst [.ref r]) (H := upd (upd (upd H a1 (.lst [.int 1])) a2 (.dK [])) a3 (.tup [.ref r])))
    have f5 : upd (upd (upd (upd (upd H a1 (.lst [.int 1])) a2 (.dK [])) a3 (.tup [.ref r])) a4 (.lst [.ref r])) lo (.lst [.non, .int 5, .str "up", .ref a1, .ref a2, .ref a3, .ref a4]) lo = some (.lst [.non, .int 5, .str "up", .ref a1, .ref a2, .ref a3, .ref a4]) := upd_same
    have sA := (((u1.trans u2).trans u3).trans u4).trans u5
    generalize upd (upd (upd (upd (upd H a1 (.lst [.int 1])) a2 (.dK [])) a3 (.tup [.ref r])) a4 (.lst [.ref r])) lo (.lst [.non, .int 5, .str "up", .ref a1, .ref a2, .ref a3, .ref a4]) = HA at sA f1 f2 f3 f4 f5 ⊢
    have odd : ∀ v ∈ ([.non, .int 5, .str "up", .ref a1, .ref a2, .ref a3, .ref a4] : List V), ∃ n, Kd HA v n := by
      intro v hv
      simp only [List.mem_cons, List.mem_nil_iff, or_false] at hv
      rcases hv with rfl | rfl | rfl | rfl | rfl | rfl | rfl
      · exact ⟨_, .non⟩
      · exact ⟨_, .int _⟩
      · exact ⟨_, .str _⟩
      · exact ⟨_, .lst f1⟩
      · exact ⟨_, .dK f2⟩
      · exact ⟨_, .tup f3⟩
      · exact ⟨_, .lst f4⟩
    generalize ([.non, .int 5, .str "up", .ref a1, .ref a2, .ref a3, .ref a4] : List V) = ods at f5 odd ⊢
    have tA := tabs_same tabs sA
    refine ⟨lo, rfl, ⟨_, SqL.of f5⟩, ?_⟩
    refine for_list (K := K) (a := lo) (xs := ods) (fun i σ Hy => ∃ v3 v5 : Option V, σ = [some (.ref s), some (.ref r), some (.ref l), v3, none, v5] ∧ LamX.ExtN HA Hy ∧ LamX.Tabs (LT L) Hy) ⟨_, _, rfl, .refl _, tA⟩ (fun i σ Hy _ ⟨_, _, _, e, _⟩ => SqL.of (e _ _ f5 fun _ z => nomatch z)) ?_ ?_
    · rintro i v σ Hy hi ⟨v3, v5, rfl, ey, ty⟩
      obtain ⟨nk, kd⟩ := odd v (List.mem_of_getElem? hi)
      refine ⟨(by show 2 ≤ sizeLine; decide), fun tp ntp => ?_⟩
      have st' := Same.upd (o := .tup [.ref L.f_replay, .ref L.f_outcomes]) ntp
      have htp : upd Hy tp (.tup [.ref L.f_replay, .ref L.f_outcomes]) tp = some (.tup [.ref L.f_replay, .ref L.f_outcomes]) := upd_same
      have ey2 := ey.trans (ext_same st')
      have ty2 := tabs_same ty st'
      generalize upd Hy tp (.tup [.ref L.f_replay, .ref L.f_outcomes]) = Hz at st' htp ey2 ty2 ⊢
      refine ⟨tp, rfl, ⟨_, SqT.of htp⟩, ?_⟩
      refine for_tup (K := K) (a := tp) (xs := [.ref L.f_replay, .ref L.f_outcomes]) (fun j σ Hq => ∃ v3 : Option V, σ = [some (.ref s), some (.ref r), some (.ref l), v3, none, some v] ∧ LamX.ExtN Hz Hq ∧ LamX.Tabs (LT L) Hq) ⟨_, rfl, .refl _, ty2⟩ (fun j σ Hq _ ⟨_, _, e, _⟩ => SqT.of (e _ _ htp fun _ z => nomatch z)) ?_ ?_
      · rintro j vf σ Hq hj ⟨v3, rfl, eq', tq⟩
        refine ⟨tq, fun Hw exW txW E N hE hN => ?_⟩
        have kdw := ((kd.ext ey2).ext eq').ext exW
        have two := two_at hj
        refine ⟨(if vf = .ref L.f_replay then L.f_replay else L.f_outcomes), spAskRow K L, by split; exact .r1; exact .o1, ?_, _, rfl, v, .non, _, rfl, kdw.ty, T.cf_Row.kitT kdw, fun H' s' => (kdw.ext (ext_same s')).ty, fun d H' hd s' => hE _ _ _ ⟨L.e_InvalidRow, d, rfl, rfl, .row _ _ hd fun q H5 hq s5 nq => ?_⟩⟩
        · rcases two with rfl | rfl
          · rw [if_pos rfl]; rfl
          · split
            · rename_i c; rw [c]; rfl
            · rfl
        have x5 := exW.trans (ext_same (s'.trans s5))
        refine ⟨_, rfl, (by show 4 ≤ sizeLine; decide), fun q2 nq2 => ?_⟩
        have s6 := Same.upd (o := .lst [.str "row", .str "row", .int (-1), .bl false]) nq2
        refine ⟨rowE, rowE, rowE_dp (s6 _ _ hq), rowE_dp upd_same, rowE_sh, rowE_sh, ?_⟩
        rw [rowE_eq]
        exact ⟨_, rfl, iteF ⟨_, rfl, eq'.trans (x5.trans (ext_same s6)), tabs_same txW ((s'.trans s5).trans s6)⟩⟩
      · rintro σ Hq ⟨v3, rfl, eq', tq⟩
        exact ⟨_, _, rfl, ey2.trans eq', tq⟩
    rintro σ HB ⟨v3, v5, rfl, eB, tB'⟩
    have eHB : LamX.ExtN H HB := (ext_same sA).trans eB
    clear odd f1 f2 f3 f4 f5 u1 u2 u3 u4 u5 tA
    -- values that are no logs
    refine ⟨(by show 1 ≤ sizeLine; decide), fun b1 m1 => fun b2 m2 => ⟨(by show 1 ≤ sizeLine; decide), fun b3 m3 => ⟨b3, _, [.str "up"], rfl, rfl, upd_same, by decide, by decide, small2 (by show 1 * 10001 ≤ 100000; decide), fun b4 m4 => ⟨(by show 6 ≤ sizeLine; decide), fun lo2 nlo2 => ?_⟩⟩⟩⟩
    obtain ⟨W, hW⟩ : ∃ W : List V, W = (List.replicate (10001 : Int).toNat [V.str "up"]).flatten := ⟨_, rfl⟩
    have Wl : W.length = 10001 := by rw [hW, rep1, List.length_replicate]; rfl
    rw [← hW] at nlo2 ⊢
    have u1 := Same.upd (o := .tup [.str "up"]) m1
    have u2 := Same.upd (o := .dK []) m2
    have u3 := Same.upd (o := .lst [.str "up"]) m3
    have u4 := Same.upd (o := .lst W) m4
    have u5 := Same.upd (o := .lst [.non, .int 5, .str "up", .ref b1, .ref b2, .ref b4]) nlo2
    have g1 := u5 _ _ (u4 _ _ (u3 _ _ (u2 _ _ (upd_same (a := b1) (o := .tup [.str "up"]) (H := HB)))))
    have g2 := u5 _ _ (u4 _ _ (u3 _ _ (upd_same (a := b2) (o := .dK []) (H := upd HB b1 (.tup [.str "up"])))))
    have g3 := u5 _ _ (upd_same (a := b4) (o := .lst W) (H := upd (upd (upd HB b1 (.tup [.str "up"])) b2 (.dK [])) b3 (.lst [.str "up"])))
    have g4 : upd (upd (upd (upd (upd HB b1 (.tup [.str "up"])) b2 (.dK [])) b3 (.lst [.str "up"])) b4 (.lst W)) lo2 (.lst [.non, .int 5, .str "up", .ref b1, .ref b2, .ref b4]) lo2 = some (.lst [.non, .int 5, .str "up", .ref b1, .ref b2, .ref b4]) := upd_same
    have sC := (((u1.trans u2).trans u3).trans u4).trans u5
    generalize upd (upd (upd (upd (upd HB b1 (.tup [.str "up"])) b2 (.dK [])) b3 (.lst [.str "up"])) b4 (.lst W)) lo2 (.lst [.non, .int 5, .str "up", .ref b1, .ref b2, .ref b4]) = HC at sC g1 g2 g3 g4 ⊢
    have odd : ∀ v ∈ ([.non, .int 5, .str "up", .ref b1, .ref b2, .ref b4] : List V), BadLog HC v (-1) := by
      intro v hv
      simp only [List.mem_cons, List.mem_nil_iff, or_false] at hv
      rcases hv with rfl | rfl | rfl | rfl | rfl | rfl
      · exact .no .non rfl
      · exact .no (.int _) rfl
      · exact .no (.str _) rfl
      · exact .no (.tup g1) rfl
      · exact .no (.dK g2) rfl
      · exact .long g3 (by omega)
    generalize ([.non, .int 5, .str "up", .ref b1, .ref b2, .ref b4] : List V) = ods at g4 odd ⊢
    have tC' := tabs_same tB' sC
    have RC := (R.ext eHB).nl (NL.of sC)
    refine ⟨lo2, rfl, ⟨_, SqL.of g4⟩, ?_⟩
    refine for_list (K := K) (a := lo2) (xs := ods) (fun i σ Hy => ∃ v3 v5 : Option V, σ = [some (.ref s), some (.ref r), some (.ref l), v3, none, v5] ∧ LamX.ExtN HC Hy ∧ LamX.Tabs (LT L) Hy) ⟨_, _, rfl, .refl _, tC'⟩ (fun i σ Hy _ ⟨_, _, _, e, _⟩ => SqL.of (e _ _ g4 fun _ z => nomatch z)) ?_ ?_
    · rintro i v σ Hy hi ⟨v3, v5, rfl, ey, ty⟩
      have bad := odd v (List.mem_of_getElem? hi)
      refine ⟨(by show 2 ≤ sizeLine; decide), fun tp ntp => ?_⟩
      have st' := Same.upd (o := .tup [.ref L.f_replay, .ref L.f_outcomes]) ntp
      have htp : upd Hy tp (.tup [.ref L.f_replay, .ref L.f_outcomes]) tp = some (.tup [.ref L.f_replay, .ref L.f_outcomes]) := upd_same
      have ey2 := ey.trans (ext_same st')
      have ty2 := tabs_same ty st'
      generalize upd Hy tp (.tup [.ref L.f_replay, .ref L.f_outcomes]) = Hz at st' htp ey2 ty2 ⊢
      refine ⟨tp, rfl, ⟨_, SqT.of htp⟩, ?_⟩
      refine for_tup (K := K) (a := tp) (xs := [.ref L.f_replay, .ref L.f_outcomes]) (fun j σ Hq => ∃ v3 : Option V, σ = [some (.ref s), some (.ref r), some (.ref l), v3, none, some v] ∧ LamX.ExtN Hz Hq ∧ LamX.Tabs (LT L) Hq) ⟨_, rfl, .refl _, ty2⟩ (fun j σ Hq _ ⟨_, _, e, _⟩ => SqT.of (e _ _ htp fun _ z => nomatch z)) ?_ ?_
      · rintro j vf σ Hq hj ⟨v3, rfl, eq', tq⟩
        refine ⟨tq, fun Hw exW txW E N hE hN => ?_⟩
        have xw := (ey2.trans eq').trans exW
        have two := two_at hj
        refine ⟨(if vf = .ref L.f_replay then L.f_replay else L.f_outcomes), spAskLog L, by split; exact .r2; exact .o2, ?_, _, rfl, _, rfl, r, v, -1, Bq, xs, ts, st, ph, rfl, RC.ext xw, bad.ext xw, fun d H' hd s' => hE _ _ _ ⟨L.e_InvalidLog, d, rfl, rfl, .log _ hd fun q H5 hq s5 nq => ?_⟩⟩
        · rcases two with rfl | rfl
          · rw [if_pos rfl]; rfl
          · split
            · rename_i c; rw [c]; rfl
            · rfl
        have x5 := exW.trans (ext_same (s'.trans s5))
        refine ⟨_, rfl, (by show 3 ≤ sizeLine; decide), fun q2 nq2 => ?_⟩
        have s6 := Same.upd (o := .lst [.str "log", .int (-1), .bl true]) nq2
        refine ⟨logE (-1), logE (-1), logE_dp (s6 _ _ hq), logE_dp upd_same, logE_sh _, logE_sh _, ?_⟩
        rw [logE_eq]
        exact ⟨_, rfl, iteF ⟨_, rfl, eq'.trans (x5.trans (ext_same s6)), tabs_same txW ((s'.trans s5).trans s6)⟩⟩
      · rintro σ Hq ⟨v3, rfl, eq', tq⟩
        exact ⟨_, _, rfl, ey2.trans eq', tq⟩
    rintro σ HD ⟨v3', v5', rfl, eD, tD⟩
    have eHD : LamX.ExtN H HD := (eHB.trans (ext_same sC)).trans eD
    clear odd g1 g2 g3 g4 u1 u2 u3 u4 u5 tC' RC tB' sC hW Wl
    have srcD := src.ext eHD
    have hlD := eHD _ _ hl fun _ z => nomatch z
    obtain ⟨ys0, hy0⟩ := srcD.has
    -- the place
    refine ⟨_, rfl, _, rfl, l, _, rfl, .inl (SqL.of hlD), _, _, rfl, rfl, s, _, _, rfl, ?_, ?_, srcD, by omega, fun at' HE at0 at1 srcE kE => ?_⟩
    · rw [List.length_map]; omega
    · exact Nat.lt_of_le_of_lt (show ((((ws.map wV).length : Nat) : Int) + 1).natAbs ≤ 201 by rw [List.length_map]; omega) (by decide +kernel)
    rw [List.length_map] at at1
    obtain ⟨m, rfl⟩ : ∃ m : Nat, at' = (m : Int) := ⟨at'.toNat, by omega⟩
    have hlE := kE _ _ nsl hlD
    have tE : LamX.Tabs (LT L) HE := Tabs.nl tD (Kp.nl kE hy0)
    have RE := (R.ext eHD).nl (Kp.nl kE hy0)
    -- items that are no words
    refine ⟨(by show 1 ≤ sizeLine; decide), fun b1 m1 => ⟨(by show 1 ≤ sizeLine; decide), fun b2 m2 => fun b3 m3 => ⟨(by show 8 ≤ sizeLine; decide), fun lo3 nlo3 => ?_⟩⟩⟩
    have u1 := Same.upd (o := .lst [.str "up"]) m1
    have u2 := Same.upd (o := .tup [.str "down"]) m2
    have u3 := Same.upd (o := .dK []) m3
    have u4 := Same.upd (o := .lst [.non, .bl true, .str "UP", .str "", .int 1, .ref b1, .ref b2, .ref b3]) nlo3
    have g1 := u4 _ _ (u3 _ _ (u2 _ _ (upd_same (a := b1) (o := .lst [.str "up"]) (H := HE))))
    have g2 := u4 _ _ (u3 _ _ (upd_same (a := b2) (o := .tup [.str "down"]) (H := upd HE b1 (.lst [.str "up"]))))
    have g3 := u4 _ _ (upd_same (a := b3) (o := .dK []) (H := upd (upd HE b1 (.lst [.str "up"])) b2 (.tup [.str "down"])))
    have g4 : upd (upd (upd (upd HE b1 (.lst [.str "up"])) b2 (.tup [.str "down"])) b3 (.dK [])) lo3 (.lst [.non, .bl true, .str "UP", .str "", .int 1, .ref b1, .ref b2, .ref b3]) lo3 = some (.lst [.non, .bl true, .str "UP", .str "", .int 1, .ref b1, .ref b2, .ref b3]) := upd_same
    have sF := ((u1.trans u2).trans u3).trans u4
    generalize upd (upd (upd (upd HE b1 (.lst [.str "up"])) b2 (.tup [.str "down"])) b3 (.dK [])) lo3 (.lst [.non, .bl true, .str "UP", .str "", .int 1, .ref b1, .ref b2, .ref b3]) = HF at sF g1 g2 g3 g4 ⊢
    have odd : ∀ v ∈ ([.non, .bl true, .str "UP", .str "", .int 1, .ref b1, .ref b2, .ref b3] : List V), isWd v = false ∧ ∃ n, Kd HF v n := by
      intro v hv
      simp only [List.mem_cons, List.mem_nil_iff, or_false] at hv
      rcases hv with rfl | rfl | rfl | rfl | rfl | rfl | rfl | rfl
      · exact ⟨rfl, _, .non⟩
      · exact ⟨rfl, _, .bl _⟩
      · exact ⟨by decide +kernel, _, .str _⟩
      · exact ⟨by decide +kernel, _, .str _⟩
      · exact ⟨rfl, _, .int _⟩
      · exact ⟨rfl, _, .lst g1⟩
      · exact ⟨rfl, _, .tup g2⟩
      · exact ⟨rfl, _, .dK g3⟩
    generalize ([.non, .bl true, .str "UP", .str "", .int 1, .ref b1, .ref b2, .ref b3] : List V) = ods at g4 odd ⊢
    have tF := tabs_same tE sF
    have RF := RE.nl (NL.of sF)
    have hlF := sF _ _ hlE
    refine ⟨lo3, rfl, ⟨_, SqL.of g4⟩, ?_⟩
    refine for_list (K := K) (a := lo3) (xs := ods) (fun i σ Hy => ∃ v3 v5 : Option V, σ = [some (.ref s), some (.ref r), some (.ref l), v3, some (.int (m : Nat)), v5] ∧ LamX.ExtN HF Hy ∧ LamX.Tabs (LT L) Hy) ⟨_, _, rfl, .refl _, tF⟩ (fun i σ Hy _ ⟨_, _, _, e, _⟩ => SqL.of (e _ _ g4 fun _ z => nomatch z)) ?_ ?_
    · rintro i v σ Hy hi ⟨v3, v5, rfl, ey, ty⟩
      obtain ⟨nw, nk, kd⟩ := odd v (List.mem_of_getElem? hi)
      refine ⟨(by show 2 ≤ sizeLine; decide), fun tp ntp => ?_⟩
      have st' := Same.upd (o := .tup [.ref L.f_replay, .ref L.f_outcomes]) ntp
      have htp : upd Hy tp (.tup [.ref L.f_replay, .ref L.f_outcomes]) tp = some (.tup [.ref L.f_replay, .ref L.f_outcomes]) := upd_same
      have ey2 := ey.trans (ext_same st')
      have ty2 := tabs_same ty st'
      generalize upd Hy tp (.tup [.ref L.f_replay, .ref L.f_outcomes]) = Hz at st' htp ey2 ty2 ⊢
      refine ⟨tp, rfl, ⟨_, SqT.of htp⟩, ?_⟩
      refine for_tup (K := K) (a := tp) (xs := [.ref L.f_replay, .ref L.f_outcomes]) (fun j σ Hq => ∃ v3 : Option V, σ = [some (.ref s), some (.ref r), some (.ref l), v3, some (.int (m : Nat)), some v] ∧ LamX.ExtN Hz Hq ∧ LamX.Tabs (LT L) Hq) ⟨_, rfl, .refl _, ty2⟩ (fun j σ Hq _ ⟨_, _, e, _⟩ => SqT.of (e _ _ htp fun _ z => nomatch z)) ?_ ?_
      · rintro j vf σ Hq hj ⟨v3, rfl, eq', tq⟩
        refine ⟨tq, fun Hw exW txW E N hE hN => ?_⟩
        have xw := (ey2.trans eq').trans exW
        have two := two_at hj
        refine ⟨(if vf = .ref L.f_replay then L.f_replay else L.f_outcomes), spAskLog L, by split; exact .r2; exact .o2, ?_, _, rfl, _, rfl, _, rfl, (m : Int), rfl, l, _, rfl, SqL.of (xw _ _ hlF fun _ z => nomatch z), fun l1 nl1 => ⟨_, rfl, (by show 2 ≤ sizeLine; decide), fun l2 nl2 => ?_⟩⟩
        · rcases two with rfl | rfl
          · rw [if_pos rfl]; rfl
          · split
            · rename_i c; rw [c]; rfl
            · rfl
        have ec : cutV (ws.map wV) none (some (m : Int)) = (ws.take m).map wV := by rw [cut_to (by rw [List.length_map]; omega), List.map_take]
        rw [ec] at nl2 ⊢
        have z1 := Same.upd (o := .lst ((ws.take m).map wV)) nl1
        have z2 := Same.upd (o := .lst [v, .non]) nl2
        have ml : (ws.take m).length = m := by rw [List.length_take]; omega
        refine ⟨l1, l2, _, _, rfl, rfl, z2 _ _ upd_same, upd_same, small2 (by rw [List.length_map]; show _ + 2 ≤ 100000; omega), fun l3 nl3 => ?_⟩
        have z3 := Same.upd (o := .lst ((ws.take m).map wV ++ [v, .non])) nl3
        have z13 := (z1.trans z2).trans z3
        have bad : BadLog (upd (upd (upd Hw l1 (.lst ((ws.take m).map wV))) l2 (.lst [v, .non])) l3 (.lst ((ws.take m).map wV ++ [v, .non]))) (.ref l3) (m : Nat) := by
          refine .item upd_same ?_ ?_ ((kd.ext xw).ext (ext_same z13)) nw fun j hj => ?_
          · rw [List.length_append, List.length_map, ml]; show m + 2 ≤ 10000; omega
          · rw [List.getElem?_append_right (by rw [List.length_map, ml]; exact Nat.le_refl _), List.length_map, ml, Nat.sub_self]
            rfl
          · have jl : j < (ws.take m).length := by rw [ml]; exact hj
            exact ⟨(ws.take m)[j], by rw [List.getElem?_append_left (by rw [List.length_map]; exact jl), List.getElem?_map, List.getElem?_eq_getElem jl]; rfl⟩
        refine ⟨r, .ref l3, (m : Nat), Bq, xs, ts, st, ph, rfl, (RF.ext xw).nl (NL.of z13), bad, fun d H' hd s' => hE _ _ _ ⟨L.e_InvalidLog, d, rfl, rfl, .log _ hd fun q H5 hq s5 nq => ?_⟩⟩
        have x5 := exW.trans (ext_same ((z13.trans s').trans s5))
        refine ⟨_, rfl, (by show 3 ≤ sizeLine; decide), fun q2 nq2 => ?_⟩
        have s6 := Same.upd (o := .lst [.str "log", .int (m : Nat), .bl true]) nq2
        refine ⟨logE (m : Nat), logE (m : Nat), logE_dp (s6 _ _ hq), logE_dp upd_same, logE_sh _, logE_sh _, ?_⟩
        rw [logE_eq]
        exact ⟨_, rfl, iteF ⟨_, rfl, eq'.trans (x5.trans (ext_same s6)), tabs_same txW (((z13.trans s').trans s5).trans s6)⟩⟩
      · rintro σ Hq ⟨v3, rfl, eq', tq⟩
        exact ⟨_, _, rfl, ey2.trans eq', tq⟩
    rintro σ HG ⟨v3'', v5'', rfl, eG, tG⟩
    have eE : LamX.ExtN HE HG := (ext_same sF).trans eG
    exact k HG (fun b o bs e nt => eE _ _ (kE _ _ bs (eHD _ _ e nt)) nt) tG
theorem ok_wrefusedright (T : LX K mg L) (B : TX base mg L) : Cal P w K mg base "_law_refused_right" 14 L.f__law_refused_right ["_law_source", "_law_line", "_law_words_here"] (spRefused L) := T.d__law_refused_right.cal fun fd F => fn_wrefusedright T B F
end
/-! ### k54: two Playings of one row, and the list of what was done -/
structure Dr (CR C : Addr) (HM H : Hp) (s dl : Addr) (P : Nat → Addr) (ts : List Tri) (st ph : Int) (ws : Nat → List Bool) (ow : Nat → AvS) (dn : List Bool) (n : Nat) : Prop where
  fam : Fm1 CR C H 2 P ts st ph ws ow
  src : Src H s n
  so : OutP 2 P ow s
  base : ∀ b o, b ≠ s → HM b = some o → H b = some o ∧ OutP 2 P ow b
  hd : H dl = some (.lst (dn.map wV))
  od : OutP 2 P ow dl
  nds : dl ≠ s
  ndm : HM dl = none
section
variable {CR C : Addr} {HM H H' : Hp} {s dl : Addr} {P : Nat → Addr} {ts : List Tri} {st ph : Int} {ws : Nat → List Bool} {ow : Nat → AvS} {dn : List Bool} {n : Nat}
theorem Dr.same (R : Dr CR C HM H s dl P ts st ph ws ow dn n) (k : Same H H') : Dr CR C HM H' s dl P ts st ph ws ow dn n :=
  ⟨Fam.same R.fam k, R.src.same k, R.so, fun b o nb e => ⟨k _ _ (R.base b o nb e).1, (R.base b o nb e).2⟩, k _ _ R.hd, R.od, R.nds, R.ndm⟩
theorem Dr.mono (R : Dr CR C HM H s dl P ts st ph ws ow dn n) {m : Nat} (h : n ≤ m) : Dr CR C HM H s dl P ts st ph ws ow dn m := ⟨R.fam, R.src.mono h, R.so, R.base, R.hd, R.od, R.nds, R.ndm⟩
theorem Dr.draw (R : Dr CR C HM H s dl P ts st ph ws ow dn n) (k : Kp s H H') {m : Nat} (S : Src H' s m) : Dr CR C HM H' s dl P ts st ph ws ow dn m := by
  obtain ⟨y, hy⟩ := R.src.has
  exact ⟨Fam.wr R.fam k hy R.so.1, S, R.so, fun b o nb e => ⟨k _ _ nb (R.base b o nb e).1, (R.base b o nb e).2⟩, k _ _ R.nds R.hd, R.od, R.nds, R.ndm⟩
theorem Dr.stp (R : Dr CR C HM H s dl P ts st ph ws ow dn n) {ws' : Nat → List Bool} {ow' : Nat → AvS} (F : Fm1 CR C H' 2 P ts st ph ws' ow') (S : Stp 2 P H ow 2 P H' ow') : Dr CR C HM H' s dl P ts st ph ws' ow' dn n := by
  obtain ⟨x, y, z, e, q⟩ := R.src
  exact ⟨F, ⟨x, y, z, (S _ _ e R.so).1, q⟩, (S _ _ e R.so).2, fun b o nb e => S _ _ (R.base b o nb e).1 (R.base b o nb e).2, (S _ _ R.hd R.od).1, (S _ _ R.hd R.od).2, R.nds, R.ndm⟩
theorem Dr.app (R : Dr CR C HM H s dl P ts st ph ws ow dn n) {us : List Bool} : Dr CR C HM (upd H dl (.lst (us.map wV))) s dl P ts st ph ws ow us n := by
  have k : Kp dl H (upd H dl (.lst (us.map wV))) := Kp.upd
  obtain ⟨x, y, z, e, q⟩ := R.src
  exact ⟨Fam.wr R.fam k R.hd R.od.1, ⟨x, y, z, k _ _ R.nds.symm e, q⟩, R.so, fun b o nb e => ⟨k _ _ (fun z => by rw [z, R.ndm] at e; cases e) (R.base b o nb e).1, (R.base b o nb e).2⟩, upd_same, R.od, R.nds, R.ndm⟩
theorem Dr.new (R : Dr CR C HM H s dl P ts st ph ws ow dn n) {l : Addr} {us : List Bool} (h : H l = none) : Dr CR C HM (upd H l (.lst (us.map wV))) s l P ts st ph ws ow us n := by
  have k := Same.upd (o := .lst (us.map wV)) h
  have R' := R.same k
  obtain ⟨y, hy⟩ := R.src.has
  refine ⟨R'.fam, R'.src, R'.so, R'.base, upd_same, R.fam.freshP h, (ne_of_none hy h).symm, ?_⟩
  cases e : HM l with
  | none => rfl
  | some o =>
    by_cases c : l = s
    · rw [c, hy] at h; cases h
    · rw [(R.base l o c e).1] at h; cases h
end
/-! ### k54: driven, on and back -/
def spDriven (CR C : Addr) : Sp := fun vs H Q _ => ∃ s pa wl sp xs ts st ph, ∃ (ws : List Bool) (n : Nat), vs = [.ref s, .ref pa, .ref wl] ∧ Src H s n ∧ n ≤ 400000 ∧ H pa = some (.tup [.ref sp, .int st, .int ph]) ∧ H sp = some (.lst xs) ∧ s ≠ sp ∧ s ≠ wl ∧ Brs H xs ts ∧ (∀ t ∈ ts, OkT t) ∧ ts.length ≤ 12 ∧ 1 ≤ st ∧ st ≤ 1000 ∧ 0 ≤ ph ∧ ph ≤ 1000000000000000000000000000000 ∧ H wl = some (.lst (ws.map wV)) ∧ ws.length ≤ 200 ∧
  ∀ H', Src H' s (n + 40000) → Kp s H H' → Q (.bl true) H'
section
variable {P : Program} {w : World} {K : PySem.W.Frag} {mg : Str → Option Value} {base : Heap} {L : LA}
abbrev N_wdrivenright : List Str := ["_law_source", "_law_parts", "_law_words_here", "_law_specs_here", "_law_step", "_law_early", "_law_line", "_law_done", "_law_game", "_law_other", "_law_word", "_law_turn", "_law_states", "_law_time", "_law_due_here", "_law_back"]
theorem sc_wdrivenright : FnScope N_wdrivenright ["_law_source", "_law_parts", "_law_words_here"] (defScope st__law_driven_right) := ⟨rfl, rfl, rfl, by decide +kernel, rfl, by decide +kernel, by decide +kernel⟩
theorem fn_wdrivenright (T : LX K mg L) {fd : FuncData} (F : Fun K "_law_driven_right" "_law_driven_right" st__law_driven_right L.f__law_driven_right fd) : FnOk P w K mg base CX0 12 L.f__law_driven_right fd ["_law_source", "_law_parts", "_law_words_here"] (spDriven L.c_Row L.c_Playing) := by
  have G_Playingrequest := ok_Playingrequest (P := P) (w := w) (base := base) T
  have G_Playingundo := ok_Playingundo (P := P) (w := w) (base := base) T
  have G_Playingeq := ok_Playingeq (P := P) (w := w) (base := base) T
  have G_replay := ok_replay (P := P) (w := w) (base := base) T
  have G_wwords := ok_wwords (P := P) (w := w) (base := base) T
  have G_wdraw := ok_wdraw (P := P) (w := w) (base := base) T
  have G_wshown := ok_wshown (P := P) (w := w) (base := base) T
  have G_wdue := ok_wdue (P := P) (w := w) (base := base) T
  have G_wbehind := ok_wbehind (P := P) (w := w) (base := base) T
  have nd := sc_wdrivenright.nd
  refine F.ok sc_wdrivenright (fun vs H Q E h => ?_) (fun cdv A outer S H vs Q E hr h => ?_)
  · obtain ⟨s, pa, wl, sp, xs, ts, st, ph, ws, n, rfl, _⟩ := h
    rfl
  · obtain ⟨s, pa, wl, sp, xs, ts, st, ph, ws, n, rfl, src, hn, hpa, hsp, nsp, nsw, hb, ok, l12, s0, s1, p0, p1, hwl, wsl, k⟩ := h
    refine ⟨_, (pss_cons (ps_asg (pv 1) (pg_tup rfl (pgs_cons (pg_name (i := 3) nd rfl (Or.inl rfl)) (pgs_cons (pg_name (i := 4) nd rfl (Or.inl rfl)) (pgs_cons (pg_name (i := 5) nd rfl (Or.inl rfl)) pgs_nil)))))
       (pss_cons (ps_par (i := 6) (j := 7) (by rfl) nd rfl rfl (by decide) rfl rfl (pa_cons (pe_mkRow_p_phase T (hr.mono (by decide)) rfl (pa_cons (pv 3) (pa_cons (pv 4) pa_nil)) (pk_cons (pv 5) pk_nil)) (pa_cons (pe_callTy call_list_of (by rfl) T.b_list (by decide +kernel) (pa_cons (pv 2) pa_nil)) pa_nil)) (by rfl))
       (pss_cons (ps_par (i := 8) (j := 9) (by rfl) nd rfl rfl (by decide) rfl rfl (pa_cons (pe_mkPlaying T (hr.mono (by decide)) rfl (pa_cons (pv 6) pa_nil)) (pa_cons (pe_c G_replay (hr.mono (by decide)) rfl (pa_cons (pv 6) (pa_cons (pv 2) pa_nil))) pa_nil)) (by rfl))
       (pss_cons (ps_for PassesOwn.never rfl (pi_list (pv 2)) (pg_name (i := 10) nd rfl (Or.inl rfl)) (pss_one (ps_expr (G_Playingrequest.p_m1 T.cf_Playing.cl (hr.mono (by decide)) (pv 8) (pa_cons (pv 10) pa_nil)))))
       (pss_cons (ps_for PassesOwn.never rfl (pi_range1 rfl T.b_range (pa_cons pe_int pa_nil)) (pg_name (i := 11) nd rfl (Or.inl rfl)) (pss_cons (ps_if (PW.pt (pw_or (pt_cmpR (op_neSh T (hr.mono (by decide))) (pe_c G_wshown (hr.mono (by decide)) rfl (pa_cons (pv 8) pa_nil)) (pe_c G_wdue (hr.mono (by decide)) rfl (pa_cons (pv 1) (pa_cons (pv 7) pa_nil))) (nomark _)) (pw_or1 (pt_cmpR (op_neSh T (hr.mono (by decide))) (pe_c G_wshown (hr.mono (by decide)) rfl (pa_cons (pv 9) pa_nil)) (pe_c G_wdue (hr.mono (by decide)) rfl (pa_cons (pv 1) (pa_cons (pv 7) pa_nil))) (nomark _))))) (pss_one (ps_ret pe_bl)) pss_nil)
       (pss_cons (ps_for PassesOwn.never rfl (pi_list (pe_c G_wwords (hr.mono (by decide)) rfl (pa_cons (pv 0) (pa_cons pe_int pa_nil)))) (pg_name (i := 10) nd rfl (Or.inl rfl)) (pss_cons (ps_par (i := 12) (j := 13) (by rfl) nd rfl rfl (by decide) rfl rfl (pa_cons (pe_ix (r := rIxL K) ix_list (pe_c G_wdue (hr.mono (by decide)) rfl (pa_cons (pv 1) (pa_cons (pv 7) pa_nil))) pe_int (fun _ _ => rfl)) (pa_cons (pe_op op_add (pv 5) (pe_op op_mulW (pv 4) (pe_callB call_len_seq (by rfl) T.b_len PySem.boot_len (pa_cons (pv 7) pa_nil)))) pa_nil)) (by rfl))
       (pss_cons (ps_set (i := 14) nd rfl (Or.inl rfl) (pe_ix (r := rIxT K) ix_tup (pe_c G_wbehind (hr.mono (by decide)) rfl (pa_cons (pv 3) (pa_cons (pv 12) (pa_cons (pv 13) (pa_cons (pv 10) pa_nil))))) pe_int (fun _ _ => rfl)))
       (pss_cons (ps_if (PW.pt (pw_or (pt_cmpR (op_neD hr.units) (G_Playingrequest.p_m1 T.cf_Playing.cl (hr.mono (by decide)) (pv 8) (pa_cons (pv 10) pa_nil)) (pv 14) (nomark _)) (pw_or1 (pt_cmpR (op_neD hr.units) (G_Playingrequest.p_m1 T.cf_Playing.cl (hr.mono (by decide)) (pv 9) (pa_cons (pv 10) pa_nil)) (pv 14) (nomark _))))) (pss_one (ps_ret pe_bl)) pss_nil)
       (pss_cons (ps_expr (pe_bm PySem.F.plainAttrs_list PySem.F.slot_list_append PySem.F.type_list_append mt_append (pv 7) (pa_cons (pv 10) pa_nil)))
       (pss_one (ps_if (pt_cmpR (op_neSh T (hr.mono (by decide))) (pe_c G_wshown (hr.mono (by decide)) rfl (pa_cons (pv 9) pa_nil)) (pe_c G_wshown (hr.mono (by decide)) rfl (pa_cons (pv 8) pa_nil)) (nomark _)) (pss_one (ps_ret pe_bl)) pss_nil)))))))
       (pss_cons (ps_if (pt_cmpR (op_neSh T (hr.mono (by decide))) (pe_c G_wshown (hr.mono (by decide)) rfl (pa_cons (pv 9) pa_nil)) (pe_c G_wdue (hr.mono (by decide)) rfl (pa_cons (pv 1) (pa_cons (pv 7) pa_nil))) (nomark _)) (pss_one (ps_ret pe_bl)) pss_nil)
       (pss_cons (ps_set (i := 15) nd rfl (Or.inl rfl) (pe_c G_wdraw (hr.mono (by decide)) rfl (pa_cons (pv 0) (pa_cons (pe_op op_add (pe_callB call_len_seq (by rfl) T.b_len PySem.boot_len (pa_cons (pv 7) pa_nil)) pe_int) pa_nil))))
       (pss_cons (ps_expr (G_Playingundo.p_m1 T.cf_Playing.cl (hr.mono (by decide)) (pv 8) (pa_cons (pv 15) pa_nil)))
       (pss_cons (ps_expr (G_Playingundo.p_m1 T.cf_Playing.cl (hr.mono (by decide)) (pv 9) (pa_cons (pv 15) pa_nil)))
       (pss_one (ps_set (i := 7) nd rfl (Or.inl rfl) (pe_slice (r := rSlL K) sl_list (pv 7) po_none (po_some (pe_op op_sub (pe_callB call_len_seq (by rfl) T.b_len PySem.boot_len (pa_cons (pv 7) pa_nil)) (pv 15)))))))))))))
       (pss_one (ps_ret (pe_and (pe_cmpR (op_eqSh T (hr.mono (by decide))) (pe_c G_wshown (hr.mono (by decide)) rfl (pa_cons (pv 8) pa_nil)) (pe_c G_wdue (hr.mono (by decide)) rfl (pa_cons (pv 1) (pa_cons (pv 7) pa_nil))) (nomark _)) (pe_and (pe_cmpR (op_eqSh T (hr.mono (by decide))) (pe_c G_wshown (hr.mono (by decide)) rfl (pa_cons (pv 9) pa_nil)) (pe_c G_wshown (hr.mono (by decide)) rfl (pa_cons (pv 8) pa_nil)) (nomark _)) (pe_one (pe_cmpR (G_Playingeq.op_eq (hr.mono (by decide))) (pv 9) (pv 8) (nomark _)))))))))))), ?_⟩
    obtain ⟨ys0, hys0⟩ := src.has
    refine ⟨_, rfl, pa, _, rfl, SqT.of hpa, rfl, _, _, rfl, _, _, rfl, _, _, rfl, rfl, ?_⟩
    refine ⟨_, rfl, _, rfl, _, rfl, rfl, rfl, ?_⟩
    refine row_made (xs := xs) (ts := ts) hsp hb ok l12 ⟨by omega, by omega, by omega, by omega⟩ fun r B H1 R1 z1 nr1 => ?_
    refine ⟨_, rfl, wl, _, rfl, .inl (SqL.of (z1 _ _ hwl)), fun dl ndl => ?_⟩
    have z2 := Same.upd (o := .lst (ws.map wV)) ndl
    have hdl2 : upd H1 dl (.lst (ws.map wV)) dl = some (.lst (ws.map wV)) := upd_same
    generalize upd H1 dl (.lst (ws.map wV)) = H2 at z2 hdl2 ⊢
    have z12 := z1.trans z2
    refine ⟨_, _, rfl, ?_⟩
    refine ⟨_, rfl, playing_made (R1.nl (NL.of z2)) fun g H3 _ Yg zg ng => ?_⟩
    have F0 : Fm1 L.c_Row L.c_Playing H2 0 (fun _ => s) ts st ph (fun _ => []) (fun _ => AvS.non) := Fam.nil
    obtain ⟨pA, wsA, owA, FA, epA, ewA, _, SA⟩ := Fam.add2 F0 zg (Yg (AvS.dom H2) fun b hb => hb) ng
    refine ⟨_, rfl, _, rfl, r, B, xs, ts, st, ph, wl, ws, AvS.dom H3, rfl, R1.nl (NL.of (z2.trans zg)), (z12.trans zg) _ _ hwl, by omega, (fun b hb => hb), fun o H4 Yo ko no => ?_⟩
    have zo := keV_dom ko
    obtain ⟨p, ws4, ow4, FB, epB, ewB, ejB, SB⟩ := Fam.add2 FA zo (Yo.less fun b hb => AvS.tl hb) no
    have eg : p 0 = g := (ejB 0 (by decide)).1.trans epA
    have wg : ws4 0 = [] := (ejB 0 (by decide)).2.trans ewA
    have S24 := SA.trans SB
    have R0 : Dr L.c_Row L.c_Playing H H4 s dl p ts st ph ws4 ow4 ws n := by
      have stp : ∀ b u, H2 b = some u → H4 b = some u ∧ OutP 2 p ow4 b := fun b u e => S24 b u e ⟨fun i hi => absurd hi (Nat.not_lt_zero _), fun i hi => absurd hi (Nat.not_lt_zero _)⟩
      obtain ⟨x, y, z, e, q⟩ := src
      exact ⟨FB, ⟨x, y, z, (stp _ _ (z12 _ _ e)).1, q⟩, (stp _ _ (z12 _ _ e)).2, fun b u nb e => stp _ _ (z12 _ _ e), (stp _ _ hdl2).1, (stp _ _ hdl2).2, (ne_of_none (z1 _ _ hys0) ndl).symm, none_of z1 ndl⟩
    clear Yg Yo ko SA SB S24 FA FB F0 ejB zg zo hdl2 z2 R1
    have hwl4 := (R0.base _ _ nsw.symm hwl).1
    -- the one is driven by the words
    refine ⟨_, _, rfl, ?_⟩
    refine ⟨_, rfl, wl, rfl, ⟨_, SqL.of hwl4⟩, ?_⟩
    refine for_list (K := K) (a := wl) (xs := ws.map wV) (fun i σ Hx => ∃ (v10 : Option V) (wv : Nat → List Bool) (ow : Nat → AvS), σ = [some (.ref s), some (.ref pa), some (.ref wl), some (.ref sp), some (.int st), some (.int ph), some (.ref r), some (.ref dl), some (.ref g), some (.ref o), v10, none, none, none, none, none] ∧ Dr L.c_Row L.c_Playing H Hx s dl p ts st ph wv ow ws n ∧ wv 0 = ws.take i ∧ wv 1 = ws)
      ⟨none, ws4, ow4, rfl, R0, by rw [wg]; rfl, ewB⟩ (fun i σ Hx _ ⟨_, _, _, _, R, _⟩ => SqL.of (R.base _ _ nsw.symm hwl).1) ?_ ?_
    · rintro i v σ Hx hv ⟨v10, wv, ow, rfl, R, w0, w1⟩
      rw [List.getElem?_map] at hv
      obtain ⟨up, hup, rfl⟩ := Option.map_eq_some_iff.mp hv
      have iL := (List.getElem?_eq_some_iff.mp hup).1
      obtain ⟨Y, na⟩ := R.fam.av (i := 0) (by decide)
      rw [eg, w0] at Y
      obtain ⟨dx, rr', aw, ah, hq⟩ := Y.ob
      refine ⟨_, rfl, g, dx, _, rfl, hq, plF_no _ _ _ (by decide +kernel) (by decide +kernel) (by decide +kernel), _, rfl, g, oth Hx (ow 0), ts, st, ph, ws.take i, up, rfl, Y, by rw [List.length_take]; omega, na, fun x H' _ Y' k' => ?_⟩
      rw [← eg] at Y'
      obtain ⟨ws', ow', F', e1', ej', S'⟩ := Fam.req2 R.fam (by decide) Y' k'
      refine ⟨_, ws', ow', rfl, R.stp F' S', ?_, (ej' 1 (by decide)).trans w1⟩
      rw [e1', List.take_add_one, hup]
      rfl
    rintro σ H5 ⟨v10, wv, ow, rfl, R5, w0, w1⟩
    rw [List.length_map, List.take_length] at w0
    clear R0 hwl4 wg ewB
    have nps : pa ≠ s := fun z => by rw [z, hys0] at hpa; cases hpa
    have parts : ∀ {Hx : Hp} {dl : Addr} {wv : Nat → List Bool} {ow : Nat → AvS} {dn : List Bool} {m : Nat}, Dr L.c_Row L.c_Playing H Hx s dl p ts st ph wv ow dn m → Hx pa = some (.tup [.ref sp, .int st, .int ph]) ∧ Hx sp = some (.lst xs) ∧ Brs Hx xs ts := fun {Hx dl wv ow dn m} R =>
      ⟨(R.base _ _ nps hpa).1, (R.base _ _ nsp.symm hsp).1, hb.nl fun b u e q => (R.base _ _ (fun z => by rw [z, hys0] at e; cases e; exact q _ rfl) e).1⟩
    -- what both show is what is due
    have dueG : ∀ {Hx : Hp} {dl : Addr} {wv : Nat → List Bool} {ow : Nat → AvS} {dn : List Bool} {m : Nat}, Dr L.c_Row L.c_Playing H Hx s dl p ts st ph wv ow dn m → wv 0 = dn → PlV L.c_Row L.c_Playing (oth Hx (ow 0)) Hx g ts st ph dn := fun {Hx dl wv ow dn m} R e => by
      have := (R.fam.av (i := 0) (by decide)).1
      rw [eg, e] at this
      exact this
    have dueO : ∀ {Hx : Hp} {dl : Addr} {wv : Nat → List Bool} {ow : Nat → AvS} {dn : List Bool} {m : Nat}, Dr L.c_Row L.c_Playing H Hx s dl p ts st ph wv ow dn m → wv 1 = dn → PlV L.c_Row L.c_Playing (oth Hx (ow 1)) Hx o ts st ph dn := fun {Hx dl wv ow dn m} R e => by
      have := (R.fam.av (i := 1) (by decide)).1
      rw [epB, e] at this
      exact this
    refine ⟨3, rfl, by decide, by decide, ?_⟩
    refine for_range (lo := 0) (n := 3) (fun j σ Hx => ∃ (dl : Addr) (dn : List Bool) (wv : Nat → List Bool) (ow : Nat → AvS) (v10 v11 v12 v13 v14 v15 : Option V), σ = [some (.ref s), some (.ref pa), some (.ref wl), some (.ref sp), some (.int st), some (.int ph), some (.ref r), some (.ref dl), some (.ref g), some (.ref o), v10, v11, v12, v13, v14, v15] ∧ Dr L.c_Row L.c_Playing H Hx s dl p ts st ph wv ow dn (n + 12000 * j) ∧ wv 0 = dn ∧ wv 1 = dn ∧ dn.length ≤ 200 + 20 * j)
      ⟨dl, ws, wv, ow, v10, none, none, none, none, none, rfl, R5, w0, w1, by omega⟩ ?_ ?_
    · clear R5 w0 w1
      rintro j σ Hx hj ⟨dl, dn, wv, ow, v10, v11, v12, v13, v14, v15, rfl, R, w0, w1, dnl⟩
      refine ⟨_, rfl, g, _, ts, st, ph, _, rfl, dueG R w0, by omega, fun la HA sha zAHA nla => ?_⟩
      have RHA := R.same zAHA
      obtain ⟨pp1, pp2, pp3⟩ := parts RHA
      refine ⟨_, rfl, _, rfl, pa, sp, _, xs, ts, st, ph, _, rfl, pp1, pp2, pp3, ok, l12, s0, s1, p0, p1, RHA.hd, by omega, fun lb HB shb _ zBHA nlb => ⟨shW_eq ((sha.same Fr.le).same zBHA) (shb.same Fr.le), fun HC zCHA => ⟨_, rfl, iteF ?_⟩⟩⟩
      have RHC := (RHA.same zBHA).same zCHA
      clear RHA zAHA zBHA zCHA sha shb
      refine ⟨_, rfl, o, _, ts, st, ph, _, rfl, dueO RHC w1, by omega, fun la HD sha zAHD nla => ?_⟩
      have RHD := RHC.same zAHD
      obtain ⟨pp1, pp2, pp3⟩ := parts RHD
      refine ⟨_, rfl, _, rfl, pa, sp, _, xs, ts, st, ph, _, rfl, pp1, pp2, pp3, ok, l12, s0, s1, p0, p1, RHD.hd, by omega, fun lb HE shb _ zBHD nlb => ⟨shW_eq ((sha.same Fr.le).same zBHD) (shb.same Fr.le), fun HF zCHD => ⟨_, rfl, iteF ?_⟩⟩⟩
      have RHF := (RHD.same zBHD).same zCHD
      clear RHD zAHD zBHD zCHD sha shb
      -- some words more
      have n1 : n + 12000 * j ≤ 424000 := by omega
      refine ⟨_, rfl, s, _, 4, rfl, RHF.src, by omega, by decide, by decide, fun lw wd HG hlw wdl srcG kG nlw => ⟨lw, rfl, ⟨_, SqL.of hlw⟩, ?_⟩⟩
      have wd20 : wd.length ≤ 20 := by omega
      have RG := RHF.draw kG (srcG.mono (m := n + 12000 * j + 9909) (by show _ + 1101 + 2202 * (4 : Int).toNat ≤ _; have : (4 : Int).toNat = 4 := rfl; omega))
      have olw := RHF.fam.freshP nlw
      have lwd : lw ≠ dl := (ne_of_none RHF.hd nlw).symm
      clear R RHC RHF srcG kG nlw
      refine for_list (K := K) (a := lw) (xs := wd.map wV) (fun i σ Hx => ∃ (wv : Nat → List Bool) (ow : Nat → AvS) (v10 v12 v13 v14 : Option V), σ = [some (.ref s), some (.ref pa), some (.ref wl), some (.ref sp), some (.int st), some (.int ph), some (.ref r), some (.ref dl), some (.ref g), some (.ref o), v10, some (.int (0 + (j : Int))), v12, v13, v14, v15] ∧ Dr L.c_Row L.c_Playing H Hx s dl p ts st ph wv ow (dn ++ wd.take i) (n + 12000 * j + 9909) ∧ wv 0 = dn ++ wd.take i ∧ wv 1 = dn ++ wd.take i ∧ Hx lw = some (.lst (wd.map wV)) ∧ OutP 2 p ow lw)
        ⟨wv, ow, v10, v12, v13, v14, rfl, by rw [List.take_zero, List.append_nil]; exact RG, by rw [w0, List.take_zero, List.append_nil], by rw [w1, List.take_zero, List.append_nil], hlw, olw⟩ (fun i σ Hx _ ⟨_, _, _, _, _, _, _, _, _, _, h, _⟩ => SqL.of h) ?_ ?_
      · clear RG w0 w1 hlw olw
        rintro i v σ Hx hv ⟨wv, ow, v10, v12, v13, v14, rfl, R, w0, w1, hlw, olw⟩
        rw [List.getElem?_map] at hv
        obtain ⟨up, hup, rfl⟩ := Option.map_eq_some_iff.mp hv
        have iL := (List.getElem?_eq_some_iff.mp hup).1
        have dl2 : (dn ++ wd.take i).length ≤ 280 := by rw [List.length_append, List.length_take]; omega
        have en : wd.take (i + 1) = wd.take i ++ [up] := by rw [List.take_add_one, hup]; rfl
        generalize hdd : dn ++ wd.take i = dd at R w0 w1 dl2
        obtain ⟨pp1, pp2, pp3⟩ := parts R
        refine ⟨_, rfl, _, rfl, pa, sp, dl, xs, ts, st, ph, dd, rfl, pp1, pp2, pp3, ok, l12, s0, s1, p0, p1, R.hd, by omega, fun la HA sha nwa zA nla => ?_⟩
        obtain ⟨la', a, c, r', xs', B', bx', e, h1, h2, h3, h4, h5⟩ := sha.same Fr.le
        cases e
        have RA := R.same zA
        have hlwA := zA _ _ hlw
        refine ⟨la, _, 0, .ref a, rfl, rfl, SqL.of h1, rfl, ?_⟩
        refine ⟨_, rfl, _, rfl, _, rfl, dl, _, rfl, .inl (SqL.of RA.hd), _, _, rfl, rfl, wide_mul (a := 20) (b := 100) (Nat.lt_of_le_of_lt (show st.natAbs ≤ 1000 by omega) (by decide)) (Nat.lt_of_le_of_lt (show (((dd.map wV).length : Nat) : Int).natAbs ≤ 10000 by rw [List.length_map]; omega) (by decide)) (by decide) (by decide) (by decide), _, _, rfl, rfl, _, _, rfl, ?_⟩
        obtain ⟨qq1, qq2, qq3⟩ := parts RA
        have et : ph + st * (((dd.map wV).length : Nat) : Int) = ph + (dd.length : Int) * st := by rw [List.length_map, Int.mul_comm]
        have ins := plA_in ok s0 s1 p0 p1 dd dd.length (by omega)
        rw [List.take_length] at ins
        refine ⟨_, rfl, _, rfl, _, rfl, _, rfl, sp, a, xs, xs', ts, plA ts st ph dd, _, up, rfl, qq2, qq3, h2, h3, ins, by omega, fun q y l2 ys2 HB hq tq hl2 hs2 zB nq nl2 => ?_⟩
        rw [et] at tq
        refine ⟨q, _, 1, y, rfl, rfl, SqT.of hq, rfl, ?_⟩
        have RB := RA.same zB
        have hlwB := zB _ _ hlwA
        -- both are asked
        obtain ⟨YG, naG⟩ := RB.fam.av (i := 0) (by decide)
        rw [eg, w0] at YG
        obtain ⟨dx, rr', aw, ah, hp⟩ := YG.ob
        refine ⟨_, rfl, g, dx, _, rfl, hp, plF_no _ _ _ (by decide +kernel) (by decide +kernel) (by decide +kernel), _, rfl, g, oth HB (ow 0), ts, st, ph, dd, up, rfl, YG, by omega, naG, fun x HC tld Y' k' => ?_⟩
        rw [← eg] at Y'
        obtain ⟨wsC, owC, FC, eC0, eCj, SC⟩ := Fam.req2 RB.fam (by decide) Y' k'
        have RC := RB.stp FC SC
        have wC1 := (eCj 1 (by decide)).trans w1
        have hlwC := SC _ _ hlwB olw
        have tqC := tq.nl k'.nl
        refine ⟨_, rfl, _, _, tld.dp, tqC.dp, outD_sh _ _ _, outD_sh _ _ _, ?_⟩
        rw [outD_eq]
        refine ⟨_, rfl, iteF ?_⟩
        obtain ⟨YO, naO⟩ := RC.fam.av (i := 1) (by decide)
        rw [epB, wC1] at YO
        obtain ⟨dx2, rr2, aw2, ah2, hp2⟩ := YO.ob
        refine ⟨_, rfl, o, dx2, _, rfl, hp2, plF_no _ _ _ (by decide +kernel) (by decide +kernel) (by decide +kernel), _, rfl, o, oth HC (owC 1), ts, st, ph, dd, up, rfl, YO, by omega, naO, fun x2 HD tld2 Y2 k2 => ?_⟩
        rw [← epB] at Y2
        obtain ⟨wsD, owD, FD, eD0, eDj, SD⟩ := Fam.req2 RC.fam (by decide) Y2 k2
        have RD := RC.stp FD SD
        have wD0 := (eDj 0 (by decide)).trans eC0
        have hlwD := SD _ _ hlwC.1 hlwC.2
        refine ⟨_, rfl, _, _, tld2.dp, (tqC.nl k2.nl).dp, outD_sh _ _ _, outD_sh _ _ _, ?_⟩
        rw [outD_eq]
        refine ⟨_, rfl, iteF ?_⟩
        -- the list grows
        refine ⟨_, rfl, .inl ⟨rfl, _, SqL.of RD.hd⟩, _, rfl, dl, _, _, rfl, rfl, RD.hd, small1 (by rw [List.length_map]; omega), ?_⟩
        have RE := RD.app (us := dd ++ [up])
        rw [List.map_append] at RE
        have hlwE : (upd HD dl (.lst (dd.map wV ++ [up].map wV))) lw = some (.lst (wd.map wV)) := by rw [upd_ne lwd]; exact hlwD.1
        have dd2 : (dd ++ [up]).length ≤ 300 := by rw [List.length_append, List.length_singleton]; omega
        refine ⟨_, rfl, o, _, ts, st, ph, _, rfl, dueO RE eD0, by omega, fun la HF sha zF nla => ?_⟩
        have RF := RE.same zF
        refine ⟨_, rfl, g, _, ts, st, ph, _, rfl, dueG RF wD0, by omega, fun lb HG shb zG nlb => ⟨shW_eq ((sha.same Fr.le).same zG) (shb.same Fr.le), fun HI zI => ⟨_, rfl, iteF ?_⟩⟩⟩
        have RI := (RF.same zG).same zI
        rw [en, ← List.append_assoc, hdd]
        exact ⟨wsD, owD, _, _, _, _, rfl, RI, wD0, eD0, zI _ _ (zG _ _ (zF _ _ hlwE)), hlwD.2⟩
      rintro σ HI ⟨wv2, ow2, v10', v12', v13', v14', rfl, RI, w0', w1', _, _⟩
      rw [List.length_map, List.take_length] at RI w0' w1'
      have dl3 : (dn ++ wd).length ≤ 220 + 20 * j := by rw [List.length_append]; omega
      clear RG w0 w1 hlw olw lwd
      generalize dn ++ wd = dm at RI w0' w1' dl3
      refine ⟨_, rfl, o, _, ts, st, ph, _, rfl, dueO RI w1', by omega, fun la HJ sha zAHJ nla => ?_⟩
      have RHJ := RI.same zAHJ
      obtain ⟨pp1, pp2, pp3⟩ := parts RHJ
      refine ⟨_, rfl, _, rfl, pa, sp, _, xs, ts, st, ph, _, rfl, pp1, pp2, pp3, ok, l12, s0, s1, p0, p1, RHJ.hd, by omega, fun lb HK shb _ zBHJ nlb => ⟨shW_eq ((sha.same Fr.le).same zBHJ) (shb.same Fr.le), fun HL zCHJ => ⟨_, rfl, iteF ?_⟩⟩⟩
      have RHL := (RHJ.same zBHJ).same zCHJ
      clear RHJ zAHJ zBHJ zCHJ sha shb
      -- back again
      refine ⟨_, rfl, _, rfl, dl, _, rfl, .inl (SqL.of RHL.hd), _, _, rfl, rfl, s, _, _, rfl, ?_, ?_, RHL.src, by omega, fun bk' HM b0 b1 srcM kM => ?_⟩
      · rw [List.length_map]; omega
      · exact Nat.lt_of_le_of_lt (show ((((dm.map wV).length : Nat) : Int) + 1).natAbs ≤ 301 by rw [List.length_map]; omega) (by decide +kernel)
      rw [List.length_map] at b1
      obtain ⟨bk, rfl⟩ : ∃ bk : Nat, bk' = (bk : Int) := ⟨bk'.toNat, by omega⟩
      have RM := RHL.draw kM srcM
      obtain ⟨YG, naG⟩ := RM.fam.av (i := 0) (by decide)
      rw [eg, w0'] at YG
      obtain ⟨dx, rr', aw, ah, hp⟩ := YG.ob
      refine ⟨_, rfl, g, dx, _, rfl, hp, plF_no _ _ _ (by decide +kernel) (by decide +kernel) (by decide +kernel), _, rfl, g, oth HM (ow2 0), ts, st, ph, dm, bk, rfl, YG, by omega, by omega, naG, fun HN YN kN => ?_⟩
      rw [← eg] at YN kN
      obtain ⟨wsN, owN, FN, eN0, eNj, SN⟩ := Fam.undo2 RM.fam (by decide) YN kN
      have RN := RM.stp FN SN
      have wN1 := (eNj 1 (by decide)).trans w1'
      obtain ⟨YO, naO⟩ := RN.fam.av (i := 1) (by decide)
      rw [epB, wN1] at YO
      obtain ⟨dx2, rr2, aw2, ah2, hp2⟩ := YO.ob
      refine ⟨_, rfl, o, dx2, _, rfl, hp2, plF_no _ _ _ (by decide +kernel) (by decide +kernel) (by decide +kernel), _, rfl, o, oth HN (owN 1), ts, st, ph, dm, bk, rfl, YO, by omega, by omega, naO, fun HP YP kP => ?_⟩
      rw [← epB] at YP kP
      obtain ⟨wsP, owP, FP, eP0, ePj, SP'⟩ := Fam.undo2 RN.fam (by decide) YP kP
      have RP := RN.stp FP SP'
      have wP0 := (ePj 0 (by decide)).trans eN0
      obtain ⟨m, hm⟩ : ∃ m : Nat, (dm.length : Int) - (bk : Int) = (m : Int) := ⟨((dm.length : Int) - (bk : Int)).toNat, by omega⟩
      refine ⟨_, rfl, _, rfl, dl, _, rfl, .inl (SqL.of RP.hd), _, rfl, _, _, rfl, rfl, (m : Int), ?_, dl, _, rfl, SqL.of RP.hd, fun ln nln => ?_⟩
      · show V.int ((((dm.map wV).length : Int)) - (bk : Int)) = _
        rw [List.length_map, hm]
      rw [cut_take0 _ _ (by rw [List.length_map]; omega), ← List.map_take]
      have em : dm.length - bk = m := by omega
      rw [em] at wP0 eP0
      have RQ := (RP.new nln (us := dm.take m)).mono (m := n + 12000 * (j + 1)) (by omega)
      exact ⟨ln, dm.take m, wsP, owP, _, _, _, _, _, _, rfl, RQ, wP0, eP0, by rw [List.length_take]; omega⟩
    · rintro σ Hx ⟨dl, dn, wv, ow, v10, v11, v12, v13, v14, v15, rfl, R, w0, w1, dnl⟩
      refine ⟨_, rfl, g, _, ts, st, ph, _, rfl, dueG R w0, by omega, fun la HA sha zAHA nla => ?_⟩
      have RHA := R.same zAHA
      obtain ⟨pp1, pp2, pp3⟩ := parts RHA
      refine ⟨_, rfl, _, rfl, pa, sp, _, xs, ts, st, ph, _, rfl, pp1, pp2, pp3, ok, l12, s0, s1, p0, p1, RHA.hd, by omega, fun lb HB shb _ zBHA nlb => ⟨shW_eq ((sha.same Fr.le).same zBHA) (shb.same Fr.le), fun HC zCHA => ⟨_, rfl, iteT ?_⟩⟩⟩
      have RHC := (RHA.same zBHA).same zCHA
      clear RHA zAHA zBHA zCHA sha shb
      refine ⟨_, rfl, o, _, ts, st, ph, _, rfl, dueO RHC w1, by omega, fun la HD sha zD nla => ?_⟩
      have RD := RHC.same zD
      refine ⟨_, rfl, g, _, ts, st, ph, _, rfl, dueG RD w0, by omega, fun lb HE shb zE nlb => ⟨shW_eq ((sha.same Fr.le).same zE) (shb.same Fr.le), fun HF zF => ⟨_, rfl, iteT ?_⟩⟩⟩
      have RF := (RD.same zE).same zF
      refine ⟨_, rfl, _, rfl, eq_pl (dueO RF w1) (dueG RF w0) ?_⟩
      rw [decide_eq_true rfl]
      exact k HF (RF.src.mono (by omega)) fun b u nb e => (RF.base b u nb e).1
theorem ok_wdrivenright (T : LX K mg L) : Cal P w K mg base "_law_driven_right" 12 L.f__law_driven_right ["_law_source", "_law_parts", "_law_words_here"] (spDriven L.c_Row L.c_Playing) := T.d__law_driven_right.cal fun fd F => fn_wdrivenright T F
end
/-! ### what was told, as data -/
def toL (ts : List Tri) (st ph : Int) (ws : List Bool) : List PyData := (List.range ws.length).map fun (j : Nat) => outD ts.length (kOf ts (plA ts st ph (ws.take j)) (ph + (j : Int) * st)) (!(ws[j]?.getD false))
theorem dpAll_of {K : PySem.W.Frag} {H : Hp} : ∀ {xs : List V} {ds : List PyData}, xs.length = ds.length → (∀ (j : Nat) (x : V) (d : PyData), xs[j]? = some x → ds[j]? = some d → Dp K H x d) → DpAll K H xs ds
  | [], [], _, _ => .nil
  | [], _ :: _, h, _ => nomatch h
  | _ :: _, [], h, _ => nomatch h
  | x :: xs, d :: ds, h, f => .cons (f 0 x d rfl rfl) (dpAll_of (by simpa using h) fun j y e h1 h2 => f (j + 1) y e h1 h2)
theorem Tlds.dpW {K : PySem.W.Frag} {H : Hp} {xs : List V} {ts : List Tri} {st ph : Int} {ws : List Bool} (h : Tlds K H xs ts st ph ws) : DpAll K H xs (toL ts st ph ws) := by
  refine dpAll_of (by unfold toL; rw [List.length_map, List.length_range]; exact h.1) fun j x d h1 h2 => ?_
  have jN : j < ws.length := by have := (List.getElem?_eq_some_iff.mp h1).1; rw [h.1] at this; exact this
  unfold toL at h2
  rw [List.getElem?_map, List.getElem?_range jN] at h2
  have e : ws[j]? = some ws[j] := List.getElem?_eq_getElem jN
  replace h2 : some (outD ts.length (kOf ts (plA ts st ph (ws.take j)) (ph + (j : Int) * st)) (!(ws[j]?.getD false))) = some d := h2
  rw [e] at h2
  cases h2
  obtain ⟨x', hx, t⟩ := h.2 j _ e
  rw [h1] at hx
  cases hx
  exact t.dp
theorem outD_can (n k : Nat) (b : Bool) : (outD n k b).canLay0 = true ∧ (outD n k b).depth ≤ 10 := by
  unfold outD
  split
  · exact ⟨by simp [PyData.canLayAll0, PyData.canLay0, sok_R], by simp [PyData.depthAll, PyData.depth]⟩
  · cases b <;> exact ⟨by simp [PyData.canLayAll0, PyData.canLay0, sok_S, sok_F], by simp [PyData.depthAll, PyData.depth]⟩
theorem all_can : ∀ ds : List PyData, (∀ d ∈ ds, d.canLay0 = true ∧ d.depth ≤ 10) → PyData.canLayAll0 ds = true ∧ PyData.depthAll ds ≤ 11
  | [], _ => ⟨by simp [PyData.canLayAll0], by simp [PyData.depthAll]⟩
  | d :: ds, h => by
    obtain ⟨h1, h2⟩ := all_can ds fun d hd => h d (List.mem_cons_of_mem _ hd)
    obtain ⟨h3, h4⟩ := h d (List.mem_cons_self ..)
    refine ⟨?_, ?_⟩
    · rw [PyData.canLayAll0, h1, h3]
      rfl
    · rw [PyData.depthAll]
      omega
theorem toL_sh (ts : List Tri) (st ph : Int) (ws : List Bool) : SeqAt.shaped (.list (toL ts st ph ws)) = true := by
  obtain ⟨h1, h2⟩ := all_can (toL ts st ph ws) fun d hd => by
    obtain ⟨j, _, rfl⟩ := List.mem_map.mp hd
    exact outD_can _ _ _
  refine Bool.and_eq_true_iff.mpr ⟨?_, decide_eq_true ?_⟩
  · rw [PyData.canLay0]
    exact h1
  · rw [PyData.depth]
    omega
theorem toL_eq (ts : List Tri) (st ph : Int) (ws : List Bool) : PyData.eqv (.list (toL ts st ph ws)) (.list (toL ts st ph ws)) = true := SeqAt.eqv_refl _ (Bool.and_eq_true_iff.mp (toL_sh ts st ph ws)).1
section
variable {X : Cx} {L : LA}
/-- Playing(row=..) -/
theorem pe_mkPlaying_row (T : LX X.K X.mg L) (hr : Room 5 X.A) {p pos : Pos} {kws : List Keyword} {tk : TA} (hg : Gl X "Playing") (hkw : PK X kws tk)
    (hall : (backToKw pos (keywordEach kws X.env)).all (·.1.isSome) = true := by rfl) (hks : (backToKw pos (keywordEach kws X.env)).filterMap (·.1) = (["row"] : List Str) := by rfl)
    (hpl : ((backTo pos (starEach [] X.env)).any (·.1) || (backToKw pos (keywordEach kws X.env)).any (·.1.isNone)) = false := by rfl) :
    PE X (.Call (.Name "Playing" p) [] kws pos) (tMakeK L.c_Playing 0 1 (spPInit L.c_Row L.c_Playing) (fun us ws => us ++ ws) E0 tNil tk) := by
  obtain ⟨fd, F, _⟩ := T.in_Playing
  have hb : KBn X.K fd ["self", "row"] 1 ["row"] (fun us ws => us ++ ws) (fun us ws => us ++ ws) := by
    have F2 := F
    refine ⟨fun s us ws hX h1 h2 => ?_, fun r1 r2 => r1.append r2⟩
    obtain ⟨oc, od, kV, doc, pm, an, cdv, ct, osl, rfl, lk, hcd⟩ := F2.ex
    match us, ws, h1, h2 with
    | [u], [v], _, _ => exact .of_eq rfl
  exact pe_makeK0 T.mk_Playing (fn_Playinginit T F) hr hg T.gc_Playing hb pass0 hkw hall hks (by decide) hpl
end
/-! ### some Playings, and what was before them -/
structure Ln (CR C : Addr) (HM H : Hp) (n : Nat) (P : Nat → Addr) (ts : List Tri) (st ph : Int) (ws : Nat → List Bool) (ow : Nat → AvS) : Prop where
  fam : Fm1 CR C H n P ts st ph ws ow
  base : ∀ b o, HM b = some o → H b = some o ∧ OutP n P ow b
section
variable {CR C : Addr} {HM H H' : Hp} {n : Nat} {P : Nat → Addr} {ts : List Tri} {st ph : Int} {ws : Nat → List Bool} {ow : Nat → AvS}
theorem Ln.same (R : Ln CR C HM H n P ts st ph ws ow) (k : Same H H') : Ln CR C HM H' n P ts st ph ws ow := ⟨Fam.same R.fam k, fun b o e => ⟨k _ _ (R.base b o e).1, (R.base b o e).2⟩⟩
theorem Ln.wr (R : Ln CR C HM H n P ts st ph ws ow) {a : Addr} {xs : List V} (k : Kp a H H') (h : H a = some (.lst xs)) (o : OutP n P ow a) (nm : HM a = none) : Ln CR C HM H' n P ts st ph ws ow :=
  ⟨Fam.wr R.fam k h o.1, fun b u e => ⟨k _ _ (fun z => by rw [z, nm] at e; cases e) (R.base b u e).1, (R.base b u e).2⟩⟩
theorem Ln.stp (R : Ln CR C HM H n P ts st ph ws ow) {n' : Nat} {P' : Nat → Addr} {ws' : Nat → List Bool} {ow' : Nat → AvS} (F : Fm1 CR C H' n' P' ts st ph ws' ow') (S : Stp n P H ow n' P' H' ow') : Ln CR C HM H' n' P' ts st ph ws' ow' :=
  ⟨F, fun b u e => S _ _ (R.base b u e).1 (R.base b u e).2⟩
theorem Ln.all (R : Ln CR C HM H n P ts st ph ws ow) : Same HM H := fun b u e => (R.base b u e).1
end
theorem Ln.one {CR C : Addr} {HM H : Hp} {g : Addr} {ts : List Tri} {st ph : Int} {wd : List Bool} {av : AvS} (Y : PlV CR C av H g ts st ph wd) (s : Same HM H) (ng : HM g = none) (av2 : ∀ b, HM b ≠ none → b ∈ av) : ∃ ow : Nat → AvS, Ln CR C HM H 1 (fun _ => g) ts st ph (fun _ => wd) ow ∧ ∀ b, b ∈ av → b ≠ g → OutP 1 (fun _ => g) ow b := by
  obtain ⟨o, po, no⟩ := Y.po
  refine ⟨fun _ => o, ⟨⟨fun i _ => po, fun i j hi hj ne => absurd (by omega) ne, fun i j hi hj ne => absurd (by omega) ne⟩, fun b u e => ⟨s _ _ e, fun i _ => no b (av2 b (by rw [e]; exact fun z => nomatch z)), fun i _ z => ?_⟩⟩, fun b hb nb => ⟨fun i _ => no b hb, fun i _ => nb⟩⟩
  rw [z, ng] at e
  cases e
/-! ### k54: the law -/
def spLawT (K : PySem.W.Frag) (L : LA) : Sp := fun vs H Q _ => ∃ (a : Addr) (ns : List Int), vs = [.ref a] ∧ SqL K H a (ns.map V.int) ∧ ns.length ≤ 63 ∧ LamX.Tabs (LT L) H ∧ ∀ H', Q (.bl true) H'
section
variable {P : Program} {w : World} {K : PySem.W.Frag} {mg : Str → Option Value} {base : Heap} {L : LA}
abbrev N_law : List Str := ["_law_script", "_law_at", "_law_cell", "_law_source", "_law_specs_here", "_law_step", "_law_early", "_law_line", "_law_words_here", "_law_game", "_law_told", "_law_again", "_law_handed", "_law_other", "_law_word"]
theorem sc_law : FnScope N_law ["_law_script"] (defScope st_law) := ⟨rfl, rfl, rfl, by decide +kernel, rfl, by decide +kernel, by decide +kernel⟩
theorem ok_law {aLaw : Addr} {fd : FuncData} (F : Fun K "law" "law" st_law aLaw fd) (T : LX K mg L) (B : TX base mg L) : FnOk P w K mg base CX0 15 aLaw fd ["_law_script"] (spLawT K L) := by
  have G_Playingrequest := ok_Playingrequest (P := P) (w := w) (base := base) T
  have G_wsourceof := ok_wsourceof (P := P) (w := w) (base := base) T
  have G_outcomes := ok_outcomes (P := P) (w := w) (base := base) T
  have G_replay := ok_replay (P := P) (w := w) (base := base) T
  have G_Playingeq := ok_Playingeq (P := P) (w := w) (base := base) T
  have G_wspecs := ok_wspecs (P := P) (w := w) (base := base) T
  have G_wdraw := ok_wdraw (P := P) (w := w) (base := base) T
  have G_wwords := ok_wwords (P := P) (w := w) (base := base) T
  have G_Playingstatelist := ok_Playingstatelist (P := P) (w := w) (base := base) T
  have G_Playinglog := ok_Playinglog (P := P) (w := w) (base := base) T
  have G_wrefusedright := ok_wrefusedright (P := P) (w := w) (base := base) T B
  have G_wcellat := ok_wcellat (P := P) (w := w) (base := base) T
  have G_wchoice := ok_wchoice (P := P) (w := w) (base := base) T
  have G_wdrivenright := ok_wdrivenright (P := P) (w := w) (base := base) T
  have nd := sc_law.nd
  refine F.ok sc_law (fun vs H Q E h => ?_) (fun cdv A outer S H vs Q E hr h => ?_)
  · obtain ⟨a, ns, rfl, _⟩ := h
    rfl
  · obtain ⟨a, ns, rfl, hS, ln, tabs, k⟩ := h
    refine ⟨_, (pss_cons (ps_for PassesOwn.never rfl (pi_enum (by rfl) T.b_enumerate (pa_cons (pe_op op_cat (pe_lst (pa_cons (pe_c G_wcellat (hr.mono (by decide)) rfl (pa_cons (pv 0) (pa_cons pe_int pa_nil))) pa_nil)) (pe_slice (r := rSlL K) sl_list (pv 0) (po_some pe_int) (po_some pe_int))) pa_nil)) (pg_tup rfl (pgs_cons (pg_name (i := 1) nd rfl (Or.inl rfl)) (pgs_cons (pg_name (i := 2) nd rfl (Or.inl rfl)) pgs_nil))) (pss_cons (ps_set (i := 3) nd rfl (Or.inl rfl) (pe_c G_wsourceof (hr.mono (by decide)) rfl (pa_cons (pv 2) pa_nil)))
       (pss_cons (ps_par3 (i := 4) (j := 5) (l := 6) (by rfl) nd rfl rfl rfl (by decide) (by decide) (by decide) rfl rfl rfl (pa_cons (pe_c G_wspecs (hr.mono (by decide)) rfl (pa_cons (pv 3) (pa_cons pe_int (pa_cons pe_int pa_nil)))) (pa_cons (pe_op op_add pe_int (pe_c G_wdraw (hr.mono (by decide)) rfl (pa_cons (pv 3) (pa_cons pe_int pa_nil)))) (pa_cons pe_int pa_nil))) (by rfl))
       (C8.pss_cut (ps_if (pt_cmpR op_gt (pe_c G_wdraw (hr.mono (by decide)) rfl (pa_cons (pv 3) (pa_cons pe_int pa_nil))) pe_int (nomark _)) (pss_one (ps_set (i := 6) nd rfl (Or.inl rfl) (pe_c G_wdraw (hr.mono (by decide)) rfl (pa_cons (pv 3) (pa_cons (pe_c G_wchoice (hr.mono (by decide)) rfl (pa_cons (pv 3) (pa_cons (pe_lst (pa_cons pe_int (pa_cons pe_int (pa_cons (pe_op op_add (pe_op op_pow pe_int pe_int) pe_int) pa_nil)))) pa_nil))) pa_nil))))) pss_nil)
       (pss_cons (ps_par (i := 7) (j := 8) (by rfl) nd rfl rfl (by decide) rfl rfl (pa_cons (pe_mkRow_p_phase T (hr.mono (by decide)) rfl (pa_cons (pv 4) (pa_cons (pv 5) pa_nil)) (pk_cons (pv 6) pk_nil)) (pa_cons (pe_c G_wwords (hr.mono (by decide)) rfl (pa_cons (pv 3) (pa_cons pe_int pa_nil))) pa_nil)) (by rfl))
       (pss_cons (ps_set (i := 9) nd rfl (Or.inr rfl) (pe_mkPlaying_row T (hr.mono (by decide)) rfl  (pk_cons (pv 7) pk_nil)))
       (pss_cons (ps_setLc (i := 10) (own := [("_law_word", 14)]) (g := gName 14) (tt := tYes) rfl nd rfl rfl (sw_true rfl rfl rfl (by decide +kernel)) (pi_list (pv 8)) (blkOk_by (own := [("_law_word", 14)]) (N := N_law) (sc := defScope st_law) (by decide +kernel)) (fun _ _ _ _ _ => pg_name (i := 14) nd rfl (Or.inl rfl)) (fun _ _ _ _ _ => pts_nil) (fun _ _ _ _ _ => (G_Playingrequest.p_m1 T.cf_Playing.cl (hr.mono (by decide)) (pv 9) (pa_cons (pv 14) pa_nil))))
       (pss_cons (ps_set (i := 11) nd rfl (Or.inl rfl) (pe_c G_outcomes (hr.mono (by decide)) rfl (pa_cons (pv 7) (pa_cons (pv 8) pa_nil))))
       (pss_cons (ps_expr (pe_bm PySem.F.plainAttrs_list PySem.F.slot_list_append PySem.F.type_list_append mt_append (pv 11) (pa_cons pe_non pa_nil)))
       (pss_cons (ps_set (i := 12) nd rfl (Or.inl rfl) (pe_callTy call_list_of (by rfl) T.b_list (by decide +kernel) (pa_cons (pv 8) pa_nil)))
       (pss_cons (ps_set (i := 13) nd rfl (Or.inl rfl) (pe_c G_replay (hr.mono (by decide)) rfl (pa_cons (pv 7) (pa_cons (pv 12) pa_nil))))
       (pss_cons (ps_if (PW.pt (pw_or (pt_cmpR (G_Playingeq.op_ne (hr.mono (by decide)) T.cf_Playing.om T.cf_Playing.ne) (pv 13) (pv 9) (nomark _)) (pw_or (pt_cmpR (op_neD hr.units) (G_Playingstatelist.p_m0 T.cf_Playing.cl (hr.mono (by decide)) (pv 13)) (G_Playingstatelist.p_m0 T.cf_Playing.cl (hr.mono (by decide)) (pv 9)) (nomark _)) (pw_or1 (pt_cmpR (op_neD hr.units) (pe_c G_outcomes (hr.mono (by decide)) rfl (pa_cons (pv 7) (pa_cons (pv 8) pa_nil))) (pv 10) (nomark _)))))) (pss_one (ps_ret pe_bl)) pss_nil)
       (pss_cons (ps_expr (G_Playingrequest.p_m1 T.cf_Playing.cl (hr.mono (by decide)) (pv 13) (pa_cons pe_str pa_nil)))
       (pss_cons (ps_if (pt_cmpR (op_neD hr.units) (pv 12) (pv 8) (nomark _)) (pss_one (ps_ret pe_bl)) pss_nil)
       (pss_cons (ps_expr (pe_bm0 PySem.F.plainAttrs_list PySem.F.slot_list_clear PySem.F.type_list_clear mt_clear (pv 12)))
       (pss_cons (ps_if (PW.pt (pw_or (pt_cmpR (op_neD hr.units) (G_Playinglog.p_m0 T.cf_Playing.cl (hr.mono (by decide)) (pv 13)) (pe_op op_cat (pv 8) (pe_lst (pa_cons pe_str pa_nil))) (nomark _)) (pw_or1 (pt_cmpR (G_Playingeq.op_ne (hr.mono (by decide)) T.cf_Playing.om T.cf_Playing.ne) (pe_kr T.d_replay (fun fd F => fn_replay (P := P) (w := w) (base := base) T F) (fun _ _ _ _ _ _ us hl => by match us, hl with | [_, _], _ => rfl) (hr.mono (by decide)) rfl (pk_cons (pv 8) (pk_cons (pv 7) pk_nil))) (pv 9) (nomark _))))) (pss_one (ps_ret pe_bl)) pss_nil)
       (pss_cons (ps_if (PW.pt (pw_or (pt_cmpR (op_neD hr.units) (pe_kr T.d_outcomes (fun fd F => fn_outcomes (P := P) (w := w) (base := base) T F) (fun _ _ _ _ _ _ us hl => by match us, hl with | [_, _], _ => rfl) (hr.mono (by decide)) rfl (pk_cons (pv 8) (pk_cons (pv 7) pk_nil))) (pv 10) (nomark _)) (pw_or1 (pt_not (pt_val (pe_c G_wdrivenright (hr.mono (by decide)) rfl (pa_cons (pv 3) (pa_cons (pe_tup (pa_cons (pv 4) (pa_cons (pv 5) (pa_cons (pv 6) pa_nil)))) (pa_cons (pv 8) pa_nil))))))))) (pss_one (ps_ret pe_bl)) pss_nil)
       (pss_cons (ps_if (pt_not (pt_val (pe_c G_wrefusedright (hr.mono (by decide)) rfl (pa_cons (pv 3) (pa_cons (pv 7) (pa_cons (pv 8) pa_nil)))))) (pss_one (ps_ret pe_bl)) pss_nil)
       (pss_one (ps_if (PW.pt (pw_and (pt_cmpR op_eq (pv 1) pe_int (nomark _)) (pw_and1 (pt_cmpR op_ne (pe_callB call_len_seq (by rfl) T.b_len PySem.boot_len (pa_cons (pe_c G_outcomes (hr.mono (by decide)) rfl (pa_cons (pv 7) (pa_cons (pe_op op_rep (pe_lst (pa_cons pe_str pa_nil)) pe_int) pa_nil))) pa_nil)) pe_int (nomark _))))) (pss_one (ps_ret pe_bl)) pss_nil))))))))))))))))))))
       (pss_one (ps_ret pe_bl))), ?_⟩
    refine ⟨_, rfl, a, ns, 0, rfl, hS, Int.le_refl _, fun z => ⟨(by show 1 ≤ sizeLine; decide), fun l1 hl1 => ?_⟩⟩
    have z1 : Same H (upd H l1 (.lst [.int z])) := Same.upd hl1
    refine ⟨_, rfl, 1, rfl, 4, rfl, a, ns.map V.int, rfl, z1.seq hS, fun l2 hl2 => ?_⟩
    refine ⟨l1, l2, _, _, rfl, rfl, (Same.upd hl2) _ _ upd_same, upd_same, small2 (by have := cutV_length (ns.map V.int) (some 1) (some 4); rw [List.length_map] at this; show 1 + _ ≤ 100000; omega), fun l3 hl3 => ?_⟩
    have items : ∀ v ∈ [V.int z] ++ cutV (ns.map V.int) (some 1) (some 4), ∃ c, v = .int c := fun v hv => by
      rcases List.mem_append.mp hv with hv | hv
      · exact ⟨z, by simpa using hv⟩
      · obtain ⟨c, _, e⟩ := List.mem_map.mp (List.mem_of_mem_drop (List.mem_of_mem_take hv))
        exact ⟨c, e.symm⟩
    have st0 := (z1.trans (Same.upd (o := .lst (cutV (ns.map V.int) (some 1) (some 4))) hl2)).trans (Same.upd (o := .lst ([V.int z] ++ cutV (ns.map V.int) (some 1) (some 4))) hl3)
    have t0 := tabs_same tabs st0
    generalize hit : [V.int z] ++ cutV (ns.map V.int) (some 1) (some 4) = its at items t0
    refine ⟨l3, its, rfl, SqL.of (by rw [← hit]; exact upd_same), ?_⟩
    refine for_enum (K := K) (a := l3) (xs := its) (fun i σ H2 => ∃ v1 v2 v3 v4 v5 v6 v7 v8 v9 v10 v11 v12 v13 v14 : Option V, σ = [some (.ref a), v1, v2, v3, v4, v5, v6, v7, v8, v9, v10, v11, v12, v13, v14] ∧ H2 l3 = some (.lst its) ∧ LamX.Tabs (LT L) H2)
      ⟨none, none, none, none, none, none, none, none, none, none, none, none, none, none, rfl, by rw [← hit]; exact upd_same, t0⟩ (fun i σ H2 _ ⟨_, _, _, _, _, _, _, _, _, _, _, _, _, _, _, e, _⟩ => SqL.of e) ?_ ?_
    rotate_left
    · rintro σ H2 ⟨v1, v2, v3, v4, v5, v6, v7, v8, v9, v10, v11, v12, v13, v14, rfl, _⟩
      exact k _
    rintro i0 v T' σ H00 hi ⟨v1, v2, v3, v4, v5, v6, v7, v8, v9, v10, v11, v12, v13, v14, rfl, hL0, t00⟩ hT
    obtain ⟨cc, rfl⟩ := items v (List.mem_of_getElem? hi)
    have sT := Same.upd (o := .tup [.int (i0 : Nat), V.int cc]) hT
    have hL := sT _ _ hL0
    have t0 := tabs_same t00 sT
    refine ⟨T', _, rfl, SqT.of upd_same, rfl, _, _, rfl, _, _, rfl, rfl, ?_⟩
    generalize upd H00 T' (.tup [.int (i0 : Nat), V.int cc]) = H0 at sT hL t0 ⊢
    refine ⟨_, rfl, cc, rfl, fun s H1 hs0 y1 src1 => ?_⟩
    have nls : l3 ≠ s := ne_of_none hL hs0
    have hL1 := y1 _ _ hL
    refine ⟨_, rfl, s, 0, 5, 12, rfl, src1, by decide, by decide, by decide, by decide, by decide, fun la xa ts H2 hla hba okf lts src2 k2 nla => ⟨_, rfl, s, 4, _, rfl, by decide, by decide +kernel, src2, by decide, fun e1 H3 e10 e11 src3 k3 => ⟨_, _, rfl, rfl, _, _, _, rfl, ?_⟩⟩⟩
    obtain ⟨ys1, hy1⟩ := src1.has
    obtain ⟨ys2, hy2⟩ := src2.has
    obtain ⟨ys3, hy3⟩ := src3.has
    have okt : ∀ t ∈ ts, OkT t := fun t ht => (okf t ht).1
    have nlas : la ≠ s := fun e => by rw [e, hy1] at nla; cases nla
    have l12 : ts.length ≤ 12 := by omega
    have h3a := k3 _ _ nlas hla
    have b3a := hba.nl (Kp.nl k3 hy2)
    have hL3 := k3 _ _ nls (k2 _ _ nls hL1)
    have t3 : LamX.Tabs (LT L) H3 := Tabs.nl (Tabs.nl (tabs_same t0 y1) (Kp.nl k2 hy1)) (Kp.nl k3 hy2)
    -- the phase
    refine ⟨fun σ2 Hx => ∃ ph : Int, σ2 = [some (.ref a), some (.int (i0 : Nat)), some (.int cc), some (.ref s), some (.ref la), some (.int (1 + e1)), some (.int ph), v7, v8, v9, v10, v11, v12, v13, v14] ∧ 0 ≤ ph ∧ ph ≤ 1000000000000000000000000000000 ∧ Src Hx s 80000 ∧ Kp s H3 Hx, ?_, ?_⟩
    · refine ⟨_, rfl, s, 3, _, rfl, by decide, by decide +kernel, src3, by decide, fun d H4 d0 d1 src4 k4 => ⟨_, _, rfl, rfl, _, rfl, ite2 (fun _ => ?_) (fun _ => ⟨0, rfl, by decide, by decide, src4.mono (by decide), k4⟩)⟩⟩
      refine draw_gen (P := P) (w := w) (mg := mg) (a := s) (n := 70000) (ns := [10, 10, 1000000000000000000000000000001]) (hi := 1000000000000000000000000000001) rfl (src4.mono (by decide)) (by decide) (fun R h => ⟨_, _, rfl, rfl, ⟨by decide, by decide, by decide⟩, _, _, rfl, rfl, h⟩) (by decide) (by decide) (fun m hm => ?_) (by decide +kernel) fun d HJ d0 d1 _ srcJ kJ => ?_
      · simp only [List.mem_cons, List.mem_nil_iff, or_false] at hm
        rcases hm with rfl | rfl | rfl <;> exact ⟨by decide, by decide⟩
      exact ⟨d, rfl, d0, by omega, srcJ.mono (by decide), k4.trans kJ⟩
    rintro σ4 H4 ⟨ph, rfl, p0, p1, src4, k34⟩
    obtain ⟨ys4, hy4⟩ := src4.has
    have h4a := k34 _ _ nlas h3a
    have b4a := b3a.nl (Kp.nl k34 hy3)
    have hL4 := k34 _ _ nls hL3
    have t4 : LamX.Tabs (LT L) H4 := Tabs.nl t3 (Kp.nl k34 hy3)
    clear src1 src2 src3 t3 t0 h3a b3a hL3 hL1 hba hla
    -- the row, the words
    refine ⟨_, rfl, _, rfl, _, rfl, rfl, rfl, row_made (xs := xa) (ts := ts) h4a b4a okt l12 ⟨by omega, by omega, by omega, by omega⟩ fun r B H5 R5 z5 nr => ?_⟩
    refine ⟨_, rfl, s, _, 20, rfl, src4.same z5, by decide, by decide, by decide, fun lw wd H6 hlw wl src6 k6 nlw => ⟨_, _, rfl, ?_⟩⟩
    have wd100 : wd.length ≤ 100 := by omega
    obtain ⟨ys6, hy6⟩ := src6.has
    have hy5 := z5 _ _ hy4
    have nl56 := Kp.nl k6 hy5
    have R6 := R5.nl nl56
    have h6a := k6 _ _ nlas (z5 _ _ h4a)
    have b6a := (b4a.nl (NL.of z5)).nl nl56
    have hL6 := k6 _ _ nls (z5 _ _ hL4)
    have t6 : LamX.Tabs (LT L) H6 := Tabs.nl (tabs_same t4 z5) nl56
    have nlws : lw ≠ s := (ne_of_none hy5 nlw).symm
    clear src4 t4 h4a b4a hL4 R5
    have st1 : 1 + e1 ≤ 1000 := by omega
    have st01 : 1 ≤ 1 + e1 := by omega
    generalize 1 + e1 = stp at *
    -- a Playing, driven by the words
    refine ⟨_, rfl, rfl, rfl, playing_made R6 fun g H7 _ Yg zg ng => ?_⟩
    have Y7 := Yg (AvS.dom H6) fun b hb => hb
    refine ⟨_, rfl, lw, rfl, ⟨_, SqL.of (zg _ _ hlw)⟩, fun D hD => ?_⟩
    have hD6 : H6 D = none := none_of zg hD
    refine lc_list (K := K) (a := lw) (xs := wd.map wV) (fun j Hc => ∃ ys, Hc D = some (.lst ys) ∧ Tlds K Hc ys ts stp ph (wd.take j) ∧ PlV L.c_Row L.c_Playing (AvS.add D (AvS.dom H6)) Hc g ts stp ph (wd.take j) ∧ Same H6 Hc)
      ⟨[], upd_same, ⟨rfl, fun j up e => by cases e⟩, Y7.more (Same.upd hD) hD, zg.trans (Same.upd hD)⟩ (fun j Hc _ ⟨_, _, _, _, h⟩ => SqL.of (h _ _ hlw)) ?_ ?_
    · rintro j x Hc hxj ⟨ys, hDc, td, PVc, sc⟩
      rw [List.getElem?_map] at hxj
      obtain ⟨up, hup, rfl⟩ := Option.map_eq_some_iff.mp hxj
      have jl := (List.getElem?_eq_some_iff.mp hup).1
      have etk : wd.take (j + 1) = wd.take j ++ [up] := by rw [List.take_add_one, hup]; rfl
      obtain ⟨dx, r', aw, ah, hp⟩ := PVc.ob
      have ltk : (wd.take j).length = j := by rw [List.length_take]; omega
      refine ⟨rfl, tYes_of ⟨_, rfl, g, dx, _, rfl, hp, plF_no _ _ _ (by decide +kernel) (by decide +kernel) (by decide +kernel), _, rfl, g, _, ts, stp, ph, wd.take j, up, rfl, PVc, by omega, fun b hb => ?_, fun x H3 tx PV3 k3 => ?_⟩⟩
      · rcases AvS.mem.mp hb with rfl | hb
        · rw [hDc]; exact fun z => nomatch z
        · cases e : H6 b with
          | none => exact absurd e hb
          | some o => rw [sc b o e]; exact fun z => nomatch z
      · rw [ltk] at tx
        have hD3 := k3 _ _ hDc (.inl AvS.hd)
        have nlD := NL.upd (o := .lst (ys ++ [x])) hD3
        have kp : Kp D H3 (upd H3 D (.lst (ys ++ [x]))) := Kp.upd
        refine ⟨ys, hD3, small1 (by rw [td.1]; omega), ys ++ [x], upd_same, ?_, ?_, fun b o e => ?_⟩
        · rw [etk]
          exact Tlds.app ((td.nl k3.nl).nl nlD) (by rw [ltk]; exact tx.nl nlD)
        · rw [etk]
          exact PV3.keB (KeB.kp kp AvS.hd hD3)
        · exact kp _ _ (fun z => by rw [z, hD6] at e; cases e) (k3 _ _ (sc b o e) (.inl (AvS.tl (AvS.of e))))
    rintro H8 ⟨ys, hD8, td8, PV8, s68⟩
    rw [List.length_map, List.take_length] at td8 PV8
    obtain ⟨dx8, r8, aw8, ah8, hg8⟩ := PV8.ob
    have nDg : D ≠ g := fun z => by rw [z, hg8] at hD8; cases hD8
    obtain ⟨ow8, L8, out8⟩ := Ln.one PV8 s68 ng (fun b hb => AvS.tl hb)
    have oD8 := out8 D AvS.hd nDg
    clear PV8 out8 Y7 Yg zg
    -- what is told of it, once more
    refine ⟨_, rfl, _, rfl, r, B, xa, ts, stp, ph, lw, wd, AvS.dom H8, rfl, R6.nl (NL.of L8.all), L8.all _ _ hlw, by omega, (fun b hb => hb), fun d9 ys9 H9 hd9 tdx kd9 nd9 => ?_⟩
    have z9 := keV_dom kd9
    have L9 := L8.same z9
    have hD9 := z9 _ _ hD8
    have td9 := td8.nl (NL.of z9)
    have o9 := L8.fam.freshP nd9
    have nDd : D ≠ d9 := ne_of_none hD8 nd9
    refine ⟨_, rfl, .inl ⟨rfl, _, SqL.of hd9⟩, d9, _, _, rfl, rfl, hd9, small1 (by rw [tdx.1]; omega), ?_⟩
    have k10 : Kp d9 H9 (upd H9 d9 (.lst (ys9 ++ [.non]))) := Kp.upd
    have nl10 := NL.upd (o := .lst (ys9 ++ [.non])) hd9
    generalize upd H9 d9 (.lst (ys9 ++ [.non])) = H10 at k10 nl10 ⊢
    have L10 := L9.wr k10 hd9 o9 (none_of s68 nd9)
    have hD10 := k10 _ _ nDd hD9
    have td10 := td9.nl nl10
    clear L9 hD9 td9 o9 z9 kd9 tdx L8 hD8 td8 k10 nl10 hd9
    -- the words in another list, and a Playing that is replayed
    refine ⟨_, rfl, lw, _, rfl, .inl (SqL.of (L10.all _ _ hlw)), fun lh nlh => ?_⟩
    have z11 := Same.upd (o := .lst (wd.map wV)) nlh
    have hlh11 : upd H10 lh (.lst (wd.map wV)) lh = some (.lst (wd.map wV)) := upd_same
    have olh := L10.fam.freshP nlh
    have nDl : D ≠ lh := ne_of_none hD10 nlh
    have nlh6 : H6 lh = none := none_of L10.all nlh
    generalize upd H10 lh (.lst (wd.map wV)) = H11 at z11 hlh11 ⊢
    have L11 := L10.same z11
    have hD11 := z11 _ _ hD10
    have td11 := td10.nl (NL.of z11)
    refine ⟨_, rfl, _, rfl, r, B, xa, ts, stp, ph, lh, wd, AvS.dom H11, rfl, R6.nl (NL.of L11.all), hlh11, by omega, (fun b hb => hb), fun o H12 Yo ko no => ?_⟩
    have z12 := keV_dom ko
    obtain ⟨p2, ws2, ow2, F12, ep2, ew2, ej2, S12⟩ := Fam.add2 L11.fam z12 (Yo.less fun b hb => AvS.tl hb) no
    have L12 := L11.stp F12 S12
    have eg : p2 0 = g := (ej2 0 (by decide)).1
    have wg : ws2 0 = wd := (ej2 0 (by decide)).2
    obtain ⟨hD12, oD12⟩ := S12 _ _ hD11 oD8
    obtain ⟨hlh12, olh12⟩ := S12 _ _ hlh11 olh
    have td12 := td11.nl (NL.of z12)
    clear L10 L11 hD10 hD11 td10 td11 Yo ko z11 hlh11 F12 S12 ej2 oD8 olh
    obtain ⟨YG, _⟩ := L12.fam.av (i := 0) (by decide)
    obtain ⟨YO, _⟩ := L12.fam.av (i := 1) (by decide)
    rw [eg, wg] at YG
    rw [ep2, ew2] at YO
    obtain ⟨dxg, rg, awg, ahg, hg⟩ := YG.ob
    obtain ⟨dxo, ro, awo, aho, ho⟩ := YO.ob
    refine ⟨_, rfl, _, rfl, ne_pl YO YG ⟨_, rfl, ?_⟩⟩
    rw [decide_eq_true rfl]
    refine iteF ?_
    refine ⟨_, rfl, o, dxo, _, rfl, ho, plF_no _ _ _ (by decide +kernel) (by decide +kernel) (by decide +kernel), o, _, ts, stp, ph, wd, rfl, YO, fun sl ys1 H13 hsl hys s13 nsl => ?_⟩
    refine ⟨_, rfl, g, dxg, _, rfl, s13 _ _ hg, plF_no _ _ _ (by decide +kernel) (by decide +kernel) (by decide +kernel), g, _, ts, stp, ph, wd, rfl, YG.same s13, fun sl2 ys2 H14 hsl2 hys2 s14 nsl2 => ?_⟩
    have z14 := s13.trans s14
    refine ⟨_, _, Sts.dpl (s14 _ _ hsl) (hys.same s14), Sts.dpl hsl2 hys2, shSts (plA_ok ts stp ph wd).2, shSts (plA_ok ts stp ph wd).2, ?_⟩
    rw [eqSts, decide_eq_true rfl]
    refine ⟨_, rfl, iteF ?_⟩
    have L14 := L12.same z14
    refine ⟨_, rfl, _, rfl, r, B, xa, ts, stp, ph, lw, wd, AvS.dom H14, rfl, R6.nl (NL.of L14.all), L14.all _ _ hlw, by omega, (fun b hb => hb), fun d15 ys15 H15 hd15 td15 kd15 nd15 => ?_⟩
    have z15 := keV_dom kd15
    have z25 := z14.trans z15
    have L15 := L14.same z15
    have hD15 := z25 _ _ hD12
    have hlh15 := z25 _ _ hlh12
    have tD15 := td12.nl (NL.of z25)
    refine ⟨_, rfl, .list (toL ts stp ph wd), .list (toL ts stp ph wd), .lst (SqL.of hd15) td15.dpW, .lst (SqL.of hD15) tD15.dpW, toL_sh _ _ _ _, toL_sh _ _ _ _, ?_⟩
    rw [toL_eq]
    refine ⟨_, rfl, iteF ?_⟩
    clear L12 L14 hD12 hlh12 td12 YG YO hg ho s13 s14 z14 z25 hsl hys hsl2 hys2 td15 hd15 kd15 z15
    -- the other one goes on
    obtain ⟨YO, naO⟩ := L15.fam.av (i := 1) (by decide)
    rw [ep2, ew2] at YO
    obtain ⟨dxo, ro, awo, aho, ho⟩ := YO.ob
    refine ⟨_, rfl, o, dxo, _, rfl, ho, plF_no _ _ _ (by decide +kernel) (by decide +kernel) (by decide +kernel), o, oth H15 (ow2 1), ts, stp, ph, wd, true, rfl, YO, by omega, naO, fun x H16 _ Y16 k16 => ?_⟩
    rw [← ep2] at Y16
    obtain ⟨ws3, ow3, F16, ew3, ej3, S16⟩ := Fam.req2 L15.fam (by decide) Y16 k16
    have L16 := L15.stp F16 S16
    have wg3 := (ej3 0 (by decide)).trans wg
    obtain ⟨hD16, oD16⟩ := S16 _ _ hD15 oD12
    obtain ⟨hlh16, olh16⟩ := S16 _ _ hlh15 olh12
    have td16 := tD15.nl k16.nl
    refine ⟨_, rfl, _, rfl, _, _, Dp.ws hlh16, Dp.ws (L16.all _ _ hlw), ws_sh _, ws_sh _, ?_⟩
    rw [ws_eq, decide_eq_true rfl]
    refine ⟨_, rfl, iteF ?_⟩
    refine ⟨_, rfl, .inl ⟨rfl, _, SqL.of hlh16⟩, lh, _, rfl, rfl, hlh16, ?_⟩
    have k17 : Kp lh H16 (upd H16 lh (.lst [])) := Kp.upd
    have nl17 := NL.upd (o := .lst []) hlh16
    generalize upd H16 lh (.lst []) = H17 at k17 nl17 ⊢
    have L17 := L16.wr k17 hlh16 olh16 nlh6
    have hD17 := k17 _ _ nDl hD16
    have td17 := td16.nl nl17
    clear L15 L16 hD15 hD16 td16 tD15 hlh15 hlh16 YO ho Y16 k16 F16 S16 k17 nl17
    obtain ⟨YG, _⟩ := L17.fam.av (i := 0) (by decide)
    obtain ⟨YO, _⟩ := L17.fam.av (i := 1) (by decide)
    rw [eg, wg3] at YG
    rw [ep2, ew3] at YO
    obtain ⟨dxo, ro, awo, aho, ho⟩ := YO.ob
    refine ⟨_, rfl, o, dxo, _, rfl, ho, plF_no _ _ _ (by decide +kernel) (by decide +kernel) (by decide +kernel), o, _, ts, stp, ph, _, rfl, YO, fun ll H18 hll s18 nll => ?_⟩
    refine ⟨_, rfl, (by show 1 ≤ sizeLine; decide), fun l1 nl1 => ?_⟩
    have z19 := Same.upd (o := .lst [.str "up"]) nl1
    have L19 := (L17.same s18).same z19
    refine ⟨lw, l1, _, _, rfl, rfl, L19.all _ _ hlw, upd_same, small2 (by rw [List.length_map]; show _ + 1 ≤ 100000; omega), fun l2 nl2 => ?_⟩
    have ecat : wd.map wV ++ [V.str "up"] = (wd ++ [true]).map wV := by rw [List.map_append]; rfl
    rw [ecat]
    have z20 := Same.upd (o := .lst ((wd ++ [true]).map wV)) nl2
    refine ⟨_, _, Dp.ws (z20 _ _ (z19 _ _ hll)), Dp.ws upd_same, ws_sh _, ws_sh _, ?_⟩
    rw [ws_eq, decide_eq_true rfl]
    refine ⟨_, rfl, iteF ?_⟩
    have L20 := L19.same z20
    have z17 := (s18.trans z19).trans z20
    have hD20 := z17 _ _ hD17
    have td20 := td17.nl (NL.of z17)
    generalize upd (upd H18 l1 (.lst [.str "up"])) l2 (.lst ((wd ++ [true]).map wV)) = H20 at L20 hD20 td20 ⊢
    refine ⟨_, rfl, _, rfl, rfl, rfl, r, B, xa, ts, stp, ph, lw, wd, AvS.dom H20, rfl, R6.nl (NL.of L20.all), L20.all _ _ hlw, by omega, (fun b hb => hb), fun q H21 Yq kq nq => ?_⟩
    have z21 := keV_dom kq
    have L21 := L20.same z21
    obtain ⟨YG, _⟩ := L21.fam.av (i := 0) (by decide)
    rw [eg, wg3] at YG
    refine ⟨_, rfl, ne_pl Yq YG ⟨_, rfl, ?_⟩⟩
    rw [decide_eq_true rfl]
    refine iteF ?_
    have hD21 := z21 _ _ hD20
    have td21 := td20.nl (NL.of z21)
    refine ⟨_, rfl, _, rfl, rfl, rfl, r, B, xa, ts, stp, ph, lw, wd, AvS.dom H21, rfl, R6.nl (NL.of L21.all), L21.all _ _ hlw, by omega, (fun b hb => hb), fun d22 ys22 H22 hd22 td22 kd22 nd22 => ?_⟩
    have z22 := keV_dom kd22
    have a22 : Same H6 H22 := L21.all.trans z22
    refine ⟨_, rfl, .list (toL ts stp ph wd), .list (toL ts stp ph wd), .lst (SqL.of hd22) td22.dpW, .lst (SqL.of (z22 _ _ hD21)) (td21.nl (NL.of z22)).dpW, toL_sh _ _ _ _, toL_sh _ _ _ _, ?_⟩
    rw [toL_eq]
    refine ⟨_, rfl, iteF ?_⟩
    clear L17 L19 L20 L21 hD17 hD20 hD21 td17 td20 td21 YO YG ho s18 z19 z20 z17 z21 Yq kq td22 hd22 kd22 z22 ecat
    -- driven, on and back
    refine ⟨_, rfl, _, rfl, _, rfl, _, rfl, (by show 3 ≤ sizeLine; decide), fun pa npa => ⟨_, rfl, ?_⟩⟩
    have z23 := Same.upd (o := .tup [.ref la, .int stp, .int ph]) npa
    have a23 := a22.trans z23
    have src23 : Src _ s 130000 := (src6.mono (by show _ + 1101 + 2202 * (20 : Int).toNat ≤ 130000; have : (20 : Int).toNat = 20 := rfl; omega)).same a23
    refine ⟨s, pa, lw, la, xa, ts, stp, ph, wd, 130000, rfl, src23, by decide, upd_same, a23 _ _ h6a, nlas.symm, nlws.symm, b6a.nl (NL.of a23), okt, l12, by omega, st1, p0, p1, a23 _ _ hlw, by omega, fun H24 src24 k24 => ⟨_, rfl, iteF ?_⟩⟩
    have hy23 := a23 _ _ hy6
    have nl24 : NL H6 H24 := (NL.of a23).trans (Kp.nl k24 hy23)
    have hlw24 := k24 _ _ nlws (a23 _ _ hlw)
    have hL24 := k24 _ _ nls (a23 _ _ hL6)
    refine ⟨_, rfl, _, rfl, _, rfl, s, r, lw, B, xa, ts, stp, ph, wd, _, rfl, src24, by decide, R6.nl nl24, hlw24, by omega, nlws, Tabs.nl t6 nl24, fun H25 k25 t25 => ⟨_, rfl, iteF ?_⟩⟩
    have hL25 := k25 _ _ nls hL24 fun _ z => nomatch z
    obtain ⟨ys24, hy24⟩ := src24.has
    have R25 : RowAt L.c_Row H25 r B xa ts stp ph := by
      have R24 := R6.nl nl24
      obtain ⟨dx, ob⟩ := R24.ob
      have ns : ∀ {b : Addr} {o : HO}, H24 b = some o → (∀ xs, o ≠ .lst xs) → b ≠ s := fun e q z => by rw [z, hy24] at e; cases e; exact q _ rfl
      have tp : ∀ b us, H24 b = some (.tup us) → H25 b = some (.tup us) := fun b us e => k25 _ _ (ns e fun _ z => nomatch z) e fun _ z => nomatch z
      exact ⟨⟨dx, k25 _ _ (ns ob fun _ z => nomatch z) ob fun _ z => nomatch z⟩, tp _ _ R24.tp, R24.br.tp tp, R24.ok, R24.ln, R24.s0, R24.s1, R24.p0, R24.p1⟩
    -- ten thousand words
    refine ⟨_, rfl, rfl, _, rfl, ite2 (fun _ => ?_) (fun _ => iteF ⟨_, _, _, _, _, _, _, _, _, _, _, _, _, _, rfl, hL25, t25⟩)⟩
    refine ⟨_, rfl, (by show 1 ≤ sizeLine; decide), fun lq nlq => ⟨lq, _, [.str "down"], rfl, rfl, upd_same, by decide, by decide, small2 (by show 1 * 10000 ≤ 100000; decide), fun lr nlr => ?_⟩⟩
    obtain ⟨W, hW⟩ : ∃ W : List Bool, W = List.replicate 10000 false := ⟨_, rfl⟩
    have Wl : W.length = 10000 := by rw [hW, List.length_replicate]
    have eW : (List.replicate (10000 : Int).toNat [V.str "down"]).flatten = W.map wV := by
      rw [hW, List.map_replicate]
      exact rep1 _ _
    rw [eW]
    have q1 := Same.upd (o := .lst [.str "down"]) nlq
    have q2 := Same.upd (o := .lst (W.map wV)) nlr
    have q12 := q1.trans q2
    have hlr : upd (upd H25 lq (.lst [.str "down"])) lr (.lst (W.map wV)) lr = some (.lst (W.map wV)) := upd_same
    generalize upd (upd H25 lq (.lst [.str "down"])) lr (.lst (W.map wV)) = H26 at q12 hlr ⊢
    refine ⟨r, B, xa, ts, stp, ph, lr, W, AvS.dom H26, rfl, R25.nl (NL.of q12), hlr, by omega, (fun b hb => hb), fun d27 ys27 H27 hd27 td27 kd27 nd27 => ?_⟩
    have q3 := q12.trans (keV_dom kd27)
    refine ⟨d27, _, rfl, .inl (SqL.of hd27), rfl, _, rfl, ?_⟩
    rw [td27.1, Wl]
    exact iteF ⟨_, _, _, _, _, _, _, _, _, _, _, _, _, _, rfl, q3 _ _ hL25, tabs_same t25 q3⟩
end
/-! ### the end -/
theorem bn_q0 (kV doc pm : Value) (an : Option Addr) (cdv ct : Value) (us : List Value) (hl : us.length = (["k"] : List Str).length) : bindArgs (PySem.W.fnOf "_wall" "_wall" (defArgs st__wall) (defBody st__wall) (defScope st__wall) .none kV doc pm an cdv ct) ⟨us, []⟩ = pure ((["k"] : List Str).zip us) :=
  match us, hl with | [_], _ => rfl
theorem bn_q1 (kV doc pm : Value) (an : Option Addr) (cdv ct : Value) (us : List Value) (hl : us.length = (["value"] : List Str).length) : bindArgs (PySem.W.fnOf "is_integer" "is_integer" (defArgs st_is_integer) (defBody st_is_integer) (defScope st_is_integer) .none kV doc pm an cdv ct) ⟨us, []⟩ = pure ((["value"] : List Str).zip us) :=
  match us, hl with | [_], _ => rfl
theorem bn_q2 (kV doc pm : Value) (an : Option Addr) (cdv ct : Value) (us : List Value) (hl : us.length = (["value", "least"] : List Str).length) : bindArgs (PySem.W.fnOf "is_at_least" "is_at_least" (defArgs st_is_at_least) (defBody st_is_at_least) (defScope st_is_at_least) .none kV doc pm an cdv ct) ⟨us, []⟩ = pure ((["value", "least"] : List Str).zip us) :=
  match us, hl with | [_, _], _ => rfl
theorem bn_q3 (kV doc pm : Value) (an : Option Addr) (cdv ct : Value) (us : List Value) (hl : us.length = (["value", "least", "most"] : List Str).length) : bindArgs (PySem.W.fnOf "is_within" "is_within" (defArgs st_is_within) (defBody st_is_within) (defScope st_is_within) .none kV doc pm an cdv ct) ⟨us, []⟩ = pure ((["value", "least", "most"] : List Str).zip us) :=
  match us, hl with | [_, _, _], _ => rfl
theorem bn_q4 (kV doc pm : Value) (an : Option Addr) (cdv ct : Value) (us : List Value) (hl : us.length = (["value"] : List Str).length) : bindArgs (PySem.W.fnOf "is_breaker" "is_breaker" (defArgs st_is_breaker) (defBody st_is_breaker) (defScope st_is_breaker) .none kV doc pm an cdv ct) ⟨us, []⟩ = pure ((["value"] : List Str).zip us) :=
  match us, hl with | [_], _ => rfl
theorem bn_q5 (kV doc pm : Value) (an : Option Addr) (cdv ct : Value) (us : List Value) (hl : us.length = (["breakers", "part"] : List Str).length) : bindArgs (PySem.W.fnOf "check_breakers" "check_breakers" (defArgs st_check_breakers) (defBody st_check_breakers) (defScope st_check_breakers) .none kV doc pm an cdv ct) ⟨us, []⟩ = pure ((["breakers", "part"] : List Str).zip us) :=
  match us, hl with | [_, _], _ => rfl
theorem bn_q6 (kV doc pm : Value) (an : Option Addr) (cdv ct : Value) (us : List Value) (hl : us.length = (["step"] : List Str).length) : bindArgs (PySem.W.fnOf "check_step" "check_step" (defArgs st_check_step) (defBody st_check_step) (defScope st_check_step) .none kV doc pm an cdv ct) ⟨us, []⟩ = pure ((["step"] : List Str).zip us) :=
  match us, hl with | [_], _ => rfl
theorem bn_q7 (kV doc pm : Value) (an : Option Addr) (cdv ct : Value) (us : List Value) (hl : us.length = (["row", "number"] : List Str).length) : bindArgs (PySem.W.fnOf "request_time" "request_time" (defArgs st_request_time) (defBody st_request_time) (defScope st_request_time) .none kV doc pm an cdv ct) ⟨us, []⟩ = pure ((["row", "number"] : List Str).zip us) :=
  match us, hl with | [_, _], _ => rfl
theorem bn_q8 (kV doc pm : Value) (an : Option Addr) (cdv ct : Value) (us : List Value) (hl : us.length = (["number"] : List Str).length) : bindArgs (PySem.W.fnOf "closed_states" "closed_states" (defArgs st_closed_states) (defBody st_closed_states) (defScope st_closed_states) .none kV doc pm an cdv ct) ⟨us, []⟩ = pure ((["number"] : List Str).zip us) :=
  match us, hl with | [_], _ => rfl
theorem bn_q9 (kV doc pm : Value) (an : Option Addr) (cdv ct : Value) (us : List Value) (hl : us.length = (["breaker", "state", "time"] : List Str).length) : bindArgs (PySem.W.fnOf "passes" "passes" (defArgs st_passes) (defBody st_passes) (defScope st_passes) .none kV doc pm an cdv ct) ⟨us, []⟩ = pure ((["breaker", "state", "time"] : List Str).zip us) :=
  match us, hl with | [_, _, _], _ => rfl
theorem bn_q10 (kV doc pm : Value) (an : Option Addr) (cdv ct : Value) (us : List Value) (hl : us.length = (["breaker", "state", "time", "succeeded"] : List Str).length) : bindArgs (PySem.W.fnOf "state_behind" "state_behind" (defArgs st_state_behind) (defBody st_state_behind) (defScope st_state_behind) .none kV doc pm an cdv ct) ⟨us, []⟩ = pure ((["breaker", "state", "time", "succeeded"] : List Str).zip us) :=
  match us, hl with | [_, _, _, _], _ => rfl
theorem bn_q11 (kV doc pm : Value) (an : Option Addr) (cdv ct : Value) (us : List Value) (hl : us.length = (["breakers", "states", "time", "up"] : List Str).length) : bindArgs (PySem.W.fnOf "sent" "sent" (defArgs st_sent) (defBody st_sent) (defScope st_sent) .none kV doc pm an cdv ct) ⟨us, []⟩ = pure ((["breakers", "states", "time", "up"] : List Str).zip us) :=
  match us, hl with | [_, _, _, _], _ => rfl
theorem bn_q12 (kV doc pm : Value) (an : Option Addr) (cdv ct : Value) (us : List Value) (hl : us.length = (["value"] : List Str).length) : bindArgs (PySem.W.fnOf "is_word" "is_word" (defArgs st_is_word) (defBody st_is_word) (defScope st_is_word) .none kV doc pm an cdv ct) ⟨us, []⟩ = pure ((["value"] : List Str).zip us) :=
  match us, hl with | [_], _ => rfl
theorem bn_q13 (kV doc pm : Value) (an : Option Addr) (cdv ct : Value) (us : List Value) (hl : us.length = (["log"] : List Str).length) : bindArgs (PySem.W.fnOf "check_words" "check_words" (defArgs st_check_words) (defBody st_check_words) (defScope st_check_words) .none kV doc pm an cdv ct) ⟨us, []⟩ = pure ((["log"] : List Str).zip us) :=
  match us, hl with | [_], _ => rfl
theorem bn_q14 (kV doc pm : Value) (an : Option Addr) (cdv ct : Value) (us : List Value) (hl : us.length = (["row", "log"] : List Str).length) : bindArgs (PySem.W.fnOf "played" "played" (defArgs st_played) (defBody st_played) (defScope st_played) .none kV doc pm an cdv ct) ⟨us, []⟩ = pure ((["row", "log"] : List Str).zip us) :=
  match us, hl with | [_, _], _ => rfl
theorem bn_q15 (kV doc pm : Value) (an : Option Addr) (cdv ct : Value) (us : List Value) (hl : us.length = (["row", "log"] : List Str).length) : bindArgs (PySem.W.fnOf "replay" "replay" (defArgs st_replay) (defBody st_replay) (defScope st_replay) .none kV doc pm an cdv ct) ⟨us, []⟩ = pure ((["row", "log"] : List Str).zip us) :=
  match us, hl with | [_, _], _ => rfl
theorem bn_q16 (kV doc pm : Value) (an : Option Addr) (cdv ct : Value) (us : List Value) (hl : us.length = (["row", "log"] : List Str).length) : bindArgs (PySem.W.fnOf "outcomes" "outcomes" (defArgs st_outcomes) (defBody st_outcomes) (defScope st_outcomes) .none kV doc pm an cdv ct) ⟨us, []⟩ = pure ((["row", "log"] : List Str).zip us) :=
  match us, hl with | [_, _], _ => rfl
theorem bn_q17 (kV doc pm : Value) (an : Option Addr) (cdv ct : Value) (us : List Value) (hl : us.length = (["_law_script", "_law_place"] : List Str).length) : bindArgs (PySem.W.fnOf "_law_cell_at" "_law_cell_at" (defArgs st__law_cell_at) (defBody st__law_cell_at) (defScope st__law_cell_at) .none kV doc pm an cdv ct) ⟨us, []⟩ = pure ((["_law_script", "_law_place"] : List Str).zip us) :=
  match us, hl with | [_, _], _ => rfl
theorem bn_q18 (kV doc pm : Value) (an : Option Addr) (cdv ct : Value) (us : List Value) (hl : us.length = (["_law_cell"] : List Str).length) : bindArgs (PySem.W.fnOf "_law_source_of" "_law_source_of" (defArgs st__law_source_of) (defBody st__law_source_of) (defScope st__law_source_of) .none kV doc pm an cdv ct) ⟨us, []⟩ = pure ((["_law_cell"] : List Str).zip us) :=
  match us, hl with | [_], _ => rfl
theorem bn_q19 (kV doc pm : Value) (an : Option Addr) (cdv ct : Value) (us : List Value) (hl : us.length = (["_law_source", "_law_bound"] : List Str).length) : bindArgs (PySem.W.fnOf "_law_draw" "_law_draw" (defArgs st__law_draw) (defBody st__law_draw) (defScope st__law_draw) .none kV doc pm an cdv ct) ⟨us, []⟩ = pure ((["_law_source", "_law_bound"] : List Str).zip us) :=
  match us, hl with | [_, _], _ => rfl
theorem bn_q20 (kV doc pm : Value) (an : Option Addr) (cdv ct : Value) (us : List Value) (hl : us.length = (["_law_source", "_law_options"] : List Str).length) : bindArgs (PySem.W.fnOf "_law_choice" "_law_choice" (defArgs st__law_choice) (defBody st__law_choice) (defScope st__law_choice) .none kV doc pm an cdv ct) ⟨us, []⟩ = pure ((["_law_source", "_law_options"] : List Str).zip us) :=
  match us, hl with | [_, _], _ => rfl
theorem bn_q21 (kV doc pm : Value) (an : Option Addr) (cdv ct : Value) (us : List Value) (hl : us.length = (["_law_source", "_law_most", "_law_far"] : List Str).length) : bindArgs (PySem.W.fnOf "_law_specs" "_law_specs" (defArgs st__law_specs) (defBody st__law_specs) (defScope st__law_specs) .none kV doc pm an cdv ct) ⟨us, []⟩ = pure ((["_law_source", "_law_most", "_law_far"] : List Str).zip us) :=
  match us, hl with | [_, _, _], _ => rfl
theorem bn_q22 (kV doc pm : Value) (an : Option Addr) (cdv ct : Value) (us : List Value) (hl : us.length = (["_law_source", "_law_most"] : List Str).length) : bindArgs (PySem.W.fnOf "_law_words" "_law_words" (defArgs st__law_words) (defBody st__law_words) (defScope st__law_words) .none kV doc pm an cdv ct) ⟨us, []⟩ = pure ((["_law_source", "_law_most"] : List Str).zip us) :=
  match us, hl with | [_, _], _ => rfl
theorem bn_q23 (kV doc pm : Value) (an : Option Addr) (cdv ct : Value) (us : List Value) (hl : us.length = (["_law_ask"] : List Str).length) : bindArgs (PySem.W.fnOf "_law_error" "_law_error" (defArgs st__law_error) (defBody st__law_error) (defScope st__law_error) .none kV doc pm an cdv ct) ⟨us, []⟩ = pure ((["_law_ask"] : List Str).zip us) :=
  match us, hl with | [_], _ => rfl
theorem bn_q24 (kV doc pm : Value) (an : Option Addr) (cdv ct : Value) (us : List Value) (hl : us.length = (["_law_spec", "_law_state", "_law_time"] : List Str).length) : bindArgs (PySem.W.fnOf "_law_is_shut" "_law_is_shut" (defArgs st__law_is_shut) (defBody st__law_is_shut) (defScope st__law_is_shut) .none kV doc pm an cdv ct) ⟨us, []⟩ = pure ((["_law_spec", "_law_state", "_law_time"] : List Str).zip us) :=
  match us, hl with | [_, _, _], _ => rfl
theorem bn_q25 (kV doc pm : Value) (an : Option Addr) (cdv ct : Value) (us : List Value) (hl : us.length = (["_law_specs_here", "_law_states", "_law_time", "_law_word"] : List Str).length) : bindArgs (PySem.W.fnOf "_law_behind" "_law_behind" (defArgs st__law_behind) (defBody st__law_behind) (defScope st__law_behind) .none kV doc pm an cdv ct) ⟨us, []⟩ = pure ((["_law_specs_here", "_law_states", "_law_time", "_law_word"] : List Str).zip us) :=
  match us, hl with | [_, _, _, _], _ => rfl
theorem bn_q26 (kV doc pm : Value) (an : Option Addr) (cdv ct : Value) (us : List Value) (hl : us.length = (["_law_parts", "_law_words_here"] : List Str).length) : bindArgs (PySem.W.fnOf "_law_due" "_law_due" (defArgs st__law_due) (defBody st__law_due) (defScope st__law_due) .none kV doc pm an cdv ct) ⟨us, []⟩ = pure ((["_law_parts", "_law_words_here"] : List Str).zip us) :=
  match us, hl with | [_, _], _ => rfl
theorem bn_q27 (kV doc pm : Value) (an : Option Addr) (cdv ct : Value) (us : List Value) (hl : us.length = (["_law_game"] : List Str).length) : bindArgs (PySem.W.fnOf "_law_shown" "_law_shown" (defArgs st__law_shown) (defBody st__law_shown) (defScope st__law_shown) .none kV doc pm an cdv ct) ⟨us, []⟩ = pure ((["_law_game"] : List Str).zip us) :=
  match us, hl with | [_], _ => rfl
theorem bn_q28 (kV doc pm : Value) (an : Option Addr) (cdv ct : Value) (us : List Value) (hl : us.length = (["_law_source", "_law_parts", "_law_words_here"] : List Str).length) : bindArgs (PySem.W.fnOf "_law_driven_right" "_law_driven_right" (defArgs st__law_driven_right) (defBody st__law_driven_right) (defScope st__law_driven_right) .none kV doc pm an cdv ct) ⟨us, []⟩ = pure ((["_law_source", "_law_parts", "_law_words_here"] : List Str).zip us) :=
  match us, hl with | [_, _, _], _ => rfl
theorem bn_q29 (kV doc pm : Value) (an : Option Addr) (cdv ct : Value) (us : List Value) (hl : us.length = (["_law_source", "_law_line", "_law_words_here"] : List Str).length) : bindArgs (PySem.W.fnOf "_law_refused_right" "_law_refused_right" (defArgs st__law_refused_right) (defBody st__law_refused_right) (defScope st__law_refused_right) .none kV doc pm an cdv ct) ⟨us, []⟩ = pure ((["_law_source", "_law_line", "_law_words_here"] : List Str).zip us) :=
  match us, hl with | [_, _, _], _ => rfl
theorem bn_q30 (kV doc pm : Value) (an : Option Addr) (cdv ct : Value) (us : List Value) (hl : us.length = (["self"] : List Str).length) : bindArgs (PySem.W.fnOf "breaker_list" "Row.breaker_list" (defArgs st_Row_breaker_list) (defBody st_Row_breaker_list) (defScope st_Row_breaker_list) .none kV doc pm an cdv ct) ⟨us, []⟩ = pure ((["self"] : List Str).zip us) :=
  match us, hl with | [_], _ => rfl
theorem bn_q31 (kV doc pm : Value) (an : Option Addr) (cdv ct : Value) (us : List Value) (hl : us.length = (["self"] : List Str).length) : bindArgs (PySem.W.fnOf "step_length" "Row.step_length" (defArgs st_Row_step_length) (defBody st_Row_step_length) (defScope st_Row_step_length) .none kV doc pm an cdv ct) ⟨us, []⟩ = pure ((["self"] : List Str).zip us) :=
  match us, hl with | [_], _ => rfl
theorem bn_q32 (kV doc pm : Value) (an : Option Addr) (cdv ct : Value) (us : List Value) (hl : us.length = (["self"] : List Str).length) : bindArgs (PySem.W.fnOf "phase_time" "Row.phase_time" (defArgs st_Row_phase_time) (defBody st_Row_phase_time) (defScope st_Row_phase_time) .none kV doc pm an cdv ct) ⟨us, []⟩ = pure ((["self"] : List Str).zip us) :=
  match us, hl with | [_], _ => rfl
theorem bn_q33 (kV doc pm : Value) (an : Option Addr) (cdv ct : Value) (us : List Value) (hl : us.length = (["self"] : List Str).length) : bindArgs (PySem.W.fnOf "__len__" "Row.__len__" (defArgs st_Row_len) (defBody st_Row_len) (defScope st_Row_len) .none kV doc pm an cdv ct) ⟨us, []⟩ = pure ((["self"] : List Str).zip us) :=
  match us, hl with | [_], _ => rfl
theorem bn_q34 (kV doc pm : Value) (an : Option Addr) (cdv ct : Value) (us : List Value) (hl : us.length = (["self", "at"] : List Str).length) : bindArgs (PySem.W.fnOf "__getitem__" "Row.__getitem__" (defArgs st_Row_getitem) (defBody st_Row_getitem) (defScope st_Row_getitem) .none kV doc pm an cdv ct) ⟨us, []⟩ = pure ((["self", "at"] : List Str).zip us) :=
  match us, hl with | [_, _], _ => rfl
theorem bn_q35 (kV doc pm : Value) (an : Option Addr) (cdv ct : Value) (us : List Value) (hl : us.length = (["self", "x"] : List Str).length) : bindArgs (PySem.W.fnOf "__contains__" "Row.__contains__" (defArgs st_Row_contains) (defBody st_Row_contains) (defScope st_Row_contains) .none kV doc pm an cdv ct) ⟨us, []⟩ = pure ((["self", "x"] : List Str).zip us) :=
  match us, hl with | [_, _], _ => rfl
theorem bn_q36 (kV doc pm : Value) (an : Option Addr) (cdv ct : Value) (us : List Value) (hl : us.length = (["self", "other"] : List Str).length) : bindArgs (PySem.W.fnOf "__add__" "Row.__add__" (defArgs st_Row_add) (defBody st_Row_add) (defScope st_Row_add) .none kV doc pm an cdv ct) ⟨us, []⟩ = pure ((["self", "other"] : List Str).zip us) :=
  match us, hl with | [_, _], _ => rfl
theorem bn_q37 (kV doc pm : Value) (an : Option Addr) (cdv ct : Value) (us : List Value) (hl : us.length = (["self", "other"] : List Str).length) : bindArgs (PySem.W.fnOf "__eq__" "Row.__eq__" (defArgs st_Row_eq) (defBody st_Row_eq) (defScope st_Row_eq) .none kV doc pm an cdv ct) ⟨us, []⟩ = pure ((["self", "other"] : List Str).zip us) :=
  match us, hl with | [_, _], _ => rfl
theorem bn_NPlaying (kV doc pm : Value) (an : Option Addr) (cdv ct : Value) (us : List Value) (hl : us.length = (["self", "row"] : List Str).length) : bindArgs (PySem.W.fnOf "__init__" "Playing.__init__" (defArgs st_Playing_init) (defBody st_Playing_init) (defScope st_Playing_init) .none kV doc pm an cdv ct) ⟨us, []⟩ = pure ((["self", "row"] : List Str).zip us) :=
  match us, hl with | [_, _], _ => rfl
theorem bn_q38 (kV doc pm : Value) (an : Option Addr) (cdv ct : Value) (us : List Value) (hl : us.length = (["self"] : List Str).length) : bindArgs (PySem.W.fnOf "base_row" "Playing.base_row" (defArgs st_Playing_base_row) (defBody st_Playing_base_row) (defScope st_Playing_base_row) .none kV doc pm an cdv ct) ⟨us, []⟩ = pure ((["self"] : List Str).zip us) :=
  match us, hl with | [_], _ => rfl
theorem bn_q39 (kV doc pm : Value) (an : Option Addr) (cdv ct : Value) (us : List Value) (hl : us.length = (["self"] : List Str).length) : bindArgs (PySem.W.fnOf "next_request" "Playing.next_request" (defArgs st_Playing_next_request) (defBody st_Playing_next_request) (defScope st_Playing_next_request) .none kV doc pm an cdv ct) ⟨us, []⟩ = pure ((["self"] : List Str).zip us) :=
  match us, hl with | [_], _ => rfl
theorem bn_q40 (kV doc pm : Value) (an : Option Addr) (cdv ct : Value) (us : List Value) (hl : us.length = (["self", "word"] : List Str).length) : bindArgs (PySem.W.fnOf "request" "Playing.request" (defArgs st_Playing_request) (defBody st_Playing_request) (defScope st_Playing_request) .none kV doc pm an cdv ct) ⟨us, []⟩ = pure ((["self", "word"] : List Str).zip us) :=
  match us, hl with | [_, _], _ => rfl
theorem bn_q41 (kV doc pm : Value) (an : Option Addr) (cdv ct : Value) (us : List Value) (hl : us.length = (["self"] : List Str).length) : bindArgs (PySem.W.fnOf "state_list" "Playing.state_list" (defArgs st_Playing_state_list) (defBody st_Playing_state_list) (defScope st_Playing_state_list) .none kV doc pm an cdv ct) ⟨us, []⟩ = pure ((["self"] : List Str).zip us) :=
  match us, hl with | [_], _ => rfl
theorem bn_q42 (kV doc pm : Value) (an : Option Addr) (cdv ct : Value) (us : List Value) (hl : us.length = (["self"] : List Str).length) : bindArgs (PySem.W.fnOf "is_whole" "Playing.is_whole" (defArgs st_Playing_is_whole) (defBody st_Playing_is_whole) (defScope st_Playing_is_whole) .none kV doc pm an cdv ct) ⟨us, []⟩ = pure ((["self"] : List Str).zip us) :=
  match us, hl with | [_], _ => rfl
theorem bn_q43 (kV doc pm : Value) (an : Option Addr) (cdv ct : Value) (us : List Value) (hl : us.length = (["self"] : List Str).length) : bindArgs (PySem.W.fnOf "log" "Playing.log" (defArgs st_Playing_log) (defBody st_Playing_log) (defScope st_Playing_log) .none kV doc pm an cdv ct) ⟨us, []⟩ = pure ((["self"] : List Str).zip us) :=
  match us, hl with | [_], _ => rfl
theorem bn_q44 (kV doc pm : Value) (an : Option Addr) (cdv ct : Value) (us : List Value) (hl : us.length = (["self", "count"] : List Str).length) : bindArgs (PySem.W.fnOf "undo" "Playing.undo" (defArgs st_Playing_undo) (defBody st_Playing_undo) (defScope st_Playing_undo) .none kV doc pm an cdv ct) ⟨us, []⟩ = pure ((["self", "count"] : List Str).zip us) :=
  match us, hl with | [_, _], _ => rfl
theorem bn_q45 (kV doc pm : Value) (an : Option Addr) (cdv ct : Value) (us : List Value) (hl : us.length = (["self", "other"] : List Str).length) : bindArgs (PySem.W.fnOf "__eq__" "Playing.__eq__" (defArgs st_Playing_eq) (defBody st_Playing_eq) (defScope st_Playing_eq) .none kV doc pm an cdv ct) ⟨us, []⟩ = pure ((["self", "other"] : List Str).zip us) :=
  match us, hl with | [_, _], _ => rfl
theorem bn_NInvalidRow (kV doc pm : Value) (an : Option Addr) (cdv ct : Value) (us : List Value) (hl : us.length = (["self", "part", "at"] : List Str).length) : bindArgs (PySem.W.fnOf "__init__" "InvalidRow.__init__" (defArgs st_InvalidRow_init) (defBody st_InvalidRow_init) (defScope st_InvalidRow_init) .none kV doc pm an cdv ct) ⟨us, []⟩ = pure ((["self", "part", "at"] : List Str).zip us) :=
  match us, hl with | [_, _, _], _ => rfl
theorem bn_NInvalidLog (kV doc pm : Value) (an : Option Addr) (cdv ct : Value) (us : List Value) (hl : us.length = (["self", "at"] : List Str).length) : bindArgs (PySem.W.fnOf "__init__" "InvalidLog.__init__" (defArgs st_InvalidLog_init) (defBody st_InvalidLog_init) (defScope st_InvalidLog_init) .none kV doc pm an cdv ct) ⟨us, []⟩ = pure ((["self", "at"] : List Str).zip us) :=
  match us, hl with | [_, _], _ => rfl
theorem mk_dfn {K : PySem.W.Frag} {h : Heap} {mg : Str → Option Value} {x : Str} {st : Stmt} {f : Addr} {ps : List Str} {oc : Value} {od an : Option Addr} {sl : Array (Option Value)} {kV dc pm cd ct : Value} (X : K.In h) (G : h.Ns mainGlobals mg) (a : PySem.W.nsIn K mainGlobals x = some (some (.ref f)))
    (l : K.lookup f = some ⟨oc, od, .func (PySem.W.fnOf x x (defArgs st) (defBody st) (defScope st) .none kV dc pm an cd ct), sl⟩) (c : PySem.W.codeIn K cd x = true) (k : PySem.W.keepIn K (.ref f) = true)
    (hb : ∀ (kV doc pm : Value) (an : Option Addr) (cdv ct : Value) (us : List Value), us.length = ps.length → bindArgs (PySem.W.fnOf x x (defArgs st) (defBody st) (defScope st) .none kV doc pm an cdv ct) ⟨us, []⟩ = pure (ps.zip us)) : Dfn K mg x st f ps :=
  ⟨⟨_, fun_mk l c k, (fun_mk l c k).binds hb⟩, PySem.W.mg_of X G a⟩
theorem mk_mth {K : PySem.W.Frag} {C : Addr} {x q : Str} {st : Stmt} {f : Addr} {ps : List Str} {oc : Value} {od an : Option Addr} {sl : Array (Option Value)} {kV dc pm cd ct : Value} (a : PySem.W.findIn K (.ref C) x = some (some (.ref f))) (i : PySem.W.isFn K (.ref f) = true) (fk : PySem.W.fnIn K f = true)
    (l : K.lookup f = some ⟨oc, od, .func (PySem.W.fnOf x q (defArgs st) (defBody st) (defScope st) .none kV dc pm an cd ct), sl⟩) (c : PySem.W.codeIn K cd q = true) (k : PySem.W.keepIn K (.ref f) = true)
    (hb : ∀ (kV doc pm : Value) (an : Option Addr) (cdv ct : Value) (us : List Value), us.length = ps.length → bindArgs (PySem.W.fnOf x q (defArgs st) (defBody st) (defScope st) .none kV doc pm an cdv ct) ⟨us, []⟩ = pure (ps.zip us)) : Mth K C x q st f ps :=
  ⟨⟨_, fun_mk l c k, (fun_mk l c k).binds hb⟩, a, i, fk⟩
set_option maxHeartbeats 16000000 in
theorem all_mk {P : Program} {w : World} {K : PySem.W.Frag} {h : Heap} {mg : Str → Option Value} {lv : List (Str × PySem.W.WData)} {fa aLaw aTSERVED aTFAILED fq0 fq1 fq2 fq3 fq4 fq5 fq6 fq7 fq8 fq9 fq10 fq11 fq12 fq13 fq14 fq15 fq16 fq17 fq18 fq19 fq20 fq21 fq22 fq23 fq24 fq25 fq26 fq27 fq28 fq29 kcq29 ktq29 CRow aIRow aDRow fq30 fq31 fq32 fq33 fq34 fq35 fq36 fq37 CPlaying aIPlaying fq38 fq39 fq40 fq41 fq42 fq43 fq44 fq45 EBreakerError EInvalidRow EInvalidIndex EInvalidBound EInvalidLog EInvalidCall ELimitExceeded aIInvalidRow aIInvalidLog : Addr} {nmInvalidRow qnInvalidRow : Str} {nnInvalidRow : Addr} {bsInvalidRow sbInvalidRow : List Value} {snInvalidRow : List Str} {abInvalidRow : Bool} {coInvalidRow : Option Bool} {ddInvalidRow : Option Addr} {u0InvalidRow u1InvalidRow u2InvalidRow u3InvalidRow u5InvalidRow : Option Value} {nmInvalidLog qnInvalidLog : Str} {nnInvalidLog : Addr} {bsInvalidLog sbInvalidLog : List Value} {snInvalidLog : List Str} {abInvalidLog : Bool} {coInvalidLog : Option Bool} {ddInvalidLog : Option Addr} {u0InvalidLog u1InvalidLog u2InvalidLog u3InvalidLog u5InvalidLog : Option Value} {tkTSERVED0 tkTFAILED0 tkRow tNMOST_BREAKERS tNMOST_REQUESTS : Tok} {nTSERVED nTFAILED : Nat} {odq0 anq0 odq1 anq1 odq2 anq2 odq3 anq3 odq4 anq4 odq5 anq5 odq6 anq6 odq7 anq7 odq8 anq8 odq9 anq9 odq10 anq10 odq11 anq11 odq12 anq12 odq13 anq13 odq14 anq14 odq15 anq15 odq16 anq16 odq17 anq17 odq18 anq18 odq19 anq19 odq20 anq20 odq21 anq21 odq22 anq22 odq23 anq23 odq24 anq24 odq25 anq25 odq26 anq26 odq27 anq27 odq28 anq28 odq29 anq29 odq30 anq30 odq31 anq31 odq32 anq32 odq33 anq33 odq34 anq34 odq35 anq35 odq36 anq36 odq37 anq37 odq38 anq38 odq39 anq39 odq40 anq40 odq41 anq41 odq42 anq42 odq43 anq43 odq44 anq44 odq45 anq45 odY anY odTSERVED odTFAILED odNRow anNRow odNPlaying anNPlaying odNInvalidRow anNInvalidRow odNInvalidLog anNInvalidLog : Option Addr} {slq0 slq1 slq2 slq3 slq4 slq5 slq6 slq7 slq8 slq9 slq10 slq11 slq12 slq13 slq14 slq15 slq16 slq17 slq18 slq19 slq20 slq21 slq22 slq23 slq24 slq25 slq26 slq27 slq28 slq29 slq30 slq31 slq32 slq33 slq34 slq35 slq36 slq37 slq38 slq39 slq40 slq41 slq42 slq43 slq44 slq45 slY slTSERVED slTFAILED slNRow slNPlaying slNInvalidRow slNInvalidLog : Array (Option Value)} {ocq0 kVq0 dcq0 pmq0 cdq0 ctq0 ocq1 kVq1 dcq1 pmq1 cdq1 ctq1 ocq2 kVq2 dcq2 pmq2 cdq2 ctq2 ocq3 kVq3 dcq3 pmq3 cdq3 ctq3 ocq4 kVq4 dcq4 pmq4 cdq4 ctq4 ocq5 kVq5 dcq5 pmq5 cdq5 ctq5 ocq6 kVq6 dcq6 pmq6 cdq6 ctq6 ocq7 kVq7 dcq7 pmq7 cdq7 ctq7 ocq8 kVq8 dcq8 pmq8 cdq8 ctq8 ocq9 kVq9 dcq9 pmq9 cdq9 ctq9 ocq10 kVq10 dcq10 pmq10 cdq10 ctq10 ocq11 kVq11 dcq11 pmq11 cdq11 ctq11 ocq12 kVq12 dcq12 pmq12 cdq12 ctq12 ocq13 kVq13 dcq13 pmq13 cdq13 ctq13 ocq14 kVq14 dcq14 pmq14 cdq14 ctq14 ocq15 kVq15 dcq15 pmq15 cdq15 ctq15 ocq16 kVq16 dcq16 pmq16 cdq16 ctq16 ocq17 kVq17 dcq17 pmq17 cdq17 ctq17 ocq18 kVq18 dcq18 pmq18 cdq18 ctq18 ocq19 kVq19 dcq19 pmq19 cdq19 ctq19 ocq20 kVq20 dcq20 pmq20 cdq20 ctq20 ocq21 kVq21 dcq21 pmq21 cdq21 ctq21 ocq22 kVq22 dcq22 pmq22 cdq22 ctq22 ocq23 kVq23 dcq23 pmq23 cdq23 ctq23 ocq24 kVq24 dcq24 pmq24 cdq24 ctq24 ocq25 kVq25 dcq25 pmq25 cdq25 ctq25 ocq26 kVq26 dcq26 pmq26 cdq26 ctq26 ocq27 kVq27 dcq27 pmq27 cdq27 ctq27 ocq28 kVq28 dcq28 pmq28 cdq28 ctq28 ocq29 kVq29 dcq29 pmq29 ctq29 ocq30 kVq30 dcq30 pmq30 cdq30 ctq30 ocq31 kVq31 dcq31 pmq31 cdq31 ctq31 ocq32 kVq32 dcq32 pmq32 cdq32 ctq32 ocq33 kVq33 dcq33 pmq33 cdq33 ctq33 ocq34 kVq34 dcq34 pmq34 cdq34 ctq34 ocq35 kVq35 dcq35 pmq35 cdq35 ctq35 ocq36 kVq36 dcq36 pmq36 cdq36 ctq36 ocq37 kVq37 dcq37 pmq37 cdq37 ctq37 ocq38 kVq38 dcq38 pmq38 cdq38 ctq38 ocq39 kVq39 dcq39 pmq39 cdq39 ctq39 ocq40 kVq40 dcq40 pmq40 cdq40 ctq40 ocq41 kVq41 dcq41 pmq41 cdq41 ctq41 ocq42 kVq42 dcq42 pmq42 cdq42 ctq42 ocq43 kVq43 dcq43 pmq43 cdq43 ctq43 ocq44 kVq44 dcq44 pmq44 cdq44 ctq44 ocq45 kVq45 dcq45 pmq45 cdq45 ctq45 ocY kVY dcY pmY cdY ctY ocNRow dcNRow pmNRow cdNRow ctNRow ocNPlaying dcNPlaying pmNPlaying cdNPlaying ctNPlaying kVNPlaying ocNInvalidRow kVNInvalidRow dcNInvalidRow pmNInvalidRow cdNInvalidRow ctNInvalidRow ocNInvalidLog kVNInvalidLog dcNInvalidLog pmNInvalidLog cdNInvalidLog ctNInvalidLog : Value}
    (X : K.In h) (G : h.Ns mainGlobals mg) (LL : PySem.W.LooseAre lv mg h) (hLMOST_COUNT : (("MOST_COUNT" : Str), PySem.W.WData.int 1000000000000) ∈ lv) (hLMOST_TIME : (("MOST_TIME" : Str), PySem.W.WData.int 1000000000000000000000000000000) ∈ lv) (hfa : mg "law" = some (.ref fa))
    (gTSERVED : PySem.W.nsIn K mainGlobals "SERVED" = some (some (.ref aTSERVED)))
    (lTSERVED : K.lookup aTSERVED = some ⟨.type "tuple", odTSERVED, .seq #[.str "served" tkTSERVED0] nTSERVED, slTSERVED⟩)
    (gTFAILED : PySem.W.nsIn K mainGlobals "FAILED" = some (some (.ref aTFAILED)))
    (lTFAILED : K.lookup aTFAILED = some ⟨.type "tuple", odTFAILED, .seq #[.str "failed" tkTFAILED0] nTFAILED, slTFAILED⟩)
    (aq0 : PySem.W.nsIn K mainGlobals "_wall" = some (some (.ref fq0)))
    (lq0 : K.lookup fq0 = some ⟨ocq0, odq0, .func (PySem.W.fnOf "_wall" "_wall" (defArgs st__wall) (defBody st__wall) (defScope st__wall) .none kVq0 dcq0 pmq0 anq0 cdq0 ctq0), slq0⟩)
    (cq0 : PySem.W.codeIn K cdq0 "_wall" = true)
    (kq0 : PySem.W.keepIn K (.ref fq0) = true)
    (aq1 : PySem.W.nsIn K mainGlobals "is_integer" = some (some (.ref fq1)))
    (lq1 : K.lookup fq1 = some ⟨ocq1, odq1, .func (PySem.W.fnOf "is_integer" "is_integer" (defArgs st_is_integer) (defBody st_is_integer) (defScope st_is_integer) .none kVq1 dcq1 pmq1 anq1 cdq1 ctq1), slq1⟩)
    (cq1 : PySem.W.codeIn K cdq1 "is_integer" = true)
    (kq1 : PySem.W.keepIn K (.ref fq1) = true)
    (aq2 : PySem.W.nsIn K mainGlobals "is_at_least" = some (some (.ref fq2)))
    (lq2 : K.lookup fq2 = some ⟨ocq2, odq2, .func (PySem.W.fnOf "is_at_least" "is_at_least" (defArgs st_is_at_least) (defBody st_is_at_least) (defScope st_is_at_least) .none kVq2 dcq2 pmq2 anq2 cdq2 ctq2), slq2⟩)
    (cq2 : PySem.W.codeIn K cdq2 "is_at_least" = true)
    (kq2 : PySem.W.keepIn K (.ref fq2) = true)
    (aq3 : PySem.W.nsIn K mainGlobals "is_within" = some (some (.ref fq3)))
    (lq3 : K.lookup fq3 = some ⟨ocq3, odq3, .func (PySem.W.fnOf "is_within" "is_within" (defArgs st_is_within) (defBody st_is_within) (defScope st_is_within) .none kVq3 dcq3 pmq3 anq3 cdq3 ctq3), slq3⟩)
    (cq3 : PySem.W.codeIn K cdq3 "is_within" = true)
    (kq3 : PySem.W.keepIn K (.ref fq3) = true)
    (aq4 : PySem.W.nsIn K mainGlobals "is_breaker" = some (some (.ref fq4)))
    (lq4 : K.lookup fq4 = some ⟨ocq4, odq4, .func (PySem.W.fnOf "is_breaker" "is_breaker" (defArgs st_is_breaker) (defBody st_is_breaker) (defScope st_is_breaker) .none kVq4 dcq4 pmq4 anq4 cdq4 ctq4), slq4⟩)
    (cq4 : PySem.W.codeIn K cdq4 "is_breaker" = true)
    (kq4 : PySem.W.keepIn K (.ref fq4) = true)
    (aq5 : PySem.W.nsIn K mainGlobals "check_breakers" = some (some (.ref fq5)))
    (lq5 : K.lookup fq5 = some ⟨ocq5, odq5, .func (PySem.W.fnOf "check_breakers" "check_breakers" (defArgs st_check_breakers) (defBody st_check_breakers) (defScope st_check_breakers) .none kVq5 dcq5 pmq5 anq5 cdq5 ctq5), slq5⟩)
    (cq5 : PySem.W.codeIn K cdq5 "check_breakers" = true)
    (kq5 : PySem.W.keepIn K (.ref fq5) = true)
    (aq6 : PySem.W.nsIn K mainGlobals "check_step" = some (some (.ref fq6)))
    (lq6 : K.lookup fq6 = some ⟨ocq6, odq6, .func (PySem.W.fnOf "check_step" "check_step" (defArgs st_check_step) (defBody st_check_step) (defScope st_check_step) .none kVq6 dcq6 pmq6 anq6 cdq6 ctq6), slq6⟩)
    (cq6 : PySem.W.codeIn K cdq6 "check_step" = true)
    (kq6 : PySem.W.keepIn K (.ref fq6) = true)
    (aq7 : PySem.W.nsIn K mainGlobals "request_time" = some (some (.ref fq7)))
    (lq7 : K.lookup fq7 = some ⟨ocq7, odq7, .func (PySem.W.fnOf "request_time" "request_time" (defArgs st_request_time) (defBody st_request_time) (defScope st_request_time) .none kVq7 dcq7 pmq7 anq7 cdq7 ctq7), slq7⟩)
    (cq7 : PySem.W.codeIn K cdq7 "request_time" = true)
    (kq7 : PySem.W.keepIn K (.ref fq7) = true)
    (aq8 : PySem.W.nsIn K mainGlobals "closed_states" = some (some (.ref fq8)))
    (lq8 : K.lookup fq8 = some ⟨ocq8, odq8, .func (PySem.W.fnOf "closed_states" "closed_states" (defArgs st_closed_states) (defBody st_closed_states) (defScope st_closed_states) .none kVq8 dcq8 pmq8 anq8 cdq8 ctq8), slq8⟩)
    (cq8 : PySem.W.codeIn K cdq8 "closed_states" = true)
    (kq8 : PySem.W.keepIn K (.ref fq8) = true)
    (aq9 : PySem.W.nsIn K mainGlobals "passes" = some (some (.ref fq9)))
    (lq9 : K.lookup fq9 = some ⟨ocq9, odq9, .func (PySem.W.fnOf "passes" "passes" (defArgs st_passes) (defBody st_passes) (defScope st_passes) .none kVq9 dcq9 pmq9 anq9 cdq9 ctq9), slq9⟩)
    (cq9 : PySem.W.codeIn K cdq9 "passes" = true)
    (kq9 : PySem.W.keepIn K (.ref fq9) = true)
    (aq10 : PySem.W.nsIn K mainGlobals "state_behind" = some (some (.ref fq10)))
    (lq10 : K.lookup fq10 = some ⟨ocq10, odq10, .func (PySem.W.fnOf "state_behind" "state_behind" (defArgs st_state_behind) (defBody st_state_behind) (defScope st_state_behind) .none kVq10 dcq10 pmq10 anq10 cdq10 ctq10), slq10⟩)
    (cq10 : PySem.W.codeIn K cdq10 "state_behind" = true)
    (kq10 : PySem.W.keepIn K (.ref fq10) = true)
    (aq11 : PySem.W.nsIn K mainGlobals "sent" = some (some (.ref fq11)))
    (lq11 : K.lookup fq11 = some ⟨ocq11, odq11, .func (PySem.W.fnOf "sent" "sent" (defArgs st_sent) (defBody st_sent) (defScope st_sent) .none kVq11 dcq11 pmq11 anq11 cdq11 ctq11), slq11⟩)
    (cq11 : PySem.W.codeIn K cdq11 "sent" = true)
    (kq11 : PySem.W.keepIn K (.ref fq11) = true)
    (aq12 : PySem.W.nsIn K mainGlobals "is_word" = some (some (.ref fq12)))
    (lq12 : K.lookup fq12 = some ⟨ocq12, odq12, .func (PySem.W.fnOf "is_word" "is_word" (defArgs st_is_word) (defBody st_is_word) (defScope st_is_word) .none kVq12 dcq12 pmq12 anq12 cdq12 ctq12), slq12⟩)
    (cq12 : PySem.W.codeIn K cdq12 "is_word" = true)
    (kq12 : PySem.W.keepIn K (.ref fq12) = true)
    (aq13 : PySem.W.nsIn K mainGlobals "check_words" = some (some (.ref fq13)))
    (lq13 : K.lookup fq13 = some ⟨ocq13, odq13, .func (PySem.W.fnOf "check_words" "check_words" (defArgs st_check_words) (defBody st_check_words) (defScope st_check_words) .none kVq13 dcq13 pmq13 anq13 cdq13 ctq13), slq13⟩)
    (cq13 : PySem.W.codeIn K cdq13 "check_words" = true)
    (kq13 : PySem.W.keepIn K (.ref fq13) = true)
    (aq14 : PySem.W.nsIn K mainGlobals "played" = some (some (.ref fq14)))
    (lq14 : K.lookup fq14 = some ⟨ocq14, odq14, .func (PySem.W.fnOf "played" "played" (defArgs st_played) (defBody st_played) (defScope st_played) .none kVq14 dcq14 pmq14 anq14 cdq14 ctq14), slq14⟩)
    (cq14 : PySem.W.codeIn K cdq14 "played" = true)
    (kq14 : PySem.W.keepIn K (.ref fq14) = true)
    (aq15 : PySem.W.nsIn K mainGlobals "replay" = some (some (.ref fq15)))
    (lq15 : K.lookup fq15 = some ⟨ocq15, odq15, .func (PySem.W.fnOf "replay" "replay" (defArgs st_replay) (defBody st_replay) (defScope st_replay) .none kVq15 dcq15 pmq15 anq15 cdq15 ctq15), slq15⟩)
    (cq15 : PySem.W.codeIn K cdq15 "replay" = true)
    (kq15 : PySem.W.keepIn K (.ref fq15) = true)
    (aq16 : PySem.W.nsIn K mainGlobals "outcomes" = some (some (.ref fq16)))
    (lq16 : K.lookup fq16 = some ⟨ocq16, odq16, .func (PySem.W.fnOf "outcomes" "outcomes" (defArgs st_outcomes) (defBody st_outcomes) (defScope st_outcomes) .none kVq16 dcq16 pmq16 anq16 cdq16 ctq16), slq16⟩)
    (cq16 : PySem.W.codeIn K cdq16 "outcomes" = true)
    (kq16 : PySem.W.keepIn K (.ref fq16) = true)
    (aq17 : PySem.W.nsIn K mainGlobals "_law_cell_at" = some (some (.ref fq17)))
    (lq17 : K.lookup fq17 = some ⟨ocq17, odq17, .func (PySem.W.fnOf "_law_cell_at" "_law_cell_at" (defArgs st__law_cell_at) (defBody st__law_cell_at) (defScope st__law_cell_at) .none kVq17 dcq17 pmq17 anq17 cdq17 ctq17), slq17⟩)
    (cq17 : PySem.W.codeIn K cdq17 "_law_cell_at" = true)
    (kq17 : PySem.W.keepIn K (.ref fq17) = true)
    (aq18 : PySem.W.nsIn K mainGlobals "_law_source_of" = some (some (.ref fq18)))
    (lq18 : K.lookup fq18 = some ⟨ocq18, odq18, .func (PySem.W.fnOf "_law_source_of" "_law_source_of" (defArgs st__law_source_of) (defBody st__law_source_of) (defScope st__law_source_of) .none kVq18 dcq18 pmq18 anq18 cdq18 ctq18), slq18⟩)
    (cq18 : PySem.W.codeIn K cdq18 "_law_source_of" = true)
    (kq18 : PySem.W.keepIn K (.ref fq18) = true)
    (aq19 : PySem.W.nsIn K mainGlobals "_law_draw" = some (some (.ref fq19)))
    (lq19 : K.lookup fq19 = some ⟨ocq19, odq19, .func (PySem.W.fnOf "_law_draw" "_law_draw" (defArgs st__law_draw) (defBody st__law_draw) (defScope st__law_draw) .none kVq19 dcq19 pmq19 anq19 cdq19 ctq19), slq19⟩)
    (cq19 : PySem.W.codeIn K cdq19 "_law_draw" = true)
    (kq19 : PySem.W.keepIn K (.ref fq19) = true)
    (aq20 : PySem.W.nsIn K mainGlobals "_law_choice" = some (some (.ref fq20)))
    (lq20 : K.lookup fq20 = some ⟨ocq20, odq20, .func (PySem.W.fnOf "_law_choice" "_law_choice" (defArgs st__law_choice) (defBody st__law_choice) (defScope st__law_choice) .none kVq20 dcq20 pmq20 anq20 cdq20 ctq20), slq20⟩)
    (cq20 : PySem.W.codeIn K cdq20 "_law_choice" = true)
    (kq20 : PySem.W.keepIn K (.ref fq20) = true)
    (aq21 : PySem.W.nsIn K mainGlobals "_law_specs" = some (some (.ref fq21)))
    (lq21 : K.lookup fq21 = some ⟨ocq21, odq21, .func (PySem.W.fnOf "_law_specs" "_law_specs" (defArgs st__law_specs) (defBody st__law_specs) (defScope st__law_specs) .none kVq21 dcq21 pmq21 anq21 cdq21 ctq21), slq21⟩)
    (cq21 : PySem.W.codeIn K cdq21 "_law_specs" = true)
    (kq21 : PySem.W.keepIn K (.ref fq21) = true)
    (aq22 : PySem.W.nsIn K mainGlobals "_law_words" = some (some (.ref fq22)))
    (lq22 : K.lookup fq22 = some ⟨ocq22, odq22, .func (PySem.W.fnOf "_law_words" "_law_words" (defArgs st__law_words) (defBody st__law_words) (defScope st__law_words) .none kVq22 dcq22 pmq22 anq22 cdq22 ctq22), slq22⟩)
    (cq22 : PySem.W.codeIn K cdq22 "_law_words" = true)
    (kq22 : PySem.W.keepIn K (.ref fq22) = true)
    (aq23 : PySem.W.nsIn K mainGlobals "_law_error" = some (some (.ref fq23)))
    (lq23 : K.lookup fq23 = some ⟨ocq23, odq23, .func (PySem.W.fnOf "_law_error" "_law_error" (defArgs st__law_error) (defBody st__law_error) (defScope st__law_error) .none kVq23 dcq23 pmq23 anq23 cdq23 ctq23), slq23⟩)
    (cq23 : PySem.W.codeIn K cdq23 "_law_error" = true)
    (kq23 : PySem.W.keepIn K (.ref fq23) = true)
    (aq24 : PySem.W.nsIn K mainGlobals "_law_is_shut" = some (some (.ref fq24)))
    (lq24 : K.lookup fq24 = some ⟨ocq24, odq24, .func (PySem.W.fnOf "_law_is_shut" "_law_is_shut" (defArgs st__law_is_shut) (defBody st__law_is_shut) (defScope st__law_is_shut) .none kVq24 dcq24 pmq24 anq24 cdq24 ctq24), slq24⟩)
    (cq24 : PySem.W.codeIn K cdq24 "_law_is_shut" = true)
    (kq24 : PySem.W.keepIn K (.ref fq24) = true)
    (aq25 : PySem.W.nsIn K mainGlobals "_law_behind" = some (some (.ref fq25)))
    (lq25 : K.lookup fq25 = some ⟨ocq25, odq25, .func (PySem.W.fnOf "_law_behind" "_law_behind" (defArgs st__law_behind) (defBody st__law_behind) (defScope st__law_behind) .none kVq25 dcq25 pmq25 anq25 cdq25 ctq25), slq25⟩)
    (cq25 : PySem.W.codeIn K cdq25 "_law_behind" = true)
    (kq25 : PySem.W.keepIn K (.ref fq25) = true)
    (aq26 : PySem.W.nsIn K mainGlobals "_law_due" = some (some (.ref fq26)))
    (lq26 : K.lookup fq26 = some ⟨ocq26, odq26, .func (PySem.W.fnOf "_law_due" "_law_due" (defArgs st__law_due) (defBody st__law_due) (defScope st__law_due) .none kVq26 dcq26 pmq26 anq26 cdq26 ctq26), slq26⟩)
    (cq26 : PySem.W.codeIn K cdq26 "_law_due" = true)
    (kq26 : PySem.W.keepIn K (.ref fq26) = true)
    (aq27 : PySem.W.nsIn K mainGlobals "_law_shown" = some (some (.ref fq27)))
    (lq27 : K.lookup fq27 = some ⟨ocq27, odq27, .func (PySem.W.fnOf "_law_shown" "_law_shown" (defArgs st__law_shown) (defBody st__law_shown) (defScope st__law_shown) .none kVq27 dcq27 pmq27 anq27 cdq27 ctq27), slq27⟩)
    (cq27 : PySem.W.codeIn K cdq27 "_law_shown" = true)
    (kq27 : PySem.W.keepIn K (.ref fq27) = true)
    (aq28 : PySem.W.nsIn K mainGlobals "_law_driven_right" = some (some (.ref fq28)))
    (lq28 : K.lookup fq28 = some ⟨ocq28, odq28, .func (PySem.W.fnOf "_law_driven_right" "_law_driven_right" (defArgs st__law_driven_right) (defBody st__law_driven_right) (defScope st__law_driven_right) .none kVq28 dcq28 pmq28 anq28 cdq28 ctq28), slq28⟩)
    (cq28 : PySem.W.codeIn K cdq28 "_law_driven_right" = true)
    (kq28 : PySem.W.keepIn K (.ref fq28) = true)
    (aq29 : PySem.W.nsIn K mainGlobals "_law_refused_right" = some (some (.ref fq29)))
    (lq29 : K.lookup fq29 = some ⟨ocq29, odq29, .func (PySem.W.fnOf "_law_refused_right" "_law_refused_right" (defArgs st__law_refused_right) (defBody st__law_refused_right) (defScope st__law_refused_right) .none kVq29 dcq29 pmq29 anq29 (.ref kcq29) ctq29), slq29⟩)
    (cq29 : PySem.W.codeIn K (.ref kcq29) "_law_refused_right" = true)
    (kq29 : PySem.W.keepIn K (.ref fq29) = true)
    (gcRow : PySem.W.nsIn K mainGlobals "Row" = some (some (.ref CRow)))
    (gRow0 : PySem.W.plainGet K CRow Str.empty = true)
    (gRow1 : PySem.W.hasDictIn K CRow = true)
    (gRow2 : PySem.W.plainOver K CRow = true)
    (gRow3 : PySem.W.findIn K (.ref CRow) "__setattr__" = some (some (.builtin "object.__setattr__")))
    (gRow4 : PySem.W.makesIn K CRow = true)
    (gRow5 : PySem.W.keepIn K (.ref CRow) = true)
    (gRow6 : PySem.W.isClsIn K CRow = true)
    (gRow7 : PySem.W.typeIn K (.ref CRow) = some (.type "type"))
    (gRow8 : PySem.W.findIn K (.ref CRow) "__class__" = some (some (.builtin "object.__class__")))
    (gRow9 : PySem.W.mroIn K CRow (.type "object") = some true)
    (gRow10 : PySem.W.selfFirst K CRow = true)
    (gRow11 : PySem.W.findIn K (.ref CRow) "__ne__" = some (some (.builtin "object.__ne__")))
    (gO1 : PySem.W.specialIn K (.builtin "object.__class__") "__get__" = some (some (.builtin "getset_descriptor.__get__")))
    (gO2 : PySem.W.takesIn K (.builtin "object.__class__") = some true)
    (nfRow_breakers : PySem.W.findIn K (.ref CRow) "breakers" = some none)
    (nfRow_step : PySem.W.findIn K (.ref CRow) "step" = some none)
    (nfRow_phase : PySem.W.findIn K (.ref CRow) "phase" = some none)
    (aNRow : PySem.W.findIn K (.ref CRow) "__init__" = some (some (.ref aIRow)))
    (iNRow : PySem.W.isFn K (.ref aIRow) = true)
    (lNRow : K.lookup aIRow = some ⟨ocNRow, odNRow, .func (PySem.W.fnOf "__init__" "Row.__init__" (defArgs st_Row_init) (defBody st_Row_init) (defScope st_Row_init) .none (.ref aDRow) dcNRow pmNRow anNRow cdNRow ctNRow), slNRow⟩)
    (cNRow : PySem.W.codeIn K cdNRow "Row.__init__" = true)
    (kNRow : PySem.W.keepIn K (.ref aIRow) = true)
    (dRow : PySem.W.nsIn K aDRow "phase" = some (some (.int 0 tkRow)))
    (aq30 : PySem.W.findIn K (.ref CRow) "breaker_list" = some (some (.ref fq30)))
    (iq30 : PySem.W.isFn K (.ref fq30) = true)
    (nq30 : PySem.W.fnIn K fq30 = true)
    (lq30 : K.lookup fq30 = some ⟨ocq30, odq30, .func (PySem.W.fnOf "breaker_list" "Row.breaker_list" (defArgs st_Row_breaker_list) (defBody st_Row_breaker_list) (defScope st_Row_breaker_list) .none kVq30 dcq30 pmq30 anq30 cdq30 ctq30), slq30⟩)
    (cq30 : PySem.W.codeIn K cdq30 "Row.breaker_list" = true)
    (kq30 : PySem.W.keepIn K (.ref fq30) = true)
    (aq31 : PySem.W.findIn K (.ref CRow) "step_length" = some (some (.ref fq31)))
    (iq31 : PySem.W.isFn K (.ref fq31) = true)
    (nq31 : PySem.W.fnIn K fq31 = true)
    (lq31 : K.lookup fq31 = some ⟨ocq31, odq31, .func (PySem.W.fnOf "step_length" "Row.step_length" (defArgs st_Row_step_length) (defBody st_Row_step_length) (defScope st_Row_step_length) .none kVq31 dcq31 pmq31 anq31 cdq31 ctq31), slq31⟩)
    (cq31 : PySem.W.codeIn K cdq31 "Row.step_length" = true)
    (kq31 : PySem.W.keepIn K (.ref fq31) = true)
    (aq32 : PySem.W.findIn K (.ref CRow) "phase_time" = some (some (.ref fq32)))
    (iq32 : PySem.W.isFn K (.ref fq32) = true)
    (nq32 : PySem.W.fnIn K fq32 = true)
    (lq32 : K.lookup fq32 = some ⟨ocq32, odq32, .func (PySem.W.fnOf "phase_time" "Row.phase_time" (defArgs st_Row_phase_time) (defBody st_Row_phase_time) (defScope st_Row_phase_time) .none kVq32 dcq32 pmq32 anq32 cdq32 ctq32), slq32⟩)
    (cq32 : PySem.W.codeIn K cdq32 "Row.phase_time" = true)
    (kq32 : PySem.W.keepIn K (.ref fq32) = true)
    (aq33 : PySem.W.findIn K (.ref CRow) "__len__" = some (some (.ref fq33)))
    (iq33 : PySem.W.isFn K (.ref fq33) = true)
    (nq33 : PySem.W.fnIn K fq33 = true)
    (lq33 : K.lookup fq33 = some ⟨ocq33, odq33, .func (PySem.W.fnOf "__len__" "Row.__len__" (defArgs st_Row_len) (defBody st_Row_len) (defScope st_Row_len) .none kVq33 dcq33 pmq33 anq33 cdq33 ctq33), slq33⟩)
    (cq33 : PySem.W.codeIn K cdq33 "Row.__len__" = true)
    (kq33 : PySem.W.keepIn K (.ref fq33) = true)
    (aq34 : PySem.W.findIn K (.ref CRow) "__getitem__" = some (some (.ref fq34)))
    (iq34 : PySem.W.isFn K (.ref fq34) = true)
    (nq34 : PySem.W.fnIn K fq34 = true)
    (lq34 : K.lookup fq34 = some ⟨ocq34, odq34, .func (PySem.W.fnOf "__getitem__" "Row.__getitem__" (defArgs st_Row_getitem) (defBody st_Row_getitem) (defScope st_Row_getitem) .none kVq34 dcq34 pmq34 anq34 cdq34 ctq34), slq34⟩)
    (cq34 : PySem.W.codeIn K cdq34 "Row.__getitem__" = true)
    (kq34 : PySem.W.keepIn K (.ref fq34) = true)
    (aq35 : PySem.W.findIn K (.ref CRow) "__contains__" = some (some (.ref fq35)))
    (iq35 : PySem.W.isFn K (.ref fq35) = true)
    (nq35 : PySem.W.fnIn K fq35 = true)
    (lq35 : K.lookup fq35 = some ⟨ocq35, odq35, .func (PySem.W.fnOf "__contains__" "Row.__contains__" (defArgs st_Row_contains) (defBody st_Row_contains) (defScope st_Row_contains) .none kVq35 dcq35 pmq35 anq35 cdq35 ctq35), slq35⟩)
    (cq35 : PySem.W.codeIn K cdq35 "Row.__contains__" = true)
    (kq35 : PySem.W.keepIn K (.ref fq35) = true)
    (aq36 : PySem.W.findIn K (.ref CRow) "__add__" = some (some (.ref fq36)))
    (iq36 : PySem.W.isFn K (.ref fq36) = true)
    (nq36 : PySem.W.fnIn K fq36 = true)
    (lq36 : K.lookup fq36 = some ⟨ocq36, odq36, .func (PySem.W.fnOf "__add__" "Row.__add__" (defArgs st_Row_add) (defBody st_Row_add) (defScope st_Row_add) .none kVq36 dcq36 pmq36 anq36 cdq36 ctq36), slq36⟩)
    (cq36 : PySem.W.codeIn K cdq36 "Row.__add__" = true)
    (kq36 : PySem.W.keepIn K (.ref fq36) = true)
    (aq37 : PySem.W.findIn K (.ref CRow) "__eq__" = some (some (.ref fq37)))
    (iq37 : PySem.W.isFn K (.ref fq37) = true)
    (nq37 : PySem.W.fnIn K fq37 = true)
    (lq37 : K.lookup fq37 = some ⟨ocq37, odq37, .func (PySem.W.fnOf "__eq__" "Row.__eq__" (defArgs st_Row_eq) (defBody st_Row_eq) (defScope st_Row_eq) .none kVq37 dcq37 pmq37 anq37 cdq37 ctq37), slq37⟩)
    (cq37 : PySem.W.codeIn K cdq37 "Row.__eq__" = true)
    (kq37 : PySem.W.keepIn K (.ref fq37) = true)
    (gcPlaying : PySem.W.nsIn K mainGlobals "Playing" = some (some (.ref CPlaying)))
    (gPlaying0 : PySem.W.plainGet K CPlaying Str.empty = true)
    (gPlaying1 : PySem.W.hasDictIn K CPlaying = true)
    (gPlaying2 : PySem.W.plainOver K CPlaying = true)
    (gPlaying3 : PySem.W.findIn K (.ref CPlaying) "__setattr__" = some (some (.builtin "object.__setattr__")))
    (gPlaying4 : PySem.W.makesIn K CPlaying = true)
    (gPlaying5 : PySem.W.keepIn K (.ref CPlaying) = true)
    (gPlaying6 : PySem.W.isClsIn K CPlaying = true)
    (gPlaying7 : PySem.W.typeIn K (.ref CPlaying) = some (.type "type"))
    (gPlaying8 : PySem.W.findIn K (.ref CPlaying) "__class__" = some (some (.builtin "object.__class__")))
    (gPlaying9 : PySem.W.mroIn K CPlaying (.type "object") = some true)
    (gPlaying10 : PySem.W.selfFirst K CPlaying = true)
    (gPlaying11 : PySem.W.findIn K (.ref CPlaying) "__ne__" = some (some (.builtin "object.__ne__")))
    (nfPlaying_row : PySem.W.findIn K (.ref CPlaying) "row" = some none)
    (nfPlaying_words : PySem.W.findIn K (.ref CPlaying) "words" = some none)
    (nfPlaying_history : PySem.W.findIn K (.ref CPlaying) "history" = some none)
    (aNPlaying : PySem.W.findIn K (.ref CPlaying) "__init__" = some (some (.ref aIPlaying)))
    (iNPlaying : PySem.W.isFn K (.ref aIPlaying) = true)
    (lNPlaying : K.lookup aIPlaying = some ⟨ocNPlaying, odNPlaying, .func (PySem.W.fnOf "__init__" "Playing.__init__" (defArgs st_Playing_init) (defBody st_Playing_init) (defScope st_Playing_init) .none kVNPlaying dcNPlaying pmNPlaying anNPlaying cdNPlaying ctNPlaying), slNPlaying⟩)
    (cNPlaying : PySem.W.codeIn K cdNPlaying "Playing.__init__" = true)
    (kNPlaying : PySem.W.keepIn K (.ref aIPlaying) = true)
    (aq38 : PySem.W.findIn K (.ref CPlaying) "base_row" = some (some (.ref fq38)))
    (iq38 : PySem.W.isFn K (.ref fq38) = true)
    (nq38 : PySem.W.fnIn K fq38 = true)
    (lq38 : K.lookup fq38 = some ⟨ocq38, odq38, .func (PySem.W.fnOf "base_row" "Playing.base_row" (defArgs st_Playing_base_row) (defBody st_Playing_base_row) (defScope st_Playing_base_row) .none kVq38 dcq38 pmq38 anq38 cdq38 ctq38), slq38⟩)
    (cq38 : PySem.W.codeIn K cdq38 "Playing.base_row" = true)
    (kq38 : PySem.W.keepIn K (.ref fq38) = true)
    (aq39 : PySem.W.findIn K (.ref CPlaying) "next_request" = some (some (.ref fq39)))
    (iq39 : PySem.W.isFn K (.ref fq39) = true)
    (nq39 : PySem.W.fnIn K fq39 = true)
    (lq39 : K.lookup fq39 = some ⟨ocq39, odq39, .func (PySem.W.fnOf "next_request" "Playing.next_request" (defArgs st_Playing_next_request) (defBody st_Playing_next_request) (defScope st_Playing_next_request) .none kVq39 dcq39 pmq39 anq39 cdq39 ctq39), slq39⟩)
    (cq39 : PySem.W.codeIn K cdq39 "Playing.next_request" = true)
    (kq39 : PySem.W.keepIn K (.ref fq39) = true)
    (aq40 : PySem.W.findIn K (.ref CPlaying) "request" = some (some (.ref fq40)))
    (iq40 : PySem.W.isFn K (.ref fq40) = true)
    (nq40 : PySem.W.fnIn K fq40 = true)
    (lq40 : K.lookup fq40 = some ⟨ocq40, odq40, .func (PySem.W.fnOf "request" "Playing.request" (defArgs st_Playing_request) (defBody st_Playing_request) (defScope st_Playing_request) .none kVq40 dcq40 pmq40 anq40 cdq40 ctq40), slq40⟩)
    (cq40 : PySem.W.codeIn K cdq40 "Playing.request" = true)
    (kq40 : PySem.W.keepIn K (.ref fq40) = true)
    (aq41 : PySem.W.findIn K (.ref CPlaying) "state_list" = some (some (.ref fq41)))
    (iq41 : PySem.W.isFn K (.ref fq41) = true)
    (nq41 : PySem.W.fnIn K fq41 = true)
    (lq41 : K.lookup fq41 = some ⟨ocq41, odq41, .func (PySem.W.fnOf "state_list" "Playing.state_list" (defArgs st_Playing_state_list) (defBody st_Playing_state_list) (defScope st_Playing_state_list) .none kVq41 dcq41 pmq41 anq41 cdq41 ctq41), slq41⟩)
    (cq41 : PySem.W.codeIn K cdq41 "Playing.state_list" = true)
    (kq41 : PySem.W.keepIn K (.ref fq41) = true)
    (aq42 : PySem.W.findIn K (.ref CPlaying) "is_whole" = some (some (.ref fq42)))
    (iq42 : PySem.W.isFn K (.ref fq42) = true)
    (nq42 : PySem.W.fnIn K fq42 = true)
    (lq42 : K.lookup fq42 = some ⟨ocq42, odq42, .func (PySem.W.fnOf "is_whole" "Playing.is_whole" (defArgs st_Playing_is_whole) (defBody st_Playing_is_whole) (defScope st_Playing_is_whole) .none kVq42 dcq42 pmq42 anq42 cdq42 ctq42), slq42⟩)
    (cq42 : PySem.W.codeIn K cdq42 "Playing.is_whole" = true)
    (kq42 : PySem.W.keepIn K (.ref fq42) = true)
    (aq43 : PySem.W.findIn K (.ref CPlaying) "log" = some (some (.ref fq43)))
    (iq43 : PySem.W.isFn K (.ref fq43) = true)
    (nq43 : PySem.W.fnIn K fq43 = true)
    (lq43 : K.lookup fq43 = some ⟨ocq43, odq43, .func (PySem.W.fnOf "log" "Playing.log" (defArgs st_Playing_log) (defBody st_Playing_log) (defScope st_Playing_log) .none kVq43 dcq43 pmq43 anq43 cdq43 ctq43), slq43⟩)
    (cq43 : PySem.W.codeIn K cdq43 "Playing.log" = true)
    (kq43 : PySem.W.keepIn K (.ref fq43) = true)
    (aq44 : PySem.W.findIn K (.ref CPlaying) "undo" = some (some (.ref fq44)))
    (iq44 : PySem.W.isFn K (.ref fq44) = true)
    (nq44 : PySem.W.fnIn K fq44 = true)
    (lq44 : K.lookup fq44 = some ⟨ocq44, odq44, .func (PySem.W.fnOf "undo" "Playing.undo" (defArgs st_Playing_undo) (defBody st_Playing_undo) (defScope st_Playing_undo) .none kVq44 dcq44 pmq44 anq44 cdq44 ctq44), slq44⟩)
    (cq44 : PySem.W.codeIn K cdq44 "Playing.undo" = true)
    (kq44 : PySem.W.keepIn K (.ref fq44) = true)
    (aq45 : PySem.W.findIn K (.ref CPlaying) "__eq__" = some (some (.ref fq45)))
    (iq45 : PySem.W.isFn K (.ref fq45) = true)
    (nq45 : PySem.W.fnIn K fq45 = true)
    (lq45 : K.lookup fq45 = some ⟨ocq45, odq45, .func (PySem.W.fnOf "__eq__" "Playing.__eq__" (defArgs st_Playing_eq) (defBody st_Playing_eq) (defScope st_Playing_eq) .none kVq45 dcq45 pmq45 anq45 cdq45 ctq45), slq45⟩)
    (cq45 : PySem.W.codeIn K cdq45 "Playing.__eq__" = true)
    (kq45 : PySem.W.keepIn K (.ref fq45) = true)
    (geBreakerError : PySem.W.nsIn K mainGlobals "BreakerError" = some (some (.ref EBreakerError)))
    (xaBreakerError : PySem.W.findIn K (.ref EBreakerError) "__getattribute__" = some (some (.builtin "BaseException.__getattribute__")))
    (xbBreakerError : PySem.W.findIn K (.ref EBreakerError) "__getattr__" = some none)
    (xcBreakerError : PySem.W.subIn K (.ref EBreakerError) (.type "BaseException") = some true)
    (xdBreakerError : PySem.W.hasDictIn K EBreakerError = true)
    (xeBreakerError : PySem.W.typeIn K (.ref EBreakerError) = some (.type "type"))
    (geInvalidRow : PySem.W.nsIn K mainGlobals "InvalidRow" = some (some (.ref EInvalidRow)))
    (xaInvalidRow : PySem.W.findIn K (.ref EInvalidRow) "__getattribute__" = some (some (.builtin "BaseException.__getattribute__")))
    (xbInvalidRow : PySem.W.findIn K (.ref EInvalidRow) "__getattr__" = some none)
    (xcInvalidRow : PySem.W.subIn K (.ref EInvalidRow) (.type "BaseException") = some true)
    (xdInvalidRow : PySem.W.hasDictIn K EInvalidRow = true)
    (xeInvalidRow : PySem.W.typeIn K (.ref EInvalidRow) = some (.type "type"))
    (geInvalidIndex : PySem.W.nsIn K mainGlobals "InvalidIndex" = some (some (.ref EInvalidIndex)))
    (xaInvalidIndex : PySem.W.findIn K (.ref EInvalidIndex) "__getattribute__" = some (some (.builtin "BaseException.__getattribute__")))
    (xbInvalidIndex : PySem.W.findIn K (.ref EInvalidIndex) "__getattr__" = some none)
    (xcInvalidIndex : PySem.W.subIn K (.ref EInvalidIndex) (.type "BaseException") = some true)
    (xdInvalidIndex : PySem.W.hasDictIn K EInvalidIndex = true)
    (xeInvalidIndex : PySem.W.typeIn K (.ref EInvalidIndex) = some (.type "type"))
    (geInvalidBound : PySem.W.nsIn K mainGlobals "InvalidBound" = some (some (.ref EInvalidBound)))
    (xaInvalidBound : PySem.W.findIn K (.ref EInvalidBound) "__getattribute__" = some (some (.builtin "BaseException.__getattribute__")))
    (xbInvalidBound : PySem.W.findIn K (.ref EInvalidBound) "__getattr__" = some none)
    (xcInvalidBound : PySem.W.subIn K (.ref EInvalidBound) (.type "BaseException") = some true)
    (xdInvalidBound : PySem.W.hasDictIn K EInvalidBound = true)
    (xeInvalidBound : PySem.W.typeIn K (.ref EInvalidBound) = some (.type "type"))
    (geInvalidLog : PySem.W.nsIn K mainGlobals "InvalidLog" = some (some (.ref EInvalidLog)))
    (xaInvalidLog : PySem.W.findIn K (.ref EInvalidLog) "__getattribute__" = some (some (.builtin "BaseException.__getattribute__")))
    (xbInvalidLog : PySem.W.findIn K (.ref EInvalidLog) "__getattr__" = some none)
    (xcInvalidLog : PySem.W.subIn K (.ref EInvalidLog) (.type "BaseException") = some true)
    (xdInvalidLog : PySem.W.hasDictIn K EInvalidLog = true)
    (xeInvalidLog : PySem.W.typeIn K (.ref EInvalidLog) = some (.type "type"))
    (geInvalidCall : PySem.W.nsIn K mainGlobals "InvalidCall" = some (some (.ref EInvalidCall)))
    (xaInvalidCall : PySem.W.findIn K (.ref EInvalidCall) "__getattribute__" = some (some (.builtin "BaseException.__getattribute__")))
    (xbInvalidCall : PySem.W.findIn K (.ref EInvalidCall) "__getattr__" = some none)
    (xcInvalidCall : PySem.W.subIn K (.ref EInvalidCall) (.type "BaseException") = some true)
    (xdInvalidCall : PySem.W.hasDictIn K EInvalidCall = true)
    (xeInvalidCall : PySem.W.typeIn K (.ref EInvalidCall) = some (.type "type"))
    (geLimitExceeded : PySem.W.nsIn K mainGlobals "LimitExceeded" = some (some (.ref ELimitExceeded)))
    (xaLimitExceeded : PySem.W.findIn K (.ref ELimitExceeded) "__getattribute__" = some (some (.builtin "BaseException.__getattribute__")))
    (xbLimitExceeded : PySem.W.findIn K (.ref ELimitExceeded) "__getattr__" = some none)
    (xcLimitExceeded : PySem.W.subIn K (.ref ELimitExceeded) (.type "BaseException") = some true)
    (xdLimitExceeded : PySem.W.hasDictIn K ELimitExceeded = true)
    (xeLimitExceeded : PySem.W.typeIn K (.ref ELimitExceeded) = some (.type "type"))
    (xoInvalidRow : K.lookup EInvalidRow = some (excClassObj nmInvalidRow qnInvalidRow EInvalidRow nnInvalidRow bsInvalidRow [.ref EBreakerError, .type "ArithmeticError", .type "Exception", .type "BaseException", .type "object"] true snInvalidRow sbInvalidRow abInvalidRow coInvalidRow ddInvalidRow u0InvalidRow u1InvalidRow u2InvalidRow u3InvalidRow u5InvalidRow "ArithmeticError.__new__"))
    (xsInvalidRow : PySem.W.findIn K (.ref EInvalidRow) "__setattr__" = some (some (.builtin "object.__setattr__")))
    (xkInvalidRow : PySem.W.keepIn K (.ref EInvalidRow) = true)
    (aNInvalidRow : PySem.W.findIn K (.ref EInvalidRow) "__init__" = some (some (.ref aIInvalidRow)))
    (tNInvalidRow : PySem.W.typeIn K (.ref aIInvalidRow) = some (.type "function"))
    (lNInvalidRow : K.lookup aIInvalidRow = some ⟨ocNInvalidRow, odNInvalidRow, .func (PySem.W.fnOf "__init__" "InvalidRow.__init__" (defArgs st_InvalidRow_init) (defBody st_InvalidRow_init) (defScope st_InvalidRow_init) .none kVNInvalidRow dcNInvalidRow pmNInvalidRow anNInvalidRow cdNInvalidRow ctNInvalidRow), slNInvalidRow⟩)
    (cNInvalidRow : PySem.W.codeIn K cdNInvalidRow "InvalidRow.__init__" = true)
    (kNInvalidRow : PySem.W.keepIn K (.ref aIInvalidRow) = true)
    (neInvalidRow_part : PySem.W.findIn K (.ref EInvalidRow) "part" = some none)
    (neInvalidRow_at : PySem.W.findIn K (.ref EInvalidRow) "at" = some none)
    (neInvalidRow_index : PySem.W.findIn K (.ref EInvalidRow) "index" = some none)
    (neInvalidRow_call : PySem.W.findIn K (.ref EInvalidRow) "call" = some none)
    (neInvalidRow_limit : PySem.W.findIn K (.ref EInvalidRow) "limit" = some none)
    (xlInvalidRow : PySem.W.findIn K (.ref EInvalidRow) "__class__" = some (some (.builtin "object.__class__")))
    (xmInvalidRow : PySem.W.mroIn K EInvalidRow (.type "object") = some true)
    (seInvalidRow_BreakerError : PySem.W.subIn K (.ref EInvalidRow) (.ref EBreakerError) = some true)
    (seInvalidRow_InvalidRow : PySem.W.subIn K (.ref EInvalidRow) (.ref EInvalidRow) = some true)
    (seInvalidRow_InvalidIndex : PySem.W.subIn K (.ref EInvalidRow) (.ref EInvalidIndex) = some false)
    (seInvalidRow_InvalidBound : PySem.W.subIn K (.ref EInvalidRow) (.ref EInvalidBound) = some false)
    (seInvalidRow_InvalidLog : PySem.W.subIn K (.ref EInvalidRow) (.ref EInvalidLog) = some false)
    (seInvalidRow_InvalidCall : PySem.W.subIn K (.ref EInvalidRow) (.ref EInvalidCall) = some false)
    (seInvalidRow_LimitExceeded : PySem.W.subIn K (.ref EInvalidRow) (.ref ELimitExceeded) = some false)
    (saInvalidRow : PySem.W.subIn K (.ref EInvalidRow) (.type "ArithmeticError") = some true)
    (xoInvalidLog : K.lookup EInvalidLog = some (excClassObj nmInvalidLog qnInvalidLog EInvalidLog nnInvalidLog bsInvalidLog [.ref EBreakerError, .type "ArithmeticError", .type "Exception", .type "BaseException", .type "object"] true snInvalidLog sbInvalidLog abInvalidLog coInvalidLog ddInvalidLog u0InvalidLog u1InvalidLog u2InvalidLog u3InvalidLog u5InvalidLog "ArithmeticError.__new__"))
    (xsInvalidLog : PySem.W.findIn K (.ref EInvalidLog) "__setattr__" = some (some (.builtin "object.__setattr__")))
    (xkInvalidLog : PySem.W.keepIn K (.ref EInvalidLog) = true)
    (aNInvalidLog : PySem.W.findIn K (.ref EInvalidLog) "__init__" = some (some (.ref aIInvalidLog)))
    (tNInvalidLog : PySem.W.typeIn K (.ref aIInvalidLog) = some (.type "function"))
    (lNInvalidLog : K.lookup aIInvalidLog = some ⟨ocNInvalidLog, odNInvalidLog, .func (PySem.W.fnOf "__init__" "InvalidLog.__init__" (defArgs st_InvalidLog_init) (defBody st_InvalidLog_init) (defScope st_InvalidLog_init) .none kVNInvalidLog dcNInvalidLog pmNInvalidLog anNInvalidLog cdNInvalidLog ctNInvalidLog), slNInvalidLog⟩)
    (cNInvalidLog : PySem.W.codeIn K cdNInvalidLog "InvalidLog.__init__" = true)
    (kNInvalidLog : PySem.W.keepIn K (.ref aIInvalidLog) = true)
    (neInvalidLog_part : PySem.W.findIn K (.ref EInvalidLog) "part" = some none)
    (neInvalidLog_at : PySem.W.findIn K (.ref EInvalidLog) "at" = some none)
    (neInvalidLog_index : PySem.W.findIn K (.ref EInvalidLog) "index" = some none)
    (neInvalidLog_call : PySem.W.findIn K (.ref EInvalidLog) "call" = some none)
    (neInvalidLog_limit : PySem.W.findIn K (.ref EInvalidLog) "limit" = some none)
    (xlInvalidLog : PySem.W.findIn K (.ref EInvalidLog) "__class__" = some (some (.builtin "object.__class__")))
    (xmInvalidLog : PySem.W.mroIn K EInvalidLog (.type "object") = some true)
    (seInvalidLog_BreakerError : PySem.W.subIn K (.ref EInvalidLog) (.ref EBreakerError) = some true)
    (seInvalidLog_InvalidRow : PySem.W.subIn K (.ref EInvalidLog) (.ref EInvalidRow) = some false)
    (seInvalidLog_InvalidIndex : PySem.W.subIn K (.ref EInvalidLog) (.ref EInvalidIndex) = some false)
    (seInvalidLog_InvalidBound : PySem.W.subIn K (.ref EInvalidLog) (.ref EInvalidBound) = some false)
    (seInvalidLog_InvalidLog : PySem.W.subIn K (.ref EInvalidLog) (.ref EInvalidLog) = some true)
    (seInvalidLog_InvalidCall : PySem.W.subIn K (.ref EInvalidLog) (.ref EInvalidCall) = some false)
    (seInvalidLog_LimitExceeded : PySem.W.subIn K (.ref EInvalidLog) (.ref ELimitExceeded) = some false)
    (saInvalidLog : PySem.W.subIn K (.ref EInvalidLog) (.type "ArithmeticError") = some true)
    (moRow_Playing : PySem.W.mroIn K CRow (.ref CPlaying) = some false)
    (moPlaying_Row : PySem.W.mroIn K CPlaying (.ref CRow) = some false)
    (gNMOST_BREAKERS : PySem.W.nsIn K mainGlobals "MOST_BREAKERS" = some (some (.int 12 tNMOST_BREAKERS)))
    (gNMOST_REQUESTS : PySem.W.nsIn K mainGlobals "MOST_REQUESTS" = some (some (.int 10000 tNMOST_REQUESTS)))
    (aY : PySem.W.nsIn K mainGlobals "law" = some (some (.ref aLaw)))
    (lY : K.lookup aLaw = some ⟨ocY, odY, .func (PySem.W.fnOf "law" "law" (defArgs st_law) (defBody st_law) (defScope st_law) .none kVY dcY pmY anY cdY ctY), slY⟩)
    (cY : PySem.W.codeIn K cdY "law" = true)
    (kY : PySem.W.keepIn K (.ref aLaw) = true)
    (z_ArithmeticError : PySem.W.nsIn K mainGlobals "ArithmeticError" = some none)
    (z_bool : PySem.W.nsIn K mainGlobals "bool" = some none)
    (z_enumerate : PySem.W.nsIn K mainGlobals "enumerate" = some none)
    (z_int : PySem.W.nsIn K mainGlobals "int" = some none)
    (z_isinstance : PySem.W.nsIn K mainGlobals "isinstance" = some none)
    (z_len : PySem.W.nsIn K mainGlobals "len" = some none)
    (z_list : PySem.W.nsIn K mainGlobals "list" = some none)
    (z_range : PySem.W.nsIn K mainGlobals "range" = some none)
    (z_str : PySem.W.nsIn K mainGlobals "str" = some none)
    (z_tuple : PySem.W.nsIn K mainGlobals "tuple" = some none)
    (z_zip : PySem.W.nsIn K mainGlobals "zip" = some none)
    (tbq29 : TabE K h kcq29 ktq29) :
    ∃ (fd : FuncData) (cs : List (Addr × Addr)) (sp : Sp), (∀ p ∈ cs, TabE K h p.1 p.2) ∧ (∀ (s : Shared) (v : Value), BindsTo s fd ⟨[v], []⟩ [("_law_script", v)]) ∧ (∀ (H : Hp) (a : Addr) (ns : List Int), ns.length ≤ 63 → (∀ z ∈ ns, Builtin.Int.intBits z ≤ 1048576) → (∀ p ∈ cs, H p.2 = some (.tbl #[])) → SqL K H a (ns.map V.int) → sp [.ref a] H (fun v _ => v = .bl true) fun _ _ _ => False) ∧ ∀ base : Heap, K.In base → base.Ns mainGlobals mg → (∀ p ∈ cs, LamX.TabB base mg p.1 p.2) → FnOk P w K mg base CX0 15 fa fd ["_law_script"] sp := by
  have e := hfa.symm.trans (PySem.W.mg_of X G aY)
  cases e
  obtain ⟨vMOST_COUNT, hvMOST_COUNT, rMOST_COUNT⟩ := LL.val _ hLMOST_COUNT
  obtain ⟨tMOST_COUNT, rfl, -⟩ := PySem.W.readsW_int_inv rMOST_COUNT
  obtain ⟨vMOST_TIME, hvMOST_TIME, rMOST_TIME⟩ := LL.val _ hLMOST_TIME
  obtain ⟨tMOST_TIME, rfl, -⟩ := PySem.W.readsW_int_inv rMOST_TIME
  have T : LX K mg ⟨fq0, fq1, fq2, fq3, fq4, fq5, fq6, fq7, fq8, fq9, fq10, fq11, fq12, fq13, fq14, fq15, fq16, fq17, fq18, fq19, fq20, fq21, fq22, fq23, fq24, fq25, fq26, fq27, fq28, fq29, kcq29, ktq29, CRow, aIRow, fq30, fq31, fq32, fq33, fq34, fq35, fq36, fq37, CPlaying, aIPlaying, fq38, fq39, fq40, fq41, fq42, fq43, fq44, fq45, EBreakerError, EInvalidRow, EInvalidIndex, EInvalidBound, EInvalidLog, EInvalidCall, ELimitExceeded, aIInvalidRow, aIInvalidLog⟩ := ⟨PySem.W.mg_none_of X G z_ArithmeticError,
    PySem.W.mg_none_of X G z_bool,
    PySem.W.mg_none_of X G z_enumerate,
    PySem.W.mg_none_of X G z_int,
    PySem.W.mg_none_of X G z_isinstance,
    PySem.W.mg_none_of X G z_len,
    PySem.W.mg_none_of X G z_list,
    PySem.W.mg_none_of X G z_range,
    PySem.W.mg_none_of X G z_str,
    PySem.W.mg_none_of X G z_tuple,
    PySem.W.mg_none_of X G z_zip,
    ⟨_, PySem.W.mg_of X G gNMOST_BREAKERS⟩,
    ⟨_, hvMOST_COUNT⟩,
    ⟨_, hvMOST_TIME⟩,
    ⟨_, PySem.W.mg_of X G gNMOST_REQUESTS⟩,
    ⟨_, PySem.W.mg_of X G gTSERVED, fun _ => .inr ⟨_, _, _, lTSERVED, rfl, rfl, (by show 1 ≤ sizeLine; decide), .cons ⟨_, rfl⟩ (.nil)⟩⟩,
    ⟨_, PySem.W.mg_of X G gTFAILED, fun _ => .inr ⟨_, _, _, lTFAILED, rfl, rfl, (by show 1 ≤ sizeLine; decide), .cons ⟨_, rfl⟩ (.nil)⟩⟩,
    mk_dfn X G aq0 lq0 cq0 kq0 bn_q0,
    mk_dfn X G aq1 lq1 cq1 kq1 bn_q1,
    mk_dfn X G aq2 lq2 cq2 kq2 bn_q2,
    mk_dfn X G aq3 lq3 cq3 kq3 bn_q3,
    mk_dfn X G aq4 lq4 cq4 kq4 bn_q4,
    mk_dfn X G aq5 lq5 cq5 kq5 bn_q5,
    mk_dfn X G aq6 lq6 cq6 kq6 bn_q6,
    mk_dfn X G aq7 lq7 cq7 kq7 bn_q7,
    mk_dfn X G aq8 lq8 cq8 kq8 bn_q8,
    mk_dfn X G aq9 lq9 cq9 kq9 bn_q9,
    mk_dfn X G aq10 lq10 cq10 kq10 bn_q10,
    mk_dfn X G aq11 lq11 cq11 kq11 bn_q11,
    mk_dfn X G aq12 lq12 cq12 kq12 bn_q12,
    mk_dfn X G aq13 lq13 cq13 kq13 bn_q13,
    mk_dfn X G aq14 lq14 cq14 kq14 bn_q14,
    mk_dfn X G aq15 lq15 cq15 kq15 bn_q15,
    mk_dfn X G aq16 lq16 cq16 kq16 bn_q16,
    mk_dfn X G aq17 lq17 cq17 kq17 bn_q17,
    mk_dfn X G aq18 lq18 cq18 kq18 bn_q18,
    mk_dfn X G aq19 lq19 cq19 kq19 bn_q19,
    mk_dfn X G aq20 lq20 cq20 kq20 bn_q20,
    mk_dfn X G aq21 lq21 cq21 kq21 bn_q21,
    mk_dfn X G aq22 lq22 cq22 kq22 bn_q22,
    mk_dfn X G aq23 lq23 cq23 kq23 bn_q23,
    mk_dfn X G aq24 lq24 cq24 kq24 bn_q24,
    mk_dfn X G aq25 lq25 cq25 kq25 bn_q25,
    mk_dfn X G aq26 lq26 cq26 kq26 bn_q26,
    mk_dfn X G aq27 lq27 cq27 kq27 bn_q27,
    mk_dfn X G aq28 lq28 cq28 kq28 bn_q28,
    mk_dfnT X G aq29 lq29 cq29 kq29 bn_q29,
    PySem.W.mg_of X G gcRow,
    ⟨⟨gRow0, gRow1, gRow2, gRow3⟩, gRow6, gRow7, gRow8, gO1, gO2, gRow9, gRow10, gRow11⟩,
    ⟨gRow4, aNRow, iNRow, gRow5⟩,
    nfRow_breakers,
    nfRow_step,
    nfRow_phase,
    ⟨_, ⟨⟨ocNRow, odNRow, .none, .ref aDRow, dcNRow, pmNRow, anNRow, cdNRow, ctNRow, slNRow, rfl, lNRow, cNRow, .inl ⟨rfl, rfl⟩, .inr ⟨aDRow, rfl, fun q hq => by rw [List.mem_singleton.mp hq]; exact ⟨_, dRow, _, rfl⟩⟩⟩, kNRow⟩⟩,
    mk_mth aq30 iq30 nq30 lq30 cq30 kq30 bn_q30,
    mk_mth aq31 iq31 nq31 lq31 cq31 kq31 bn_q31,
    mk_mth aq32 iq32 nq32 lq32 cq32 kq32 bn_q32,
    mk_mth aq33 iq33 nq33 lq33 cq33 kq33 bn_q33,
    mk_mth aq34 iq34 nq34 lq34 cq34 kq34 bn_q34,
    mk_mth aq35 iq35 nq35 lq35 cq35 kq35 bn_q35,
    mk_mth aq36 iq36 nq36 lq36 cq36 kq36 bn_q36,
    mk_mth aq37 iq37 nq37 lq37 cq37 kq37 bn_q37,
    PySem.W.mg_of X G gcPlaying,
    ⟨⟨gPlaying0, gPlaying1, gPlaying2, gPlaying3⟩, gPlaying6, gPlaying7, gPlaying8, gO1, gO2, gPlaying9, gPlaying10, gPlaying11⟩,
    ⟨gPlaying4, aNPlaying, iNPlaying, gPlaying5⟩,
    nfPlaying_row,
    nfPlaying_words,
    nfPlaying_history,
    ⟨_, fun_mk lNPlaying cNPlaying kNPlaying, (fun_mk lNPlaying cNPlaying kNPlaying).binds bn_NPlaying⟩,
    mk_mth aq38 iq38 nq38 lq38 cq38 kq38 bn_q38,
    mk_mth aq39 iq39 nq39 lq39 cq39 kq39 bn_q39,
    mk_mth aq40 iq40 nq40 lq40 cq40 kq40 bn_q40,
    mk_mth aq41 iq41 nq41 lq41 cq41 kq41 bn_q41,
    mk_mth aq42 iq42 nq42 lq42 cq42 kq42 bn_q42,
    mk_mth aq43 iq43 nq43 lq43 cq43 kq43 bn_q43,
    mk_mth aq44 iq44 nq44 lq44 cq44 kq44 bn_q44,
    mk_mth aq45 iq45 nq45 lq45 cq45 kq45 bn_q45,
    PySem.W.mg_of X G geBreakerError,
    ⟨xaBreakerError, xbBreakerError, xcBreakerError, xdBreakerError⟩,
    xeBreakerError,
    PySem.W.mg_of X G geInvalidRow,
    ⟨xaInvalidRow, xbInvalidRow, xcInvalidRow, xdInvalidRow⟩,
    xeInvalidRow,
    PySem.W.mg_of X G geInvalidIndex,
    ⟨xaInvalidIndex, xbInvalidIndex, xcInvalidIndex, xdInvalidIndex⟩,
    xeInvalidIndex,
    PySem.W.mg_of X G geInvalidBound,
    ⟨xaInvalidBound, xbInvalidBound, xcInvalidBound, xdInvalidBound⟩,
    xeInvalidBound,
    PySem.W.mg_of X G geInvalidLog,
    ⟨xaInvalidLog, xbInvalidLog, xcInvalidLog, xdInvalidLog⟩,
    xeInvalidLog,
    PySem.W.mg_of X G geInvalidCall,
    ⟨xaInvalidCall, xbInvalidCall, xcInvalidCall, xdInvalidCall⟩,
    xeInvalidCall,
    PySem.W.mg_of X G geLimitExceeded,
    ⟨xaLimitExceeded, xbLimitExceeded, xcLimitExceeded, xdLimitExceeded⟩,
    xeLimitExceeded,
    ⟨⟨_, _, _, _, _, _, _, _, _, _, _, _, _, _, _, xoInvalidRow, by rfl⟩, xsInvalidRow, xcInvalidRow, xeInvalidRow, xkInvalidRow⟩,
    aNInvalidRow,
    tNInvalidRow,
    ⟨_, fun_mk lNInvalidRow cNInvalidRow kNInvalidRow, (fun_mk lNInvalidRow cNInvalidRow kNInvalidRow).binds bn_NInvalidRow⟩,
    neInvalidRow_part,
    neInvalidRow_at,
    neInvalidRow_index,
    neInvalidRow_call,
    neInvalidRow_limit,
    ⟨xaInvalidRow, xbInvalidRow, xcInvalidRow, xdInvalidRow, xlInvalidRow, gO1, gO2, xmInvalidRow⟩,
    seInvalidRow_BreakerError,
    seInvalidRow_InvalidRow,
    seInvalidRow_InvalidIndex,
    seInvalidRow_InvalidBound,
    seInvalidRow_InvalidLog,
    seInvalidRow_InvalidCall,
    seInvalidRow_LimitExceeded,
    saInvalidRow,
    ⟨⟨_, _, _, _, _, _, _, _, _, _, _, _, _, _, _, xoInvalidLog, by rfl⟩, xsInvalidLog, xcInvalidLog, xeInvalidLog, xkInvalidLog⟩,
    aNInvalidLog,
    tNInvalidLog,
    ⟨_, fun_mk lNInvalidLog cNInvalidLog kNInvalidLog, (fun_mk lNInvalidLog cNInvalidLog kNInvalidLog).binds bn_NInvalidLog⟩,
    neInvalidLog_part,
    neInvalidLog_at,
    neInvalidLog_index,
    neInvalidLog_call,
    neInvalidLog_limit,
    ⟨xaInvalidLog, xbInvalidLog, xcInvalidLog, xdInvalidLog, xlInvalidLog, gO1, gO2, xmInvalidLog⟩,
    seInvalidLog_BreakerError,
    seInvalidLog_InvalidRow,
    seInvalidLog_InvalidIndex,
    seInvalidLog_InvalidBound,
    seInvalidLog_InvalidLog,
    seInvalidLog_InvalidCall,
    seInvalidLog_LimitExceeded,
    saInvalidLog,
    moRow_Playing,
    moPlaying_Row⟩
  have tbs : ∀ p ∈ [(kcq29, ktq29)], TabE K h p.1 p.2 := by
    intro p hp
    simp only [List.mem_cons, List.mem_nil_iff, or_false] at hp
    rcases hp with rfl
    · exact tbq29
  refine ⟨_, [(kcq29, ktq29)], spLawT K _, tbs, fun s v => .of_eq rfl, fun H a ns hl _ hH hS => ⟨a, ns, rfl, hS, hl, ?_, fun _ => rfl⟩, fun base _ _ hB => ok_law (fun_mk lY cY kY) T ⟨hB (kcq29, ktq29) (.head _)⟩⟩
  intro p hp
  simp only [LT, List.mem_cons, List.mem_nil_iff, or_false] at hp
  rcases hp with rfl
  · exact LamX.TabS.nil (hH (kcq29, ktq29) (.head _))
/-- the end, with tables of code objects and what the loose names hold -/
theorem walk_tabs {l : PySem.W.OpenLaw} {q p : Program} {lv : List (Str × PySem.W.WData)} {loose : List Str} {YP : World → Heap → Prop} {d : DefRec} {K : Params → PySem.W.Frag} (hn : l.most = some 63) (hd : d.params.defaults = []) (hY : ∀ (w : World) (h : Heap), YP w h → (K w.params).In h)
    (F : ∀ (w : World) (mg : Str → Option Value) (fa : Addr) (h : Heap), YP w h → (K w.params).In h → h.Ns mainGlobals mg → PySem.W.LooseAre lv mg h → mg d.name = some (.ref fa) →
      ∃ (fd : FuncData) (cs : List (Addr × Addr)) (sp : Sp), (∀ p ∈ cs, TabE (K w.params) h p.1 p.2) ∧ (∀ (s : Shared) (v : Value), BindsTo s fd ⟨[v], []⟩ [("_law_script", v)]) ∧ (∀ (H : Hp) (a : Addr) (ns : List Int), ns.length ≤ 63 → (∀ z ∈ ns, Builtin.Int.intBits z ≤ 1048576) → (∀ p ∈ cs, H p.2 = some (.tbl #[])) → SqL (K w.params) H a (ns.map V.int) → sp [.ref a] H (fun v _ => v = .bl true) fun _ _ _ => False) ∧ ∀ base : Heap, (K w.params).In base → base.Ns mainGlobals mg → (∀ p ∈ cs, LamX.TabB base mg p.1 p.2) → FnOk l.prog w (K w.params) mg base CX0 15 fa fd ["_law_script"] sp) :
    PySem.W.WalkO q loose (PySem.W.XL p lv) YP l.row.toRowW d [] (fun f vs => PySem.call f vs) := Att.attach_callB hn hd fun w _ s₁ mg mb fa _ _ _ _ a vs ns G Y _ _ _ hmg hobj hints hlen hbits hg => by
  obtain ⟨fd, cs, sp, hT, hb, hsp, hF⟩ := F w mg fa s₁.heap Y (hY w s₁.heap Y) G.T.g G.X.2 hmg
  exact LamX.law_callTs (hY w s₁.heap Y) G.T.g G.T.b G.T.builtins G.T.nolimit hg (fun p hp => (hT p hp).1) (fun p hp => (hT p hp).2.2) (fun p hp => PySem.W.codeHd_of_K (hY w s₁.heap Y) (hT p hp).2.1) G.T.bmain hobj hints (Nat.le_trans hlen (by decide)) ⟨rfl, by decide, by decide⟩ hF hb (fun H hH hS => hsp H a ns hlen hbits hH hS) fun _ _ _ z => z

end Toy
open PySem PySem.W PyProof.Rows
set_option maxRecDepth 100000 in
set_option maxHeartbeats 0 in
theorem PySem.Challenge.cw_breakerrow_k54_logs_of_rows_replayed_holds : PySem.Challenge.rw_breakerrow_k54_logs_of_rows_replayed.Holds := by
  w_on; o_law; k_head; (case hw => w_witness2)
  k_fill
  refine Toy.walk_tabs (l := PySem.Challenge.rw_breakerrow_k54_logs_of_rows_replayed) rfl rfl (fun w h Y => PySem.W.km_in_of Y) ?F
  intro w mg fa h Y KX G LL hmg
  have hT := PySem.W.km_tabs_of Y
  refine' Toy.all_mk KX G LL (by first | exact .head _ | exact .tail _ (.head _) | exact .tail _ (.tail _ (.head _)) | exact .tail _ (.tail _ (.tail _ (.head _))) | exact .tail _ (.tail _ (.tail _ (.tail _ (.head _)))) | exact .tail _ (.tail _ (.tail _ (.tail _ (.tail _ (.head _))))) | exact .tail _ (.tail _ (.tail _ (.tail _ (.tail _ (.tail _ (.head _)))))) | exact .tail _ (.tail _ (.tail _ (.tail _ (.tail _ (.tail _ (.tail _ (.head _))))))) | exact .tail _ (.tail _ (.tail _ (.tail _ (.tail _ (.tail _ (.tail _ (.tail _ (.head _)))))))) | exact .tail _ (.tail _ (.tail _ (.tail _ (.tail _ (.tail _ (.tail _ (.tail _ (.tail _ (.head _)))))))))) (by first | exact .head _ | exact .tail _ (.head _) | exact .tail _ (.tail _ (.head _)) | exact .tail _ (.tail _ (.tail _ (.head _))) | exact .tail _ (.tail _ (.tail _ (.tail _ (.head _)))) | exact .tail _ (.tail _ (.tail _ (.tail _ (.tail _ (.head _))))) | exact .tail _ (.tail _ (.tail _ (.tail _ (.tail _ (.tail _ (.head _)))))) | exact .tail _ (.tail _ (.tail _ (.tail _ (.tail _ (.tail _ (.tail _ (.head _))))))) | exact .tail _ (.tail _ (.tail _ (.tail _ (.tail _ (.tail _ (.tail _ (.tail _ (.head _)))))))) | exact .tail _ (.tail _ (.tail _ (.tail _ (.tail _ (.tail _ (.tail _ (.tail _ (.tail _ (.head _)))))))))) hmg ?gTSERVED ?lTSERVED ?gTFAILED ?lTFAILED ?aq0 ?lq0 ?cq0 ?kq0 ?aq1 ?lq1 ?cq1 ?kq1 ?aq2 ?lq2 ?cq2 ?kq2 ?aq3 ?lq3 ?cq3 ?kq3 ?aq4 ?lq4 ?cq4 ?kq4 ?aq5 ?lq5 ?cq5 ?kq5 ?aq6 ?lq6 ?cq6 ?kq6 ?aq7 ?lq7 ?cq7 ?kq7 ?aq8 ?lq8 ?cq8 ?kq8 ?aq9 ?lq9 ?cq9 ?kq9 ?aq10 ?lq10 ?cq10 ?kq10 ?aq11 ?lq11 ?cq11 ?kq11 ?aq12 ?lq12 ?cq12 ?kq12 ?aq13 ?lq13 ?cq13 ?kq13 ?aq14 ?lq14 ?cq14 ?kq14 ?aq15 ?lq15 ?cq15 ?kq15 ?aq16 ?lq16 ?cq16 ?kq16 ?aq17 ?lq17 ?cq17 ?kq17 ?aq18 ?lq18 ?cq18 ?kq18 ?aq19 ?lq19 ?cq19 ?kq19 ?aq20 ?lq20 ?cq20 ?kq20 ?aq21 ?lq21 ?cq21 ?kq21 ?aq22 ?lq22 ?cq22 ?kq22 ?aq23 ?lq23 ?cq23 ?kq23 ?aq24 ?lq24 ?cq24 ?kq24 ?aq25 ?lq25 ?cq25 ?kq25 ?aq26 ?lq26 ?cq26 ?kq26 ?aq27 ?lq27 ?cq27 ?kq27 ?aq28 ?lq28 ?cq28 ?kq28 ?aq29 ?lq29 ?cq29 ?kq29 ?gcRow ?gRow0 ?gRow1 ?gRow2 ?gRow3 ?gRow4 ?gRow5 ?gRow6 ?gRow7 ?gRow8 ?gRow9 ?gRow10 ?gRow11 ?gO1 ?gO2 ?nfRow_breakers ?nfRow_step ?nfRow_phase ?aNRow ?iNRow ?lNRow ?cNRow ?kNRow ?dRow ?aq30 ?iq30 ?nq30 ?lq30 ?cq30 ?kq30 ?aq31 ?iq31 ?nq31 ?lq31 ?cq31 ?kq31 ?aq32 ?iq32 ?nq32 ?lq32 ?cq32 ?kq32 ?aq33 ?iq33 ?nq33 ?lq33 ?cq33 ?kq33 ?aq34 ?iq34 ?nq34 ?lq34 ?cq34 ?kq34 ?aq35 ?iq35 ?nq35 ?lq35 ?cq35 ?kq35 ?aq36 ?iq36 ?nq36 ?lq36 ?cq36 ?kq36 ?aq37 ?iq37 ?nq37 ?lq37 ?cq37 ?kq37 ?gcPlaying ?gPlaying0 ?gPlaying1 ?gPlaying2 ?gPlaying3 ?gPlaying4 ?gPlaying5 ?gPlaying6 ?gPlaying7 ?gPlaying8 ?gPlaying9 ?gPlaying10 ?gPlaying11 ?nfPlaying_row ?nfPlaying_words ?nfPlaying_history ?aNPlaying ?iNPlaying ?lNPlaying ?cNPlaying ?kNPlaying ?aq38 ?iq38 ?nq38 ?lq38 ?cq38 ?kq38 ?aq39 ?iq39 ?nq39 ?lq39 ?cq39 ?kq39 ?aq40 ?iq40 ?nq40 ?lq40 ?cq40 ?kq40 ?aq41 ?iq41 ?nq41 ?lq41 ?cq41 ?kq41 ?aq42 ?iq42 ?nq42 ?lq42 ?cq42 ?kq42 ?aq43 ?iq43 ?nq43 ?lq43 ?cq43 ?kq43 ?aq44 ?iq44 ?nq44 ?lq44 ?cq44 ?kq44 ?aq45 ?iq45 ?nq45 ?lq45 ?cq45 ?kq45 ?geBreakerError ?xaBreakerError ?xbBreakerError ?xcBreakerError ?xdBreakerError ?xeBreakerError ?geInvalidRow ?xaInvalidRow ?xbInvalidRow ?xcInvalidRow ?xdInvalidRow ?xeInvalidRow ?geInvalidIndex ?xaInvalidIndex ?xbInvalidIndex ?xcInvalidIndex ?xdInvalidIndex ?xeInvalidIndex ?geInvalidBound ?xaInvalidBound ?xbInvalidBound ?xcInvalidBound ?xdInvalidBound ?xeInvalidBound ?geInvalidLog ?xaInvalidLog ?xbInvalidLog ?xcInvalidLog ?xdInvalidLog ?xeInvalidLog ?geInvalidCall ?xaInvalidCall ?xbInvalidCall ?xcInvalidCall ?xdInvalidCall ?xeInvalidCall ?geLimitExceeded ?xaLimitExceeded ?xbLimitExceeded ?xcLimitExceeded ?xdLimitExceeded ?xeLimitExceeded ?xoInvalidRow ?xsInvalidRow ?xkInvalidRow ?aNInvalidRow ?tNInvalidRow ?lNInvalidRow ?cNInvalidRow ?kNInvalidRow ?neInvalidRow_part ?neInvalidRow_at ?neInvalidRow_index ?neInvalidRow_call ?neInvalidRow_limit ?xlInvalidRow ?xmInvalidRow ?seInvalidRow_BreakerError ?seInvalidRow_InvalidRow ?seInvalidRow_InvalidIndex ?seInvalidRow_InvalidBound ?seInvalidRow_InvalidLog ?seInvalidRow_InvalidCall ?seInvalidRow_LimitExceeded ?saInvalidRow ?xoInvalidLog ?xsInvalidLog ?xkInvalidLog ?aNInvalidLog ?tNInvalidLog ?lNInvalidLog ?cNInvalidLog ?kNInvalidLog ?neInvalidLog_part ?neInvalidLog_at ?neInvalidLog_index ?neInvalidLog_call ?neInvalidLog_limit ?xlInvalidLog ?xmInvalidLog ?seInvalidLog_BreakerError ?seInvalidLog_InvalidRow ?seInvalidLog_InvalidIndex ?seInvalidLog_InvalidBound ?seInvalidLog_InvalidLog ?seInvalidLog_InvalidCall ?seInvalidLog_LimitExceeded ?saInvalidLog ?moRow_Playing ?moPlaying_Row ?gNMOST_BREAKERS ?gNMOST_REQUESTS ?aY ?lY ?cY ?kY ?z_ArithmeticError ?z_bool ?z_enumerate ?z_int ?z_isinstance ?z_len ?z_list ?z_range ?z_str ?z_tuple ?z_zip ?tbq29
  (case gTSERVED => k_is)
  (case lTSERVED => k_is)
  (case gTFAILED => k_is)
  (case lTFAILED => k_is)
  (case aq0 => k_is)
  (case lq0 => k_is)
  (case cq0 => k_is)
  (case kq0 => k_is)
  (case aq1 => k_is)
  (case lq1 => k_is)
  (case cq1 => k_is)
  (case kq1 => k_is)
  (case aq2 => k_is)
  (case lq2 => k_is)
  (case cq2 => k_is)
  (case kq2 => k_is)
  (case aq3 => k_is)
  (case lq3 => k_is)
  (case cq3 => k_is)
  (case kq3 => k_is)
  (case aq4 => k_is)
  (case lq4 => k_is)
  (case cq4 => k_is)
  (case kq4 => k_is)
  (case aq5 => k_is)
  (case lq5 => k_is)
  (case cq5 => k_is)
  (case kq5 => k_is)
  (case aq6 => k_is)
  (case lq6 => k_is)
  (case cq6 => k_is)
  (case kq6 => k_is)
  (case aq7 => k_is)
  (case lq7 => k_is)
  (case cq7 => k_is)
  (case kq7 => k_is)
  (case aq8 => k_is)
  (case lq8 => k_is)
  (case cq8 => k_is)
  (case kq8 => k_is)
  (case aq9 => k_is)
  (case lq9 => k_is)
  (case cq9 => k_is)
  (case kq9 => k_is)
  (case aq10 => k_is)
  (case lq10 => k_is)
  (case cq10 => k_is)
  (case kq10 => k_is)
  (case aq11 => k_is)
  (case lq11 => k_is)
  (case cq11 => k_is)
  (case kq11 => k_is)
  (case aq12 => k_is)
  (case lq12 => k_is)
  (case cq12 => k_is)
  (case kq12 => k_is)
  (case aq13 => k_is)
  (case lq13 => k_is)
  (case cq13 => k_is)
  (case kq13 => k_is)
  (case aq14 => k_is)
  (case lq14 => k_is)
  (case cq14 => k_is)
  (case kq14 => k_is)
  (case aq15 => k_is)
  (case lq15 => k_is)
  (case cq15 => k_is)
  (case kq15 => k_is)
  (case aq16 => k_is)
  (case lq16 => k_is)
  (case cq16 => k_is)
  (case kq16 => k_is)
  (case aq17 => k_is)
  (case lq17 => k_is)
  (case cq17 => k_is)
  (case kq17 => k_is)
  (case aq18 => k_is)
  (case lq18 => k_is)
  (case cq18 => k_is)
  (case kq18 => k_is)
  (case aq19 => k_is)
  (case lq19 => k_is)
  (case cq19 => k_is)
  (case kq19 => k_is)
  (case aq20 => k_is)
  (case lq20 => k_is)
  (case cq20 => k_is)
  (case kq20 => k_is)
  (case aq21 => k_is)
  (case lq21 => k_is)
  (case cq21 => k_is)
  (case kq21 => k_is)
  (case aq22 => k_is)
  (case lq22 => k_is)
  (case cq22 => k_is)
  (case kq22 => k_is)
  (case aq23 => k_is)
  (case lq23 => k_is)
  (case cq23 => k_is)
  (case kq23 => k_is)
  (case aq24 => k_is)
  (case lq24 => k_is)
  (case cq24 => k_is)
  (case kq24 => k_is)
  (case aq25 => k_is)
  (case lq25 => k_is)
  (case cq25 => k_is)
  (case kq25 => k_is)
  (case aq26 => k_is)
  (case lq26 => k_is)
  (case cq26 => k_is)
  (case kq26 => k_is)
  (case aq27 => k_is)
  (case lq27 => k_is)
  (case cq27 => k_is)
  (case kq27 => k_is)
  (case aq28 => k_is)
  (case lq28 => k_is)
  (case cq28 => k_is)
  (case kq28 => k_is)
  (case aq29 => k_is)
  (case lq29 => k_is)
  (case cq29 => k_is)
  (case kq29 => k_is)
  (case gcRow => k_is)
  (case gRow0 => k_is)
  (case gRow1 => k_is)
  (case gRow2 => k_is)
  (case gRow3 => k_is)
  (case gRow4 => k_is)
  (case gRow5 => k_is)
  (case gRow6 => k_is)
  (case gRow7 => k_is)
  (case gRow8 => k_is)
  (case gRow9 => k_is)
  (case gRow10 => k_is)
  (case gRow11 => k_is)
  (case gO1 => k_is)
  (case gO2 => k_is)
  (case nfRow_breakers => k_is)
  (case nfRow_step => k_is)
  (case nfRow_phase => k_is)
  (case aNRow => k_is)
  (case iNRow => k_is)
  (case lNRow => k_is)
  (case cNRow => k_is)
  (case kNRow => k_is)
  (case dRow => k_is)
  (case aq30 => k_is)
  (case iq30 => k_is)
  (case nq30 => k_is)
  (case lq30 => k_is)
  (case cq30 => k_is)
  (case kq30 => k_is)
  (case aq31 => k_is)
  (case iq31 => k_is)
  (case nq31 => k_is)
  (case lq31 => k_is)
  (case cq31 => k_is)
  (case kq31 => k_is)
  (case aq32 => k_is)
  (case iq32 => k_is)
  (case nq32 => k_is)
  (case lq32 => k_is)
  (case cq32 => k_is)
  (case kq32 => k_is)
  (case aq33 => k_is)
  (case iq33 => k_is)
  (case nq33 => k_is)
  (case lq33 => k_is)
  (case cq33 => k_is)
  (case kq33 => k_is)
  (case aq34 => k_is)
  (case iq34 => k_is)
  (case nq34 => k_is)
  (case lq34 => k_is)
  (case cq34 => k_is)
  (case kq34 => k_is)
  (case aq35 => k_is)
  (case iq35 => k_is)
  (case nq35 => k_is)
  (case lq35 => k_is)
  (case cq35 => k_is)
  (case kq35 => k_is)
  (case aq36 => k_is)
  (case iq36 => k_is)
  (case nq36 => k_is)
  (case lq36 => k_is)
  (case cq36 => k_is)
  (case kq36 => k_is)
  (case aq37 => k_is)
  (case iq37 => k_is)
  (case nq37 => k_is)
  (case lq37 => k_is)
  (case cq37 => k_is)
  (case kq37 => k_is)
  (case gcPlaying => k_is)
  (case gPlaying0 => k_is)
  (case gPlaying1 => k_is)
  (case gPlaying2 => k_is)
  (case gPlaying3 => k_is)
  (case gPlaying4 => k_is)
  (case gPlaying5 => k_is)
  (case gPlaying6 => k_is)
  (case gPlaying7 => k_is)
  (case gPlaying8 => k_is)
  (case gPlaying9 => k_is)
  (case gPlaying10 => k_is)
  (case gPlaying11 => k_is)
  (case nfPlaying_row => k_is)
  (case nfPlaying_words => k_is)
  (case nfPlaying_history => k_is)
  (case aNPlaying => k_is)
  (case iNPlaying => k_is)
  (case lNPlaying => k_is)
  (case cNPlaying => k_is)
  (case kNPlaying => k_is)
  (case aq38 => k_is)
  (case iq38 => k_is)
  (case nq38 => k_is)
  (case lq38 => k_is)
  (case cq38 => k_is)
  (case kq38 => k_is)
  (case aq39 => k_is)
  (case iq39 => k_is)
  (case nq39 => k_is)
  (case lq39 => k_is)
  (case cq39 => k_is)
  (case kq39 => k_is)
  (case aq40 => k_is)
  (case iq40 => k_is)
  (case nq40 => k_is)
  (case lq40 => k_is)
  (case cq40 => k_is)
  (case kq40 => k_is)
  (case aq41 => k_is)
  (case iq41 => k_is)
  (case nq41 => k_is)
  (case lq41 => k_is)
  (case cq41 => k_is)
  (case kq41 => k_is)
  (case aq42 => k_is)
  (case iq42 => k_is)
  (case nq42 => k_is)
  (case lq42 => k_is)
  (case cq42 => k_is)
  (case kq42 => k_is)
  (case aq43 => k_is)
  (case iq43 => k_is)
  (case nq43 => k_is)
  (case lq43 => k_is)
  (case cq43 => k_is)
  (case kq43 => k_is)
  (case aq44 => k_is)
  (case iq44 => k_is)
  (case nq44 => k_is)
  (case lq44 => k_is)
  (case cq44 => k_is)
  (case kq44 => k_is)
  (case aq45 => k_is)
  (case iq45 => k_is)
  (case nq45 => k_is)
  (case lq45 => k_is)
  (case cq45 => k_is)
  (case kq45 => k_is)
  (case geBreakerError => k_is)
  (case xaBreakerError => k_is)
  (case xbBreakerError => k_is)
  (case xcBreakerError => k_is)
  (case xdBreakerError => k_is)
  (case xeBreakerError => k_is)
  (case geInvalidRow => k_is)
  (case xaInvalidRow => k_is)
  (case xbInvalidRow => k_is)
  (case xcInvalidRow => k_is)
  (case xdInvalidRow => k_is)
  (case xeInvalidRow => k_is)
  (case geInvalidIndex => k_is)
  (case xaInvalidIndex => k_is)
  (case xbInvalidIndex => k_is)
  (case xcInvalidIndex => k_is)
  (case xdInvalidIndex => k_is)
  (case xeInvalidIndex => k_is)
  (case geInvalidBound => k_is)
  (case xaInvalidBound => k_is)
  (case xbInvalidBound => k_is)
  (case xcInvalidBound => k_is)
  (case xdInvalidBound => k_is)
  (case xeInvalidBound => k_is)
  (case geInvalidLog => k_is)
  (case xaInvalidLog => k_is)
  (case xbInvalidLog => k_is)
  (case xcInvalidLog => k_is)
  (case xdInvalidLog => k_is)
  (case xeInvalidLog => k_is)
  (case geInvalidCall => k_is)
  (case xaInvalidCall => k_is)
  (case xbInvalidCall => k_is)
  (case xcInvalidCall => k_is)
  (case xdInvalidCall => k_is)
  (case xeInvalidCall => k_is)
  (case geLimitExceeded => k_is)
  (case xaLimitExceeded => k_is)
  (case xbLimitExceeded => k_is)
  (case xcLimitExceeded => k_is)
  (case xdLimitExceeded => k_is)
  (case xeLimitExceeded => k_is)
  (case xoInvalidRow => k_is)
  (case xsInvalidRow => k_is)
  (case xkInvalidRow => k_is)
  (case aNInvalidRow => k_is)
  (case tNInvalidRow => k_is)
  (case lNInvalidRow => k_is)
  (case cNInvalidRow => k_is)
  (case kNInvalidRow => k_is)
  (case neInvalidRow_part => k_is)
  (case neInvalidRow_at => k_is)
  (case neInvalidRow_index => k_is)
  (case neInvalidRow_call => k_is)
  (case neInvalidRow_limit => k_is)
  (case xlInvalidRow => k_is)
  (case xmInvalidRow => k_is)
  (case seInvalidRow_BreakerError => k_is)
  (case seInvalidRow_InvalidRow => k_is)
  (case seInvalidRow_InvalidIndex => k_is)
  (case seInvalidRow_InvalidBound => k_is)
  (case seInvalidRow_InvalidLog => k_is)
  (case seInvalidRow_InvalidCall => k_is)
  (case seInvalidRow_LimitExceeded => k_is)
  (case saInvalidRow => k_is)
  (case xoInvalidLog => k_is)
  (case xsInvalidLog => k_is)
  (case xkInvalidLog => k_is)
  (case aNInvalidLog => k_is)
  (case tNInvalidLog => k_is)
  (case lNInvalidLog => k_is)
  (case cNInvalidLog => k_is)
  (case kNInvalidLog => k_is)
  (case neInvalidLog_part => k_is)
  (case neInvalidLog_at => k_is)
  (case neInvalidLog_index => k_is)
  (case neInvalidLog_call => k_is)
  (case neInvalidLog_limit => k_is)
  (case xlInvalidLog => k_is)
  (case xmInvalidLog => k_is)
  (case seInvalidLog_BreakerError => k_is)
  (case seInvalidLog_InvalidRow => k_is)
  (case seInvalidLog_InvalidIndex => k_is)
  (case seInvalidLog_InvalidBound => k_is)
  (case seInvalidLog_InvalidLog => k_is)
  (case seInvalidLog_InvalidCall => k_is)
  (case seInvalidLog_LimitExceeded => k_is)
  (case saInvalidLog => k_is)
  (case moRow_Playing => k_is)
  (case moPlaying_Row => k_is)
  (case gNMOST_BREAKERS => k_is)
  (case gNMOST_REQUESTS => k_is)
  (case aY => k_is)
  (case lY => k_is)
  (case cY => k_is)
  (case kY => k_is)
  (case z_ArithmeticError => k_is)
  (case z_bool => k_is)
  (case z_enumerate => k_is)
  (case z_int => k_is)
  (case z_isinstance => k_is)
  (case z_len => k_is)
  (case z_list => k_is)
  (case z_range => k_is)
  (case z_str => k_is)
  (case z_tuple => k_is)
  (case z_zip => k_is)
  (case tbq29 => first | exact Toy.tabE_of (hT _ (.head _)) (by kernel_rfl) (by kernel_rfl))
