import PyProof.Rows.All
import Wide.All
import OpenK.AllK
import Wide.FinOn
import HandS.ForMost
import HandS.IsInst
import HandS.Wide
import HandS.Style
import HandS.Defaults
import HandS.MakeKwOnly
import HandS.Zip
import HandS.SortRule
import HandS.TupAny
import HandS.Lambda
import KE.GoesEnum
import HandS.Flow
import HandS.Codes
import HandS.WideBits
import HandS.OwnEq
import HandS.TryOnly
import HandS.TupLe
import HandS.SetFor
import KE.DataMinMax
import HandS.Conv
import KE.DataFind
import PyProof.Rows.CallKwBuiltin
import PyProof.LongRange
import HandS.ExcInit
import KE.KExcInit
import HandS.WordsExc
import HandS.ExcField
import KE.KExcIs
import HandS.RaiseMore
import HandS.EndTab
import KE.KNestM
import PyProof.ReprRoads
import PyProof.ReprHeads
import PyProof.ReprDict
import PySem.Challenge.RW_breakerrow_k55_playings_of_rows_refuse
set_option Elab.async false
set_option linter.all false
set_option maxRecDepth 100000
set_option maxHeartbeats 4000000
namespace Own
open PySem PySem.Spec PyProof.Rows L2
open Builtin

section
variable {X : Cx} {CX : CXT} {k : Nat} {f C : Addr} {fd : FuncData} {ps : List Str} {sp : Sp} {E : XK}

theorem rr {p : Addr} : L2.RelV (.ref p) (.ref p) := rfl
/-- a promise used under any frame below the body -/
theorem run_at {A : Around} {pins : List (Addr × Obj)} {σ : L2.St} {H : Hp} {s : Shared} {Q : VK} {us : List Value} {vs : List V} (F : FnOk X.prog X.w X.K X.mg X.base CX k f fd ps sp) (hr : Room k A) (hA : A.frames = X.A.frames)
    (hb : Binds X.K fd ps []) (hx : Passes CX X E) (I : Inv X pins σ H s) (r : Vals vs us) (h : sp vs H Q E) : wpAny (model X.prog X.w) A (call (.ref f) us) (EP X pins σ Q) X.xe s := by
  have hl : us.length = ps.length := by rw [← r.length]; exact F.len _ _ _ _ h
  have e0 : Env0 X.prog X.w X.K X.mg X.base A X.stack s H := by
    have e := I.env0
    exact ⟨by rw [hA]; exact e.frames, e.mod, e.bs, e.bsz, e.funs, e.frf, e.hok, e.bare⟩
  have hB : BindsTo s fd ⟨us, []⟩ (ps.zip us) := by
    have := hb s us I.kIn (by rw [List.append_nil]; exact hl)
    rwa [List.append_nil] at this
  refine wpAny_call (codeAny_mono (F.run A X.stack s H ⟨us, []⟩ us vs Q E hr e0 hB r h) fun r s' hq => ?_)
  cases r with
  | error e => exact hx pins σ H s e s' I hq
  | ok fl =>
    cases fl with
    | ret u => exact I.after hq
    | next => exact False.elim hq
    | brk => exact False.elim hq
    | cont => exact False.elim hq

theorem inst_of {pins : List (Addr × Obj)} {σ : L2.St} {H : Hp} {s : Shared} {p dx : Addr} {fs : List (Str × V)} (I : Inv X pins σ H s) (e : H p = some (.ins C dx fs)) : ∃ od, PySem.W.InstAt s.heap p (PySem.W.instObj C dx) C od := by
  obtain ⟨mA, O, _⟩ := ins_get I.hok e
  obtain ⟨od, J, _⟩ := O.look
  exact ⟨_, J⟩

/-- a bool is wanted of the method -/
def BlQ (Q : VK) (g : Bool → Bool) : VK := fun v H' => ∃ b, v = .bl b ∧ Q (.bl (g b)) H'
def rOwnIn (C : Addr) (sp : Sp) (E : XK) (g : Bool → Bool) : R2 := fun x y H Q => ∃ p dx fs, y = .ref p ∧ H p = some (.ins C dx fs) ∧ sp [.ref p, x] H (BlQ Q g) E
theorem op_own_in (F : FnOk X.prog X.w X.K X.mg X.base CX k f fd ps sp) (hr : Room k X.A) (hs : PySem.W.findIn X.K (.ref C) "__contains__" = some (some (.ref f))) (hf : PySem.W.isFn X.K (.ref f) = true) (hb : Binds X.K fd ps []) (hx : Passes CX X E) :
    OpR X (compareOp .In) (rOwnIn C sp E id) := by
  intro pins s σ H x y v u Q I rx ry h
  obtain ⟨p, dx, fs, rfl, hp, q⟩ := h
  cases ry
  obtain ⟨od, J⟩ := inst_of I hp
  obtain ⟨m, hF⟩ := I.fr
  refine PySem.W.in_K hF I.ok.mod.kin J hs hf (thn (run_at F hr rfl hb hx I (.cons rr (.cons rx .nil)) q) fun r s' hh => ?_)
  obtain ⟨z, H', I', rz, b, ez, q'⟩ := hh
  subst ez
  cases rz
  exact wpAny_truthy_bool ⟨.bl b, H', I', rfl, q'⟩
theorem op_own_notin (F : FnOk X.prog X.w X.K X.mg X.base CX k f fd ps sp) (hr : Room k X.A) (hs : PySem.W.findIn X.K (.ref C) "__contains__" = some (some (.ref f))) (hf : PySem.W.isFn X.K (.ref f) = true) (hb : Binds X.K fd ps []) (hx : Passes CX X E) :
    OpR X (compareOp .NotIn) (rOwnIn C sp E not) := by
  intro pins s σ H x y v u Q I rx ry h
  obtain ⟨p, dx, fs, rfl, hp, q⟩ := h
  cases ry
  obtain ⟨od, J⟩ := inst_of I hp
  obtain ⟨m, hF⟩ := I.fr
  refine PySem.W.notIn_K hF I.ok.mod.kin J hs hf (thn (run_at F hr rfl hb hx I (.cons rr (.cons rx .nil)) q) fun r s' hh => ?_)
  obtain ⟨z, H', I', rz, b, ez, q'⟩ := hh
  subst ez
  cases rz
  exact wpAny_truthy_bool ⟨.bl (!b), H', I', rfl, q'⟩
/-- len(o) -/
def rOwnLen (C : Addr) (sp : Sp) (E : XK) : List V → Hp → VK → Prop := fun xs H Q => ∃ p dx fs, xs = [.ref p] ∧ H p = some (.ins C dx fs) ∧ sp [.ref p] H (fun v H' => ∃ n : Int, v = .int n ∧ 0 ≤ n ∧ n < 2 ^ 63 ∧ Q (.int n) H') E
theorem call_own_len (F : FnOk X.prog X.w X.K X.mg X.base CX k f fd ps sp) (hr : Room (k + 1) X.A) (hs : PySem.W.findIn X.K (.ref C) "__len__" = some (some (.ref f))) (hf : PySem.W.isFn X.K (.ref f) = true) (hb : Binds X.K fd ps []) (hx : Passes CX X E) :
    CallR X (.builtin "len") (rOwnLen C sp E) := by
  intro pins s σ H xs us Q I r h
  obtain ⟨p, dx, fs, rfl, hp, q⟩ := h
  obtain ⟨u, rfl, ru⟩ := vals1 r
  cases ru
  obtain ⟨od, J⟩ := inst_of I hp
  obtain ⟨m, hF⟩ := I.fr
  refine PySem.W.len_K hF I.ok.mod.kin J hs hf (thn (run_at F hr.in1 rfl hb hx I (.cons rr .nil) q) fun r s' hh => ?_)
  obtain ⟨z, H', I', rz, n, ez, h0, h1, q'⟩ := hh
  subst ez
  obtain ⟨t, rfl⟩ := rz
  exact ⟨⟨h0, h1⟩, ⟨.int n, H', I'.tok _, ⟨_, rfl⟩, q'⟩⟩
/-- o + p, both of the class -/
def rOwnAdd (C : Addr) (sp : Sp) (E : XK) : R2 := fun x y H Q => ∃ p dx fs q dy gs, x = .ref p ∧ H p = some (.ins C dx fs) ∧ y = .ref q ∧ H q = some (.ins C dy gs) ∧ sp [.ref p, .ref q] H (fun v H' => (∃ a, v = .ref a) ∧ Q v H') E
theorem op_own_add (F : FnOk X.prog X.w X.K X.mg X.base CX k f fd ps sp) (hr : Room k X.A) (hc : PySem.W.selfFirst X.K C = true) (hs : PySem.W.findIn X.K (.ref C) "__add__" = some (some (.ref f))) (hf : PySem.W.isFn X.K (.ref f) = true) (hb : Binds X.K fd ps []) (hx : Passes CX X E) :
    OpR X (binaryOp .Add) (rOwnAdd C sp E) := by
  intro pins s σ H x y v u Q I rx ry h
  obtain ⟨p, dx, fs, q, dy, gs, rfl, hp, rfl, hq, hh⟩ := h
  cases rx
  cases ry
  obtain ⟨od, J⟩ := inst_of I hp
  obtain ⟨od', J'⟩ := inst_of I hq
  obtain ⟨m, hF⟩ := I.fr
  refine PySem.W.binop_K hF I.ok.mod.kin J J'.type hc hs hf (thn (run_at F hr rfl hb hx I (.cons rr (.cons rr .nil)) hh) fun r s' hh => ?_)
  obtain ⟨z, H', I', rz, ⟨a, ez⟩, q'⟩ := hh
  subst ez
  cases rz
  exact ⟨.ref a, H', I', rfl, q'⟩
/-- o[i] -/
def rOwnIx (C : Addr) (sp : Sp) (E : XK) : R2 := fun x y H Q => ∃ p dx fs, x = .ref p ∧ H p = some (.ins C dx fs) ∧ sp [.ref p, y] H Q E
theorem pe_own_ix {a b : Expr} {ta tb : TE} {pos : Pos} (F : FnOk X.prog X.w X.K X.mg X.base CX k f fd ps sp) (hr : Room (k + 1) X.A) (hs : PySem.W.findIn X.K (.ref C) "__getitem__" = some (some (.ref f))) (hfn : PySem.W.fnIn X.K f = true) (hf : PySem.W.isFn X.K (.ref f) = true)
    (hb : Binds X.K fd ps []) (hx : Passes CX X E) (ha : PE X a ta) (hb' : PE X b tb) (hsl : ∀ o i, subscripted b true o i = runValue (.builtin "lifetime.subscript" ⟨[o, i], []⟩) := by exact fun _ _ => rfl) :
    PE X (.Subscript a b pos) (tOp (rOwnIx C sp E) ta tb) := by
  refine ⟨fun pins s σ H Q I h => ?_⟩
  refine Subscript_ (binT ha hb' I h fun v u s2 x y H2 I2 rx ry q => ?_)
  obtain ⟨p, dx, fs, rfl, hp, q⟩ := q
  cases rx
  obtain ⟨od, J⟩ := inst_of I2 hp
  obtain ⟨m, hF⟩ := I2.fr
  exact PySem.W.sub_K hF I2.ok.mod.kin J hs hfn hf (run_at F hr.in1 rfl hb hx I2 (.cons rr (.cons ry .nil)) q) (hsl _ _)

/-! ### own == and the != that comes with it -/
theorem sub_ty {K : PySem.W.Frag} {C : Addr} {T : String} {l : List String} (e : fastBuiltinMro T = some (l.map Value.type)) : PySem.W.subIn K (.type T) (.ref C) = some false := by
  show (fastBuiltinMro T).map (·.contains (.ref C)) = some false
  rw [e]
  have : ∀ l : List String, (l.map Value.type).contains (Value.ref C) = false := by
    intro l
    induction l with
    | nil => rfl
    | cons a r ih =>
      rw [List.map_cons, List.contains_cons, ih]
      rfl
  rw [Option.map_some, this]
/-- a value's type, not one below the class C -/
inductive TyN (H : Hp) (C : Addr) : V → Value → Prop where
  | non : TyN H C .non (.type "NoneType")
  | bl (x : Bool) : TyN H C (.bl x) (.type "bool")
  | int (i : Int) : TyN H C (.int i) (.type "int")
  | str (x : Str) : TyN H C (.str x) (.type "str")
  | lst {a : Addr} {xs : List V} (e : H a = some (.lst xs)) : TyN H C (.ref a) (.type "list")
  | tup {a : Addr} {xs : List V} (e : H a = some (.tup xs)) : TyN H C (.ref a) (.type "tuple")
  | ins {a dx : Addr} {fs : List (Str × V)} (e : H a = some (.ins C dx fs)) : TyN H C (.ref a) (.ref C)
theorem TyN.notFirst {K : PySem.W.Frag} {H : Hp} {x : V} {t : Value} (h : TyN H C x t) : PySem.W.notFirst K C t = true := by
  cases h with
  | non => exact Bool.or_eq_true_iff.mpr (.inr (beq_iff_eq.mpr (sub_ty (l := ["NoneType", "object"]) (by decide +kernel))))
  | bl _ => exact Bool.or_eq_true_iff.mpr (.inr (beq_iff_eq.mpr (sub_ty (l := ["bool", "int", "object"]) (by decide +kernel))))
  | int _ => exact Bool.or_eq_true_iff.mpr (.inr (beq_iff_eq.mpr (sub_ty (l := ["int", "object"]) (by decide +kernel))))
  | str _ => exact Bool.or_eq_true_iff.mpr (.inr (beq_iff_eq.mpr (sub_ty (l := ["str", "object"]) (by decide +kernel))))
  | lst _ => exact Bool.or_eq_true_iff.mpr (.inr (beq_iff_eq.mpr (sub_ty (l := ["list", "object"]) (by decide +kernel))))
  | tup _ => exact Bool.or_eq_true_iff.mpr (.inr (beq_iff_eq.mpr (sub_ty (l := ["tuple", "object"]) (by decide +kernel))))
  | ins _ => exact Bool.or_eq_true_iff.mpr (.inl (by simp))
theorem looks_obj {M : Model} {h : Heap} {a : Addr} {o : Obj} (e : h.get? a = some o) : PySem.W.Looks M h (typeOf (.ref a)) o.cls := fun A Q E s kp q => PySem.wpAny_typeOf_ref (kp _ _ e) q
theorem TyN.looks {M : Model} {pins : List (Addr × Obj)} {σ : L2.St} {H : Hp} {s : Shared} {x : V} {u t : Value} (I : Inv X pins σ H s) (r : RelV x u) (h : TyN H C x t) : PySem.W.Looks M s.heap (typeOf u) t := by
  cases h with
  | non => cases r; exact PySem.W.Looks.of_pure rfl
  | bl _ => cases r; exact PySem.W.Looks.of_pure rfl
  | int _ => obtain ⟨_, rfl⟩ := r; exact PySem.W.Looks.of_pure rfl
  | str _ => obtain ⟨_, rfl⟩ := r; exact PySem.W.Looks.of_pure rfl
  | @lst a xs e =>
    cases r
    obtain ⟨_, _, n, _, h1⟩ := (show ObjOk X.prog X.w H s.heap a (.lst xs) from I.hok a _ e)
    exact looks_obj h1
  | @tup a xs e =>
    cases r
    obtain ⟨_, _, _, o, h1, h2, _⟩ := (show ObjOk X.prog X.w H s.heap a (.tup xs) from I.hok a _ e)
    have := looks_obj (M := M) h1
    rw [h2] at this
    exact this
  | ins e =>
    cases r
    obtain ⟨od, J⟩ := inst_of I e
    exact J.type
def rOwnEq (C : Addr) (sp : Sp) (E : XK) (g : Bool → Bool) : R2 := fun x y H Q => ∃ p dx fs t, x = .ref p ∧ H p = some (.ins C dx fs) ∧ TyN H C y t ∧ sp [.ref p, y] H (BlQ Q g) E
theorem op_own_eq (F : FnOk X.prog X.w X.K X.mg X.base CX k f fd ps sp) (hr : Room k X.A) (hs : PySem.W.findIn X.K (.ref C) "__eq__" = some (some (.ref f))) (hf : PySem.W.isFn X.K (.ref f) = true) (hb : Binds X.K fd ps []) (hx : Passes CX X E) :
    OpR X (compareOp .Eq) (rOwnEq C sp E id) := by
  intro pins s σ H x y v u Q I rx ry h
  obtain ⟨p, dx, fs, t, rfl, hp, ty, q⟩ := h
  cases rx
  obtain ⟨od, J⟩ := inst_of I hp
  obtain ⟨m, hF⟩ := I.fr
  show wpAny (model X.prog X.w) X.A (richCompare .Eq (.ref p) u) (EP X pins σ Q) X.xe s
  refine PySem.W.cmp_K (op := .Eq) hr.units0 hF I.ok.mod.kin J (ty.looks I ry) ty.notFirst hs hf (thn (run_at F hr rfl hb hx I (.cons rr (.cons ry .nil)) q) fun r s' hh => ?_)
  obtain ⟨z, H', I', rz, b, ez, q'⟩ := hh
  subst ez
  cases rz
  exact ⟨.bl b, H', I', rfl, q'⟩
section
variable {prog : Program} {w : World} {A : Around} {E' : Value → Shared → Prop} {s : Shared} {K : PySem.W.Frag} {x : Addr} {ox : Obj} {od : Option Obj} {b : Value}
theorem objNe_entry (hX : K.In s.heap) (I : PySem.W.InstAt s.heap x ox C od) (hs : PySem.W.findIn K (.ref C) "__eq__" = some (some (.ref f))) (hf : PySem.W.isFn K (.ref f) = true) (hu : A.units < cLine) {Q : Fin → Shared → Prop}
    (hcall : wpAny (model prog w) A (call (.ref f) [.ref x, b]) (fun v s' => ∃ k, v = .bool k ∧ Q (.done (.ret (.bool (!k)))) s') E' s) :
    wpAny (model prog w) A (Builtin.«object.__ne__» ⟨[.ref x, b], []⟩) Q E' s := by
  unfold Builtin.«object.__ne__»
  repeat (first
    | with_reducible refine wpAny_cRoomFor hu ?_
    | (refine wpAny_bind (m := callSpecialIfBound? (.ref x) (Str.ofString "__eq__") [b])
        (PySem.W.ifBound_K hX I hs hf (wpAny_mono hcall (fun r s' hr => by
          obtain ⟨k, rfl, hq⟩ := hr
          repeat (first | exact hq | exact wpAny_pure hq | exact wpAny_truthy_bool hq | (refine wpAny_bind (m := truthy (.bool _)) (wpAny_truthy_bool ?_)) | wp_step)) fun _ _ e => e)))
    | wp_step)
theorem call_objNe (hX : K.In s.heap) (I : PySem.W.InstAt s.heap x ox C od) (hm : PySem.W.mroIn K C (.type "object") = some true) (hs : PySem.W.findIn K (.ref C) "__eq__" = some (some (.ref f))) (hf : PySem.W.isFn K (.ref f) = true) (hu : A.units + 1 < cLine) {Q : Value → Shared → Prop}
    (hcall : wpAny (model prog w) A.in1 (call (.ref f) [.ref x, b]) (fun v s' => ∃ k, v = .bool k ∧ Q (.bool (!k)) s') E' s) :
    wpAny (model prog w) A (call (.builtin "object.__ne__") [.ref x, b]) Q E' s :=
  wpAny_call (codeAny_call_builtin PySem.F.cmp_object.ne.plain PySem.F.cmpEntry_ne (PySem.W.check_slot PySem.F.cmpKind_ne PySem.F.cmpSplit_ne (I.type.andThen (PySem.W.looks_mroIn hX hm)) (PySem.F.cmpArgs_ne _ _)
    (objNe_entry (A := A.in1) hX I hs hf hu (wpAny_mono hcall (fun v s' hv => by
      obtain ⟨k, e, hq⟩ := hv
      exact ⟨k, e, hq⟩) fun _ _ e => e))))
theorem ifBound_objNe {M : Model} {args : List Value} {Q : Option Value → Shared → Prop} (hX : K.In s.heap) (I : PySem.W.InstAt s.heap x ox C od) (hs : PySem.W.findIn K (.ref C) "__ne__" = some (some (.builtin "object.__ne__")))
    (h : wpAny M A (call (.builtin "object.__ne__") (.ref x :: args)) (fun v => Q (some v)) E' s) : wpAny M A (callSpecialIfBound? (.ref x) "__ne__" args) Q E' s := by
  simp only [callSpecialIfBound?, bindSpecialIfBound?]
  refine wpAny_holding (wpAny_bind (wpAny_bind (wpAny_bind (I.type.here ((PySem.W.looks_findIn hX hs).here ?_)))))
  refine wpAny_bind (wpAny_askSetting (wpAny_ite ?_))
  have fin : wpAny M A (call (.builtin "object.__ne__") ([.ref x] ++ args) >>= fun v => pure (some v)) Q E' s := wpAny_bind (wpAny_mono h (fun v s' h' => wpAny_pure h') fun _ _ h' => h')
  split
  · exact wpAny_bind (wpAny_of_eq (PySem.F.cmp_object.ne.bind _) (wpAny_pure (by exact fin)))
  · exact wpAny_tryCatch (wpAny_bind (wpAny_of_eq (PySem.F.cmp_object.ne.bind _) (wpAny_pure (by exact fin))))
theorem rc_ne {tb : Value} {Q : Value → Shared → Prop} (hu : A.units + 1 < cLine) (hX : K.In s.heap) (I : PySem.W.InstAt s.heap x ox C od) (hb : PySem.W.Looks (model prog w) s.heap (typeOf b) tb) (hn : PySem.W.notFirst K C tb = true)
    (hm : PySem.W.mroIn K C (.type "object") = some true) (hne : PySem.W.findIn K (.ref C) "__ne__" = some (some (.builtin "object.__ne__"))) (hs : PySem.W.findIn K (.ref C) "__eq__" = some (some (.ref f))) (hf : PySem.W.isFn K (.ref f) = true)
    (hcall : wpAny (model prog w) A.in1 (call (.ref f) [.ref x, b]) (fun v s' => ∃ k, v = .bool k ∧ Q (.bool (!k)) s') E' s) : wpAny (model prog w) A (richCompare .NotEq (.ref x) b) Q E' s := by
  have one : wpAny (model prog w) A (tryCompare (.ref x) "__ne__" b) (fun r s' => ∃ v, r = some v ∧ Q v s') E' s := by
    unfold tryCompare
    refine wpAny_bind (ifBound_objNe hX I hne (call_objNe hX I hm hs hf hu (wpAny_mono hcall (fun v s' hv => ?_) fun _ _ e => e)))
    obtain ⟨k, rfl, hq⟩ := hv
    exact ⟨k, rfl, wpAny_pure ⟨_, rfl, hq⟩⟩
  unfold richCompare
  simp only [oneThing_ref, cmpInfo_NotEq]
  refine wpAny_holding (wpAny_bind (wpAny_cRoomFor (Nat.lt_of_succ_lt hu) ?_))
  refine wpAny_bind (I.type.here (wpAny_bind (hb.here ?_)))
  split
  · rename_i q
    have e : PySem.W.subIn K tb (.ref C) = some false := by
      rcases Bool.or_eq_true_iff.mp hn with e | e
      · rw [beq_iff_eq.mp e] at q; simp at q
      · exact beq_iff_eq.mp e
    refine wpAny_bind ((PySem.W.looks_subIn hX e).here ?_)
    simp only [Bool.false_eq_true, if_false]
    refine wpAny_bind (wpAny_mono one (fun r s' z => ?_) fun _ _ e => e)
    obtain ⟨v, rfl, hq⟩ := z
    exact wpAny_pure hq
  · refine wpAny_bind (wpAny_pure ?_)
    simp only [Bool.false_eq_true, if_false]
    refine wpAny_bind (wpAny_mono one (fun r s' z => ?_) fun _ _ e => e)
    obtain ⟨v, rfl, hq⟩ := z
    exact wpAny_pure hq
end
theorem op_own_ne (F : FnOk X.prog X.w X.K X.mg X.base CX k f fd ps sp) (hr : Room (k + 1) X.A) (hm : PySem.W.mroIn X.K C (.type "object") = some true) (hne : PySem.W.findIn X.K (.ref C) "__ne__" = some (some (.builtin "object.__ne__")))
    (hs : PySem.W.findIn X.K (.ref C) "__eq__" = some (some (.ref f))) (hf : PySem.W.isFn X.K (.ref f) = true) (hb : Binds X.K fd ps []) (hx : Passes CX X E) :
    OpR X (compareOp .NotEq) (rOwnEq C sp E not) := by
  intro pins s σ H x y v u Q I rx ry h
  obtain ⟨p, dx, fs, t, rfl, hp, ty, q⟩ := h
  cases rx
  obtain ⟨od, J⟩ := inst_of I hp
  show wpAny (model X.prog X.w) X.A (richCompare .NotEq (.ref p) u) (EP X pins σ Q) X.xe s
  refine rc_ne (hu_of hr) I.kIn J (ty.looks I ry) ty.notFirst hm hne hs hf (thn (run_at F hr.in1 rfl hb hx I (.cons rr (.cons ry .nil)) q) fun r s' hh => ?_)
  obtain ⟨z, H', I', rz, b, ez, q'⟩ := hh
  subst ez
  cases rz
  exact ⟨b, rfl, .bl (!b), H', I', rfl, q'⟩
end
end Own

namespace Toy
open PySem L2 Own
/-! ### exceptions of the text's own, over ArithmeticError, with fields of their own -/
abbrev aeT : List Value := [.type "ArithmeticError", .type "Exception", .type "BaseException", .type "object"]
theorem no_taker {K : PySem.W.Frag} {C : Addr} {f : Str} (h : PySem.W.findIn K (.ref C) f = some none) : PySem.W.takerIn K C f = some none := by
  unfold PySem.W.takerIn
  rw [h]
  rfl
section
variable {prog : Program} {w : World} {A : Around} {R : Result → Shared → Prop} {hp : Heap} {g : Array GenState} {d : Drawn} {t : Nat} {os : OsState}
/-- the first field -/
theorem ae_first {K : PySem.W.Frag} {f : Str} {tk : Tok} {u : Value} {x C : Addr} {fv : Array Value} {cd : ClassData} (X : K.In hp) (hx : hp.get? x = some { cls := .ref C, data := .fields fv }) (hc : PySem.W.clsIn K C = some cd) (hd : cd.hasDict = true)
    (over : PySem.W.excOver K C aeT = true) (no : PySem.W.findIn K (.ref C) f = some none)
    (k : ∀ h' tk' dx, (∀ b o, b ≠ x → hp.get? b = some o → h'.get? b = some o) → hp.objs.size ≤ dx → dx ≠ x → h'.get? x = some { cls := .ref C, dict := some dx, data := .fields fv } → h'.Ns1 dx (fun y => if y = f then some u else none) → R (.ok (.ret .none)) ⟨h', g, d, tk', os⟩) :
    codeAny (model prog w) A (.call (.builtin "object.__setattr__") ⟨[.ref x, .str f tk, u], []⟩) R ⟨hp, g, d, t, os⟩ := by
  have I : PySem.W.InstAt hp x { cls := .ref C, data := .fields fv } C none := ⟨hx, rfl, rfl, trivial⟩
  refine PySem.W.osa_openX PySem.F.store_ArithmeticError X I over (no_taker no) fun b => ?_
  have look : PySem.W.Looks (model prog w) hp (classData C) cd := PySem.W.looks_clsIn X hc
  have old : x ≠ hp.objs.size := Nat.ne_of_lt (Heap.lt_size hx)
  obtain ⟨nm, bs, mro, ns, qn, hdd, sn, sb, ab, col, dl⟩ := cd
  dsimp only at hd
  subst hd
  dsimp only
  unfold Builtin.ObjectAttr.storeInOwnDict Builtin.ObjectAttr.ownDictForStores
  repeat (first
    | with_reducible refine look.at ?_
    | with_reducible refine wpAny_loadPart_at hx ?_
    | with_reducible refine PySem.HandSPX.store_in_new ?_ ?_
    | wp_step)
  · exact ⟨_, #[], _, (Heap.get?_update_ne _ _ _ _ old.symm).trans (Heap.get?_push_at rfl rfl), rfl, (fun e he => absurd he (by simp)), fun _ => rfl⟩
  · intro h' tk' n1 sb'
    have hx' : (hp.push { cls := .type "dict", data := .dict #[] }).get? x = some { cls := .ref C, data := .fields fv } := Heap.get?_push_of_some _ hx
    refine k h' tk' hp.objs.size (fun b o nb e => ?_) (Nat.le_refl _) old.symm ((sb'.2 x old).trans (Heap.get?_update_self _ hx' rfl)) n1
    rw [sb'.2 b (Nat.ne_of_lt (Heap.lt_size e)), Heap.get?_update_ne _ _ _ _ nb]
    exact Heap.get?_push_of_some _ e
/-- a further one -/
theorem ae_more {K : PySem.W.Frag} {f : Str} {tk : Tok} {u : Value} {x C dx : Addr} {fv : Array Value} {cd : ClassData} {m0 : Str → Option Value} {nl : List Str} (X : K.In hp) (hx : hp.get? x = some { cls := .ref C, dict := some dx, data := .fields fv }) (hn : hp.Ns1 dx m0) (hw : Within m0 nl) (hz : nl.length ≤ 1000)
    (hc : PySem.W.clsIn K C = some cd) (hd : cd.hasDict = true) (over : PySem.W.excOver K C aeT = true) (no : PySem.W.findIn K (.ref C) f = some none)
    (k : ∀ h' tk', (∀ b o, b ≠ dx → hp.get? b = some o → h'.get? b = some o) → h'.Ns1 dx (fun y => if y = f then some u else m0 y) → R (.ok (.ret .none)) ⟨h', g, d, tk', os⟩) :
    codeAny (model prog w) A (.call (.builtin "object.__setattr__") ⟨[.ref x, .str f tk, u], []⟩) R ⟨hp, g, d, t, os⟩ := by
  obtain ⟨oD, _, _, hoD, _, _⟩ := hn.count hw
  have I : PySem.W.InstAt hp x { cls := .ref C, dict := some dx, data := .fields fv } C (some oD) := ⟨hx, rfl, rfl, hoD⟩
  refine PySem.W.osa_openX PySem.F.store_ArithmeticError X I over (no_taker no) fun b => ?_
  have look : PySem.W.Looks (model prog w) hp (classData C) cd := PySem.W.looks_clsIn X hc
  obtain ⟨nm, bs, mro, ns, qn, hdd, sn, sb, ab, col, dl⟩ := cd
  dsimp only at hd
  subst hd
  dsimp only
  unfold Builtin.ObjectAttr.storeInOwnDict Builtin.ObjectAttr.ownDictForStores
  repeat (first
    | with_reducible refine look.at ?_
    | with_reducible refine wpAny_loadPart_at hx ?_
    | with_reducible refine PySem.OEX.store_in_old hn hw hz ?_
    | wp_step)
  intro h' tk' n1 sb'
  exact k h' tk' (fun b o nb e => (sb'.2 b nb).trans e) n1
end
/-- what the text has written of such a class -/
structure AeC (K : PySem.W.Frag) (C : Addr) : Prop where
  obj : ∃ nm q N bs bm sn sub ab col dd k0 k1 k2 k3 k5, K.lookup C = some (excClassObj nm q C N bs bm true sn sub ab col dd k0 k1 k2 k3 k5 "ArithmeticError.__new__") ∧ PySem.W.excTail aeT bm = true
  sa : PySem.W.findIn K (.ref C) "__setattr__" = some (some (.builtin "object.__setattr__"))
  ex : PySem.W.subIn K (.ref C) (.type "BaseException") = some true
  ty : PySem.W.typeIn K (.ref C) = some (.type "type")
  kp : PySem.W.keepIn K (.ref C) = true
theorem AeC.cd {K : PySem.W.Frag} {C : Addr} (T : AeC K C) : ∃ cd, PySem.W.clsIn K C = some cd ∧ cd.hasDict = true ∧ PySem.W.excOver K C aeT = true := by
  obtain ⟨nm, q, N, bs, bm, sn, sub, ab, col, dd, k0, k1, k2, k3, k5, hC, ht⟩ := T.obj
  have hc : PySem.W.clsIn K C = some { name := nm, bases := bs, mro := .ref C :: bm, ns := N, qualname := q, hasDict := true, slotNames := sn, subclasses := sub, abstract := ab, collection := col, hasDel := false } := by
    unfold PySem.W.clsIn
    rw [hC] <;> rfl
  refine ⟨_, hc, rfl, ?_⟩
  unfold PySem.W.excOver
  rw [hc]
  show (C == C && PySem.W.excTail aeT bm) = true
  rw [ht, beq_self_eq_true] <;> rfl
section
variable {X : Cx} {pins : List (Addr × Obj)} {σ : L2.St} {H : Hp} {s : Shared} {a C dx : Addr} {f : Str} {y : V} {u : Value} {fs : List (Str × V)} {Q : Unit → Shared → Prop} {E : Value → Shared → Prop} {A : Around}
theorem ast_first (T : AeC X.K C) (I : L2.Inv X pins σ H s) (e : H a = some (L2.exo a C none)) (no : PySem.W.findIn X.K (.ref C) f = some none) (ry : L2.RelV y u)
    (k : ∀ dx s', H dx = none → dx ≠ a → L2.Inv X pins σ (upd (upd H dx (L2.exd dx [(f, y)])) a (L2.exo a C (some dx))) s' → Q () s') : wpAny (model X.prog X.w) A (setAttr (.ref a) f u) Q E s := by
  obtain ⟨cd, hc, hd, over⟩ := T.cd
  obtain ⟨t1, ho⟩ := L2.exo_at I.hok e
  obtain ⟨hp, g, d, t, os⟩ := s
  refine PySem.W.set_plain I.kIn (ox := { cls := .ref C, dict := none, data := .fields #[.ref t1, .none, .none, .none, .bool false, .none] }) (od := none) ⟨ho, rfl, rfl, trivial⟩ T.sa ?_
  refine ae_first I.kIn ho hc hd over no fun h' tk' dx keep big ne hx n1 => ?_
  -- between the two there is a heap with the dict, and the exception still without it
  let G := h'.update a fun _ => { cls := .ref C, dict := none, data := .fields #[.ref t1, .none, .none, .none, .bool false, .none] }
  have ga : G.get? a = some { cls := .ref C, dict := none, data := .fields #[.ref t1, .none, .none, .none, .bool false, .none] } := Heap.get?_update_self _ hx rfl
  have gb : ∀ b, b ≠ a → G.get? b = h'.get? b := fun b nb => Heap.get?_update_ne _ _ _ _ nb
  have hdx : H dx = none := I.hok.fresh big
  have I1 := I.laid (t' := tk') (a := dx) (o := L2.exd dx [(f, y)]) (h' := G) (fun b o q => by
    by_cases c : b = a
    · subst c
      rw [ga]
      exact ho.symm.trans q
    · rw [gb b c]
      exact keep b o c q) big (L2.exd_ok (n1.at fun o q => (gb dx ne).trans q) (L2.relO_put (fs := []) ry fun _ => True.intro))
  have ea : (upd H dx (L2.exd dx [(f, y)])) a = some (L2.exo a C none) := by rw [upd_ne ne.symm, e]
  have I2 := I1.write (t' := tk') (x := a) (e := a) (o := L2.exo a C (some dx)) (h' := h') (by rw [ea]; exact True.intro) (.inl rfl) (fun b o nb q => (gb b nb).symm.trans q) ⟨_, hx⟩ (L2.exo_ok hx)
  exact k dx _ hdx ne I2
theorem ast_more (T : AeC X.K C) (I : L2.Inv X pins σ H s) (e : H a = some (L2.exo a C (some dx))) (ed : H dx = some (L2.exd dx fs)) (hl : fs.length ≤ 900) (no : PySem.W.findIn X.K (.ref C) f = some none) (ry : L2.RelV y u)
    (k : ∀ s', L2.Inv X pins σ (upd H dx (L2.exd dx ((f, y) :: fs))) s' → Q () s') : wpAny (model X.prog X.w) A (setAttr (.ref a) f u) Q E s := by
  obtain ⟨cd, hc, hd, over⟩ := T.cd
  obtain ⟨t1, ho⟩ := L2.exo_at I.hok e
  obtain ⟨mA, n1, rel⟩ := L2.exd_at I.hok ed
  have hw := L2.within_of rel
  obtain ⟨hp, g, d, t, os⟩ := s
  obtain ⟨oD, _, _, hoD, _, _⟩ := n1.count hw
  refine PySem.W.set_plain I.kIn (ox := { cls := .ref C, dict := some dx, data := .fields #[.ref t1, .none, .none, .none, .bool false, .none] }) (od := some oD) ⟨ho, rfl, rfl, hoD⟩ T.sa ?_
  refine ae_more I.kIn ho n1 hw (by rw [List.length_map]; omega) hc hd over no fun h' tk' keep n2 => ?_
  have there : ∃ o, h'.get? dx = some o := by
    obtain ⟨o, _, _, q, _⟩ := n2
    exact ⟨o, q⟩
  exact k _ (I.write (t' := tk') (x := dx) (e := dx) (o := L2.exd dx ((f, y) :: fs)) (by rw [ed]; exact True.intro) (.inl rfl) keep there (L2.exd_ok n2 (L2.relO_put ry rel)))
end
/-- o.f = e, o such an exception that is being made -/
def sAe (K : PySem.W.Frag) (f : Str) (to te : TE) : TS := fun D σ H => te σ H fun y H1 => to σ H1 fun x H2 => ∃ a C : Addr, x = .ref a ∧ AeC K C ∧ PySem.W.findIn K (.ref C) f = some none ∧
  ((H2 a = some (L2.exo a C none) ∧ ∀ dx, H2 dx = none → dx ≠ a → D.nx σ (upd (upd H2 dx (L2.exd dx [(f, y)])) a (L2.exo a C (some dx)))) ∨
    ∃ (dx : Addr) (fs : List (Str × V)), H2 a = some (L2.exo a C (some dx)) ∧ H2 dx = some (L2.exd dx fs) ∧ fs.length ≤ 900 ∧ D.nx σ (upd H2 dx (L2.exd dx ((f, y) :: fs))))
theorem ps_ae {X : Cx} {o e : Expr} {to te : TE} {f : Str} {p' pos : Pos} (ho : PE X o to) (he : PE X e te) (hs : swapsWith e (some (.Attribute o f p')) pos.line X.env = pure false := by rfl) : PS X (.Assign [.Attribute o f p'] e pos) (sAe X.K f to te) := by
  refine ⟨fun pins s σ H D I h => plainObj_wpAny_Assign_Attribute (L2.thn (he.run pins s σ H _ I h) fun v s1 ⟨y, H1, I1, r1, q1⟩ => L2.thn (ho.run pins s1 σ H1 _ I1 q1) fun z s2 ⟨x, H2, I2, r2, a, C, ex, T, no, q⟩ => ?_) hs⟩
  subst ex
  obtain rfl : z = Value.ref a := r2
  rcases q with ⟨ea, q⟩ | ⟨dx, fs, ea, ed, hl, q⟩
  · exact ast_first T I2 ea no r1 fun dx s' n ne J => ⟨σ, _, J, q dx n ne⟩
  · exact ast_more T I2 ea ed hl no r1 fun s' J => ⟨σ, _, J, q⟩
/-- C(e, ..): C's own __init__ keeps sp -/
theorem pmk_ae {X : Cx} {CX : CXT} {x : Str} {C f : Addr} {k : Nat} {fd : FuncData} {ps : List Str} {sp : Sp} {ds : List Value} {dvs : List V} {e : Expr} {es : List Expr} {ta : TA} {p pos : Pos} (T : AeC X.K C) (hi : PySem.W.findIn X.K (.ref C) "__init__" = some (some (.ref f))) (ht : PySem.W.typeIn X.K (.ref f) = some (.type "function"))
    (F : FnOk X.prog X.w X.K X.mg X.base CX k f fd ps sp) (hr : Room (k + 1) X.A) (hb : Binds X.K fd ps ds) (hd : L2.Vals dvs ds) (hx : Passes CX X fun _ _ _ => False) (hg : Gl X x) (hm : X.mg x = some (.ref C)) (ha : PA X (e :: es) ta)
    (hdb : (x == ("__debug__" : Str)) = false := by decide) (he : starEach (e :: es) X.env = (false, eval e X.env) :: starEach es X.env := by rfl) (hpl : (backTo pos (starEach es X.env)).any (·.1) = false := by rfl) :
    L2.PMk X (.Call (.Name x p) (e :: es) [] pos) (L2.tMkO C sp dvs ta) := by
  rintro pins s σ H Q I h
  obtain ⟨nm, q, N, bs, bm, sn, sub, ab, col, dd, k0, k1, k2, k3, k5, hC, hbm⟩ := T.obj
  refine wpAny_Call_Name_kw (L2.ld_glob I hg hm ?_ hdb)
  refine PySem.W.callWith_K (h₀ := X.base) I.ok.mod.kin T.kp (L2.thn (ha.run pos pins s σ H _ I h) fun us s1 ⟨vs, H1, I1, r1, hz, q1⟩ => ⟨I1.kIn, ?_⟩) he hpl
  obtain ⟨hp, g, dr, tk, os⟩ := s1
  have up : hp.objs.size ≤ hp.objs.size + 1 := Nat.le_succ _
  have fresh : H1 (hp.objs.size + 1) = none := I1.hok.fresh up
  have prom := q1 _ fresh
  have keep : ∀ b o, hp.get? b = some o → ((hp.push (PySem.W.kdv_tup us)).push (PySem.HandSPX.excO C hp.objs.size)).get? b = some o := fun b o z => Heap.get?_push_of_some _ (Heap.get?_push_of_some _ z)
  have at_ : ((hp.push (PySem.W.kdv_tup us)).push (PySem.HandSPX.excO C hp.objs.size)).get? (hp.objs.size + 1) = some (PySem.HandSPX.excO C hp.objs.size) := by heap_get
  have I2 := I1.laid (t' := tk) (a := hp.objs.size + 1) (o := L2.exo (hp.objs.size + 1) C none) keep up (L2.exo_ok at_)
  have rel : L2.Vals (V.ref (hp.objs.size + 1) :: (vs ++ dvs)) (Value.ref (hp.objs.size + 1) :: (us ++ ds)) := .cons rfl (r1.append hd)
  have len := rel.length
  rw [F.len _ _ _ _ prom] at len
  have small : us.length ≤ sizeLine := by
    rw [← r1.length, sizeLine_eq]
    omega
  have body := F.run _ X.stack _ _ ⟨Value.ref (hp.objs.size + 1) :: us, []⟩ (Value.ref (hp.objs.size + 1) :: (us ++ ds)) _ _ (fun _ _ _ => False) (hr.make C us []) (I2.env0.make C us []) (hb _ (Value.ref (hp.objs.size + 1) :: us) I2.kIn len.symm) rel prom
  refine wpAny_call (PySem.HandSPX.call_own PySem.F.excBase_ArithmeticError (fun Y => PySem.W.excTail_contains Y bm hbm) (I1.kIn _ _ hC) (PySem.W.looks_findIn I1.kIn hi) (fun self => PySem.W.bind_fn I1.kIn self ht) small (codeAny_mono body ?_))
  rintro (er | fl) s' hq
  · exact hx pins σ _ _ er s' I2 hq
  · cases fl with
    | ret u =>
      obtain ⟨v, H2, os2, bare2, un2, hok2, rv, ev, d, fs, ea, ed, hd1, q2⟩ := hq
      subst ev
      obtain ⟨h2, g2, d2, t2, os'⟩ := s'
      exact ⟨rv, L2.mk_end (L2.raises_own T.ex T.ty) I1 up keep un2 hok2 os2 bare2 ea ed hd1 q2⟩
    | next => exact False.elim hq
    | brk => exact False.elim hq
    | cont => exact False.elim hq
/-- what is needed for isinstance(e, ..), e such an exception -/
structure IsC (K : PySem.W.Frag) (D : Addr) : Prop where
  hg : PySem.W.findIn K (.ref D) "__getattribute__" = some (some (.builtin "BaseException.__getattribute__"))
  hk : PySem.W.findIn K (.ref D) "__getattr__" = some none
  hs : PySem.W.subIn K (.ref D) (.type "BaseException") = some true
  hd : PySem.W.hasDictIn K D = true
  ha : PySem.W.findIn K (.ref D) "__class__" = some (some (.builtin "object.__class__"))
  hn : PySem.W.specialIn K (.builtin "object.__class__") "__get__" = some (some (.builtin "getset_descriptor.__get__"))
  ht : PySem.W.takesIn K (.builtin "object.__class__") = some true
  hm : PySem.W.mroIn K D (.type "object") = some true
def rIsX (K : PySem.W.Frag) (D a d : Addr) : List V → Hp → VK → Prop := fun xs H Q => ∃ (c : V) (cv : Value) (b : Bool) (fs : List (Str × V)), xs = [.ref a, c] ∧ H d = some (.xd fs) ∧ (∀ u, L2.RelV c u → u = cv) ∧ PySem.W.kitOne K (.ref D) cv = some b ∧ Q (.bl b) H
/-- isinstance(e, c), e the caught exception with its fields in a dict at d -/
theorem call_isX {X : Cx} {a D d : Addr} {oe : Obj} {pn : List (Addr × Obj)} (T : IsC X.K D) (hz : L2.Zc (.ref D) (some d) oe) (hf : ∃ vs, oe.data = .fields vs) : CallR (X.suite a ((a, oe) :: pn)) (.builtin "isinstance") (rIsX X.K D a d) := by
  rintro pins s σ H xs us Q I r ⟨c, cv, b, fs, rfl, hdd, hcv, e, q⟩
  match us, r with
  | [_, _], .cons rx (.cons rt .nil) =>
    cases rx
    have ec := hcv _ rt
    subst ec
    obtain ⟨hget, _⟩ := I.pin (a, oe) (List.mem_append.mpr (.inl List.mem_cons_self))
    obtain ⟨vs, hv⟩ := hf
    have hx : ObjOk X.prog X.w H s.heap d (.xd fs) := I.hok d _ hdd
    obtain ⟨mA, hns, _⟩ := hx
    obtain ⟨od, ho, _⟩ := lookIn_ns hns
    have J : PySem.W.InstAt s.heap a oe D (some od) := by
      refine ⟨hget, hz.1, by unfold PySem.W.notCls; rw [hv] <;> rfl, ?_⟩
      rw [hz.2]
      exact ho
    have hcl : (PySem.W.clsIn X.K D).isSome = true := by
      obtain ⟨cd, hc, _⟩ := PySem.W.any_some T.hd
      rw [hc] <;> rfl
    exact PySem.W.kia_one (PySem.W.kitx_exc hcl T.hg T.hk T.hs T.ha T.hn T.ht T.hm) I.kIn J e (fun z => nomatch z) fun tk => ⟨.bl b, H, I.kept (t' := tk) fun _ _ z => z, rfl, q⟩
/-- the same where the suite is told of any error -/
def rIsY (K : PySem.W.Frag) (D a : Addr) (cls : Value) (d : Option Addr) : List V → Hp → VK → Prop := fun xs H Q => cls = .ref D ∧ ∃ dd, d = some dd ∧ rIsX K D a dd xs H Q
theorem call_isY {X : Cx} {a D : Addr} {cls : Value} {d : Option Addr} {oe : Obj} {pn : List (Addr × Obj)} (T : IsC X.K D) (hz : L2.Zc cls d oe) (hf : ∃ vs, oe.data = .fields vs) : CallR (X.suite a ((a, oe) :: pn)) (.builtin "isinstance") (rIsY X.K D a cls d) := by
  rintro pins s σ H xs us Q I r ⟨rfl, dd, rfl, h⟩
  exact call_isX T hz hf pins s σ H xs us Q I r h
/-- isinstance(e, (C1, ..)), the tuple new or not -/
def rIsT (K : PySem.W.Frag) (D a : Addr) (cls : Value) (d : Option Addr) : List V → Hp → VK → Prop := fun xs H Q => cls = .ref D ∧ ∃ (dd t : Addr) (cs : List Addr) (fs : List (Str × V)), d = some dd ∧ H dd = some (.xd fs) ∧ xs = [.ref a, .ref t] ∧ H t = some (.tup (cs.map V.ref)) ∧ PySem.W.kitAny K (.ref D) (cs.map Value.ref) = some false ∧ Q (.bl false) H
theorem refs_vals : ∀ {cs : List Addr} {us : List Value}, L2.Vals (cs.map V.ref) us → us = cs.map Value.ref
  | [], _, r => by cases r; rfl
  | c :: cs, _, r => by
    cases r with
    | cons h t =>
      have e : _ = Value.ref c := h
      rw [e, refs_vals t]
      rfl
theorem call_isT {X : Cx} {a D : Addr} {cls : Value} {d : Option Addr} {oe : Obj} {pn : List (Addr × Obj)} (T : IsC X.K D) (hz : L2.Zc cls d oe) (hf : ∃ vs, oe.data = .fields vs) : CallR (X.suite a ((a, oe) :: pn)) (.builtin "isinstance") (rIsT X.K D a cls d) := by
  rintro pins s σ H xs us Q I r ⟨rfl, dd, t, cs, fs, rfl, hdd, rfl, ht, e, q⟩
  match us, r with
  | [_, _], .cons rx (.cons rt .nil) =>
    cases rx
    cases rt
    obtain ⟨hget, _⟩ := I.pin (a, oe) (List.mem_append.mpr (.inl List.mem_cons_self))
    obtain ⟨vs, hv⟩ := hf
    have hx : ObjOk X.prog X.w H s.heap dd (.xd fs) := I.hok dd _ hdd
    obtain ⟨mA, hns, _⟩ := hx
    obtain ⟨od, ho, _⟩ := lookIn_ns hns
    have J : PySem.W.InstAt s.heap a oe D (some od) := by
      refine ⟨hget, hz.1, by unfold PySem.W.notCls; rw [hv] <;> rfl, ?_⟩
      rw [hz.2]
      exact ho
    have hcl : (PySem.W.clsIn X.K D).isSome = true := by
      obtain ⟨cd, hc, _⟩ := PySem.W.any_some T.hd
      rw [hc] <;> rfl
    obtain ⟨its, rv, htp, _⟩ := I.tuple (SqT.of ht)
    have ei := refs_vals rv
    subst ei
    obtain ⟨⟨tc, tdd, tda, tsl⟩, hto, htc, n, htd⟩ := htp
    dsimp only at htc htd
    subst htc htd
    exact PySem.W.kia_tup (PySem.W.kitx_exc hcl T.hg T.hk T.hs T.ha T.hn T.ht T.hm) I.kIn J hto e (fun z => nomatch z) fun tk => ⟨.bl false, H, I.kept (t' := tk) fun _ _ z => z, rfl, q⟩
/-! ### defs in which lambdas are made: what the text says of them -/
/-- a def of the text whose code object stands at c -/
structure FunT (K : PySem.W.Frag) (x q : Str) (st : Stmt) (f c : Addr) (fd : FuncData) : Prop where
  ex : ∃ (oc : Value) (od : Option Addr) (kV doc pm : Value) (an : Option Addr) (ct : Value) (osl : Array (Option Value)), fd = PySem.W.fnOf x q (defArgs st) (defBody st) (defScope st) .none kV doc pm an (.ref c) ct ∧ K.lookup f = some ⟨oc, od, .func fd, osl⟩ ∧ PySem.W.codeIn K (.ref c) q = true
  kp : PySem.W.keepIn K (.ref f) = true
theorem FunT.ok {P : Program} {w : World} {K : PySem.W.Frag} {mg : Str → Option Value} {base : Heap} {x q : Str} {st : Stmt} {f c : Addr} {fd : FuncData} {N ps : List Str} {k : Nat} {sp : Sp} (F : FunT K x q st f c fd) (S : FnScope N ps (defScope st)) (len : ∀ vs H Q E, sp vs H Q E → vs.length = ps.length)
    (hbody : ∀ (A : Around) (outer : List Env) (s : Shared) (H : Hp) (vs : List V) (Q : VK) (E : XK), Room k (A.deeper (PyProof.Rows.envOfC q (defScope st) s.heap.objs.size f (.ref c))) → sp vs H Q E →
      ∃ t, PSs (cxOf CX0 P w K mg base N q (defScope st) f (.ref c) A outer s H E).nox (defBody st) t ∧ t { nx := fun _ H' => Q .non H', rt := Q } (start N vs) H) : FnOk P w K mg base CX0 (k + 1) f fd ps sp := by
  obtain ⟨oc, od, kV, doc, pm, an, ct, osl, rfl, lk, hcd⟩ := F.ex
  refine fn_of lk hcd S len fun A outer s H vs Q E hr hsp => ?_
  obtain ⟨t, h, z⟩ := hbody A outer s H vs Q E hr hsp
  exact ⟨t, h.nox, z⟩
structure DfnT (K : PySem.W.Frag) (mg : Str → Option Value) (x : Str) (st : Stmt) (f c : Addr) (ps : List Str) : Prop where
  ex : ∃ fd, FunT K x x st f c fd ∧ Binds K fd ps []
  g : mg x = some (.ref f)
/-! ### the text by places -/
def top (i : Nat) : Stmt := PySem.Challenge.pw_breakerrow_k55_playings_of_rows_refuse.main.body.getD i (.Pass ⟨0, 0, 0, 0⟩)
abbrev st__wall : Stmt := top 0
abbrev st_InvalidRow_init : Stmt := inClass (top 3) 0
abbrev st_InvalidIndex_init : Stmt := inClass (top 4) 0
abbrev st_InvalidBound_init : Stmt := inClass (top 5) 0
abbrev st_InvalidLog_init : Stmt := inClass (top 6) 0
abbrev st_InvalidCall_init : Stmt := inClass (top 7) 0
abbrev st_LimitExceeded_init : Stmt := inClass (top 8) 0
abbrev st_is_integer : Stmt := top 10
abbrev st_is_at_least : Stmt := top 11
abbrev st_is_within : Stmt := top 12
abbrev st_Row_init : Stmt := inClass (top 17) 0
abbrev st_Row_breaker_list : Stmt := inClass (top 17) 1
abbrev st_Row_step_length : Stmt := inClass (top 17) 2
abbrev st_Row_phase_time : Stmt := inClass (top 17) 3
abbrev st_Row_len : Stmt := inClass (top 17) 4
abbrev st_Row_getitem : Stmt := inClass (top 17) 5
abbrev st_Row_iter : Stmt := inClass (top 17) 6
abbrev st_Row_contains : Stmt := inClass (top 17) 7
abbrev st_Row_add : Stmt := inClass (top 17) 8
abbrev st_Row_eq : Stmt := inClass (top 17) 9
abbrev st_is_breaker : Stmt := top 18
abbrev st_check_breakers : Stmt := top 19
abbrev st_check_step : Stmt := top 20
abbrev st_request_time : Stmt := top 21
abbrev st_closed_states : Stmt := top 26
abbrev st_passes : Stmt := top 27
abbrev st_state_behind : Stmt := top 28
abbrev st_sent : Stmt := top 29
abbrev st_Playing_init : Stmt := inClass (top 31) 0
abbrev st_Playing_base_row : Stmt := inClass (top 31) 1
abbrev st_Playing_next_request : Stmt := inClass (top 31) 2
abbrev st_Playing_request : Stmt := inClass (top 31) 3
abbrev st_Playing_state_list : Stmt := inClass (top 31) 4
abbrev st_Playing_is_whole : Stmt := inClass (top 31) 5
abbrev st_Playing_log : Stmt := inClass (top 31) 6
abbrev st_Playing_undo : Stmt := inClass (top 31) 7
abbrev st_Playing_eq : Stmt := inClass (top 31) 8
abbrev st_is_word : Stmt := top 32
abbrev st_check_words : Stmt := top 33
abbrev st_played : Stmt := top 34
abbrev st_replay : Stmt := top 35
abbrev st__law_cell_at : Stmt := top 37
abbrev st__law_source_of : Stmt := top 38
abbrev st__law_draw : Stmt := top 39
abbrev st__law_choice : Stmt := top 40
abbrev st__law_specs : Stmt := top 41
abbrev st__law_words : Stmt := top 42
abbrev st__law_error : Stmt := top 43
abbrev st__law_calls_right : Stmt := top 44
abbrev st_law : Stmt := top 45
/-- a def of the top -/
structure Dfn (K : PySem.W.Frag) (mg : Str → Option Value) (x : Str) (st : Stmt) (f : Addr) (ps : List Str) : Prop where
  ex : ∃ fd, Fun K x x st f fd ∧ Binds K fd ps []
  g : mg x = some (.ref f)
structure Mth (K : PySem.W.Frag) (C : Addr) (m q : Str) (st : Stmt) (f : Addr) (ps : List Str) : Prop where
  ex : ∃ fd, Fun K m q st f fd ∧ Binds K fd ps []
  at_ : PySem.W.findIn K (.ref C) m = some (some (.ref f))
  fn : PySem.W.isFn K (.ref f) = true
  fk : PySem.W.fnIn K f = true
/-- a def that is called by its name, with its promise -/
structure Cal (P : Program) (w : World) (K : PySem.W.Frag) (mg : Str → Option Value) (base : Heap) (x : Str) (k : Nat) (f : Addr) (ps : List Str) (sp : Sp) : Prop where
  ex : ∃ fd, FnOk P w K mg base CX0 k f fd ps sp ∧ Binds K fd ps []
  g : mg x = some (.ref f)
  kp : PySem.W.keepIn K (.ref f) = true
theorem Dfn.cal {P : Program} {w : World} {K : PySem.W.Frag} {mg : Str → Option Value} {base : Heap} {x : Str} {st : Stmt} {f : Addr} {ps : List Str} {k : Nat} {sp : Sp} (D : Dfn K mg x st f ps) (h : ∀ fd, Fun K x x st f fd → FnOk P w K mg base CX0 k f fd ps sp) : Cal P w K mg base x k f ps sp := by
  obtain ⟨fd, F, b⟩ := D.ex
  exact ⟨⟨fd, h fd F, b⟩, D.g, F.kp⟩
theorem pe_c {X : Cx} {x : Str} {k : Nat} {f : Addr} {ps : List Str} {sp : Sp} {t : TA} {e : Expr} {es : List Expr} {p pos : Pos} (c : Cal X.prog X.w X.K X.mg X.base x k f ps sp) (hr : Room k X.A) (hg : Gl X x)
    (ha : PA X (e :: es) t) (hdb : (x == ("__debug__" : Str)) = false := by decide) (he : starEach (e :: es) X.env = (false, eval e X.env) :: starEach es X.env := by rfl) (hpl : (backTo pos (starEach es X.env)).any (·.1) = false := by rfl) :
    PE X (.Call (.Name x p) (e :: es) [] pos) (tCall sp [] E0 t) := by
  obtain ⟨fd, F, b⟩ := c.ex
  exact pe_call F hr hg c.g c.kp b .nil pass0 ha hdb he hpl
/-- a method with its promise -/
structure Met (P : Program) (w : World) (K : PySem.W.Frag) (mg : Str → Option Value) (base : Heap) (C : Addr) (m : Str) (k : Nat) (f : Addr) (ps : List Str) (sp : Sp) : Prop where
  ex : ∃ fd, FnOk P w K mg base CX0 k f fd ps sp ∧ Binds K fd ps []
  me : Meth K C m f
  fk : PySem.W.fnIn K f = true
theorem Mth.met {P : Program} {w : World} {K : PySem.W.Frag} {mg : Str → Option Value} {base : Heap} {C : Addr} {m q : Str} {st : Stmt} {f : Addr} {ps : List Str} {k : Nat} {sp : Sp} (D : Mth K C m q st f ps) (h : ∀ fd, Fun K m q st f fd → FnOk P w K mg base CX0 k f fd ps sp) : Met P w K mg base C m k f ps sp := by
  obtain ⟨fd, F, b⟩ := D.ex
  exact ⟨⟨fd, h fd F, b⟩, ⟨D.at_, D.fn, F.kp⟩, D.fk⟩

/-! ### values of plain kinds -/
inductive Kd (H : Hp) : V → String → Prop where
  | non : Kd H .non "NoneType"
  | bl (b : Bool) : Kd H (.bl b) "bool"
  | int (i : Int) : Kd H (.int i) "int"
  | str (x : Str) : Kd H (.str x) "str"
  | lst {a : Addr} {xs : List V} (e : H a = some (.lst xs)) : Kd H (.ref a) "list"
  | tup {a : Addr} {xs : List V} (e : H a = some (.tup xs)) : Kd H (.ref a) "tuple"
  | dK {a : Addr} {xs : List (Key × V)} (e : H a = some (.dK xs)) : Kd H (.ref a) "dict"
theorem Kd.ty {K : PySem.W.Frag} {H : Hp} {v : V} {n : String} (h : Kd H v n) : TyX K H v (.type n) := by
  cases h with
  | non => exact .base .non
  | bl b => exact .base (.bl b)
  | int i => exact .base (.int i)
  | str x => exact .base (.str x)
  | lst e => exact .base (.lst e)
  | tup e => exact .base (.tup e)
  | dK e => exact .base (.dK e)
def isI : V → Bool
  | .int _ => true
  | _ => false
def toI : V → Int
  | .int i => i
  | _ => 0
theorem Kd.kit {K : PySem.W.Frag} {H : Hp} {v : V} {n : String} (h : Kd H v n) (c : String) (b : Bool) (hc : c = "int" ∧ b = (n == "int" || n == "bool") ∨ c ≠ "int" ∧ c ∈ ["bool", "list", "tuple"] ∧ b = (n == c)) : PySem.W.kitOne K (.type n) (.type c) = some b := by
  rcases hc with ⟨rfl, rfl⟩ | ⟨_, hc, rfl⟩
  · cases h <;> exact kit_ty (by decide +kernel)
  · simp only [List.mem_cons, List.mem_nil_iff, or_false] at hc
    rcases hc with rfl | rfl | rfl <;> cases h <;> exact kit_ty (by decide +kernel)
theorem Kd.same {H H' : Hp} {v : V} {n : String} (h : Kd H v n) (s : ∀ b o, v = .ref b → H b = some o → H' b = some o) : Kd H' v n := by
  cases h with
  | non => exact .non
  | bl b => exact .bl b
  | int i => exact .int i
  | str x => exact .str x
  | lst e => exact .lst (s _ _ rfl e)
  | tup e => exact .tup (s _ _ rfl e)
  | dK e => exact .dK (s _ _ rfl e)
/-- all but what stands at a is kept -/
def Kp (a : Addr) (H H' : Hp) : Prop := ∀ b o, b ≠ a → H b = some o → H' b = some o
theorem Kp.refl {a : Addr} {H : Hp} : Kp a H H := fun _ _ _ h => h
theorem Kp.trans {a : Addr} {H H1 H2 : Hp} (h : Kp a H H1) (h' : Kp a H1 H2) : Kp a H H2 := fun b o n e => h' b o n (h b o n e)
theorem Kp.of {a : Addr} {H H' : Hp} (s : Same H H') : Kp a H H' := fun b o _ e => s b o e
theorem Kp.upd {a : Addr} {H : Hp} {o : HO} : Kp a H (upd H a o) := fun b _ n e => by rw [upd_ne n]; exact e
theorem Same.upd {H : Hp} {p : Addr} {o : HO} (h : H p = none) : Same H (L2.upd H p o) := fun b u e => by rw [upd_ne (ne_of_none e h)]; exact e
theorem Kp.free {a b : Addr} {H H' : Hp} {o : HO} (k : Kp a H H') (ha : H a = some o) (h : H' b = none) (n : b ≠ a) : H b = none := by
  cases q : H b with
  | none => rfl
  | some u => rw [k b u n q] at h; cases h

/-! ### the promises of the small defs -/
def spIsInt : Sp := fun vs H Q _ => ∃ v n, vs = [v] ∧ Kd H v n ∧ Q (.bl (isI v)) H
def spAtL : Sp := fun vs H Q _ => ∃ v n l, vs = [v, .int l] ∧ Kd H v n ∧ Q (.bl (isI v && decide (l ≤ toI v))) H
def spWithin : Sp := fun vs H Q _ => ∃ v n l m, vs = [v, .int l, .int m] ∧ Kd H v n ∧ Q (.bl (isI v && (decide (l ≤ toI v) && decide (toI v ≤ m)))) H
/-- how many steps -/
def stepsUp (d s : Int) : Int := if -(-d / s) > 0 then -(-d / s) else 0
def spSteps : Sp := fun vs H Q _ => ∃ d s, vs = [.int d, .int s] ∧ 0 < s ∧ s.natAbs.log2 < 9000 ∧ Q (.int (stepsUp d s)) H

/-- what is no list is kept -/
def NL (H H' : Hp) : Prop := ∀ b o, H b = some o → (∀ xs, o ≠ .lst xs) → H' b = some o
theorem NL.refl {H : Hp} : NL H H := fun _ _ h _ => h
theorem NL.trans {H H1 H2 : Hp} (a : NL H H1) (b : NL H1 H2) : NL H H2 := fun c o h n => b c o (a c o h n) n
theorem NL.of {H H' : Hp} (s : Same H H') : NL H H' := fun b o e _ => s b o e
theorem Kp.nl {a : Addr} {H H' : Hp} {xs : List V} (k : Kp a H H') (h : H a = some (.lst xs)) : NL H H' := fun b o e n => k b o (fun z => by subst z; rw [h] at e; exact n xs (Option.some.inj e).symm) e
theorem NL.upd {H : Hp} {p : Addr} {xs : List V} {o : HO} (h : H p = some (.lst xs)) : NL H (L2.upd H p o) := Kp.nl Kp.upd h
theorem pe_gI {X : Cx} {x : Str} {i : Int} {t : Tok} {pos : Pos} (hm : X.mg x = some (.int i t)) (hg : Gl X x := by rfl) (hd : (x == ("__debug__" : Str)) = false := by decide) : PE X (.Name x pos) (tC (.int i)) := pe_glob hg hm ⟨t, rfl⟩ hd
@[irreducible] def PB (n : Nat) : Int := 2 ^ n
theorem PB_succ (n : Nat) : PB (n + 1) = PB n + PB n := by
  unfold PB
  rw [Int.pow_succ]
  omega
theorem PB_pos (n : Nat) : 1 ≤ PB n := by
  unfold PB
  have : (0 : Int) < 2 ^ n := Int.pow_pos (by decide)
  omega
theorem PB_le {n m : Nat} (h : n ≤ m) : PB n ≤ PB m := by
  induction m with
  | zero => rw [Nat.le_zero.mp h]; exact Int.le_refl _
  | succ m ih =>
    by_cases e : n = m + 1
    · rw [e]; exact Int.le_refl _
    · have h1 := ih (by omega)
      have h2 := PB_succ m
      have h3 := PB_pos m
      omega
theorem PB_abs {i : Int} {n : Nat} (h0 : 0 ≤ i) (h : i ≤ PB n) : i.natAbs < 2 ^ (n + 1) := by
  unfold PB at h
  have e : (2 : Nat) ^ (n + 1) = 2 ^ n * 2 := Nat.pow_succ 2 n
  have e2 : ((2 ^ n : Nat) : Int) = 2 ^ n := by rw [Int.natCast_pow]; rfl
  rw [← e2] at h
  have : 0 < 2 ^ n := Nat.pow_pos (by decide)
  rw [e]
  generalize 2 ^ n = w at *
  omega
theorem PB_of {i : Int} {n : Nat} (h : i.natAbs < 2 ^ n) : i ≤ PB n := by
  unfold PB
  have e2 : ((2 ^ n : Nat) : Int) = 2 ^ n := by rw [Int.natCast_pow]; rfl
  rw [← e2]
  generalize 2 ^ n = w at *
  omega
def BB : Int := PB 5000
theorem BB0 : 0 ≤ BB := by
  have := PB_pos 5000
  unfold BB
  omega
theorem bb_lt {i : Int} (h0 : 0 ≤ i) (h : i ≤ BB + BB) : i.natAbs < 2 ^ 5002 := PB_abs h0 (by rw [PB_succ]; exact h)
theorem mulBB {i j : Int} (i0 : 0 ≤ i) (i1 : i ≤ BB + BB) (j0 : 0 ≤ j) (j1 : j ≤ BB + BB) : CMulW i j := wide_mul (bb_lt i0 i1) (bb_lt j0 j1) (by decide) (by decide) (by decide)
theorem BB1 : 1 ≤ BB := PB_pos 5000
theorem divBB {j : Int} (j0 : 1 ≤ j) (j1 : j ≤ BB) : j.natAbs.log2 < 9000 := (wide_div (i := 0) (by omega : 0 < j) (bb_lt (by omega) (by have := BB0; omega)) (by decide) (by decide)).2
theorem small2 {n : Nat} (h : n ≤ 100000) : n ≤ sizeLine := Nat.le_trans h (by decide)
theorem small1 {n : Nat} (h : n ≤ 100000) : n < sizeLine := Nat.lt_of_le_of_lt h (by decide)
theorem tYes_of {σ : L2.St} {H : Hp} {A B : Hp → Prop} (h : A H) : tYes σ H (fun b H3 => if b = true then A H3 else B H3) := by
  show if true = true then A H else B H
  rw [if_pos rfl]
  exact h
theorem cut_init (xs : List V) : cutV xs none (some (-1)) = xs.take (xs.length - 1) := by
  show (xs.drop 0).take ((if (-1 : Int) < 0 then ((-1 : Int) + (xs.length : Int)).toNat else min (-1 : Int).toNat xs.length) - 0) = _
  rw [if_pos (by decide), List.drop_zero]
  congr 1
  omega
theorem cut_last (xs : List V) : cutV xs (some (-1)) none = xs.drop (xs.length - 1) := by
  show (xs.drop (if (-1 : Int) < 0 then ((-1 : Int) + (xs.length : Int)).toNat else min (-1 : Int).toNat xs.length)).take (xs.length - (if (-1 : Int) < 0 then ((-1 : Int) + (xs.length : Int)).toNat else min (-1 : Int).toNat xs.length)) = _
  rw [if_pos (by decide)]
  have e : ((-1 : Int) + (xs.length : Int)).toNat = xs.length - 1 := by omega
  rw [e]
  refine List.take_of_length_le ?_
  rw [List.length_drop]
  exact Nat.le_refl _
theorem none_of {H H' : Hp} {l : Addr} (s : Same H H') (h : H' l = none) : H l = none := by
  cases q : H l with
  | none => rfl
  | some o => rw [s _ _ q] at h; cases h
theorem for_enum {K : PySem.W.Frag} {a : Addr} {xs : List V} {g : TG} {tb : TS} {D : Ends} {σ : L2.St} {H : Hp} (Pv : Nat → L2.St → Hp → Prop) (h0 : Pv 0 σ H) (hl : ∀ i σ H, i ≤ xs.length → Pv i σ H → SqL K H a xs)
    (hs : ∀ i x T σ H, xs[i]? = some x → Pv i σ H → H T = none → g (.ref T) σ (upd H T (.tup [.int (i : Nat), x])) fun σ2 H2 => tb { D with nx := Pv (i + 1), ct := Pv (i + 1), bk := D.nx } σ2 H2) (hd : ∀ σ H, Pv xs.length σ H → D.nx σ H) :
    ∃ W : Nat → Nat → L2.St → Hp → Prop, (∃ m, W 0 m σ H) ∧ ∀ i m σ H, W i m σ H →
      ((Ite K a).stop i H ∧ D.nx σ H) ∨ ((Ite K a).go i H ∧ ∃ N : L2.St → Hp → Prop, (∀ σ' H', N σ' H' → ∃ m', m' < m ∧ W (i + 1) m' σ' H') ∧ ∀ x H', (Ite K a).yld i H x H' → g x σ H' fun σ2 H2 => tb { D with nx := N, ct := N, bk := D.nx } σ2 H2) := by
  refine ⟨fun i m σ H => m = xs.length - i ∧ i ≤ xs.length ∧ Pv i σ H, ⟨xs.length, by simp, Nat.zero_le _, h0⟩, ?_⟩
  rintro i m σ H ⟨rfl, hi, p⟩
  have q := hl i σ H hi p
  by_cases hlt : i < xs.length
  · refine .inr ⟨⟨xs, xs[i], q, by simp [hlt]⟩, Pv (i + 1), fun σ' H' p' => ⟨xs.length - (i + 1), by omega, rfl, hlt, p'⟩, fun x H' y => ?_⟩
    obtain ⟨T, x', rfl, hT, rfl, hx⟩ := y
    exact hs i x' T σ H (hx xs q) p hT
  · have e : i = xs.length := by omega
    subst e
    exact .inl ⟨⟨xs, q, Nat.le_refl _⟩, hd σ H p⟩
theorem pe_callN0 {X : Cx} {CX : CXT} {k : Nat} {f : Addr} {fd : FuncData} {ps ks : List Str} {sp : Sp} {E : XK} {x : Str} {p pos : Pos} {kws : List Keyword} {tk : TA} {g : List Value → List Value → List Value} {gV : List V → List V → List V}
    (F : FnOk X.prog X.w X.K X.mg X.base CX k f fd ps sp) (hr : Room k X.A) (hg : Gl X x) (hm : X.mg x = some (.ref f)) (hk : PySem.W.keepIn X.K (.ref f) = true) (hb : KBn X.K fd ps 0 ks g gV) (hx : Passes CX X E) (hkw : PK X kws tk)
    (hall : (backToKw pos (keywordEach kws X.env)).all (·.1.isSome) = true := by rfl) (hks : (backToKw pos (keywordEach kws X.env)).filterMap (·.1) = ks := by rfl) (hdb : (x == ("__debug__" : Str)) = false := by decide)
    (hpl : ((backTo pos (starEach [] X.env)).any (·.1) || (backToKw pos (keywordEach kws X.env)).any (·.1.isNone)) = false := by rfl) :
    PE X (.Call (.Name x p) [] kws pos) (tCallN 0 ks.length sp gV E tNil tk) := by
  refine ⟨fun pins s σ H Q I h => ?_⟩
  refine wpAny_Call_Name_kw (ld_glob I hg hm ?_ hdb)
  refine PySem.W.callWith_KW0 (h₀ := X.base) I.ok.mod.kin hk hall ?_ hpl
  refine thn (hkw.run pos pins s σ H _ I h) fun ws s2 ⟨zs, H2, I2, rz, l1, l2, q2⟩ => ⟨I2.kIn, ?_⟩
  rw [hks]
  exact run_fnN F hr hb hx I2 .nil rz rfl l2 q2
section
variable {X : Cx} {C : Addr} {k : Nat} {f : Addr} {ps : List Str} {sp : Sp}
theorem Met.op_in (c : Met X.prog X.w X.K X.mg X.base C "__contains__" k f ps sp) (hr : Room k X.A) : OpR X (compareOp .In) (rOwnIn C sp E0 _root_.id) := by
  obtain ⟨fd, F, b⟩ := c.ex
  exact op_own_in F hr c.me.at_ c.me.fn b pass0
theorem Met.op_notin (c : Met X.prog X.w X.K X.mg X.base C "__contains__" k f ps sp) (hr : Room k X.A) : OpR X (compareOp .NotIn) (rOwnIn C sp E0 Bool.not) := by
  obtain ⟨fd, F, b⟩ := c.ex
  exact op_own_notin F hr c.me.at_ c.me.fn b pass0
theorem Met.c_len (c : Met X.prog X.w X.K X.mg X.base C "__len__" k f ps sp) (hr : Room (k + 1) X.A) : CallR X (.builtin "len") (rOwnLen C sp E0) := by
  obtain ⟨fd, F, b⟩ := c.ex
  exact call_own_len F hr c.me.at_ c.me.fn b pass0
theorem Met.op_add (c : Met X.prog X.w X.K X.mg X.base C "__add__" k f ps sp) (hr : Room k X.A) (hc : PySem.W.selfFirst X.K C = true) : OpR X (binaryOp .Add) (rOwnAdd C sp E0) := by
  obtain ⟨fd, F, b⟩ := c.ex
  exact op_own_add F hr hc c.me.at_ c.me.fn b pass0
theorem Met.op_eq (c : Met X.prog X.w X.K X.mg X.base C "__eq__" k f ps sp) (hr : Room k X.A) : OpR X (compareOp .Eq) (rOwnEq C sp E0 _root_.id) := by
  obtain ⟨fd, F, b⟩ := c.ex
  exact op_own_eq F hr c.me.at_ c.me.fn b pass0
theorem Met.op_ne (c : Met X.prog X.w X.K X.mg X.base C "__eq__" k f ps sp) (hr : Room (k + 1) X.A) (hm : PySem.W.mroIn X.K C (.type "object") = some true) (hne : PySem.W.findIn X.K (.ref C) "__ne__" = some (some (.builtin "object.__ne__"))) : OpR X (compareOp .NotEq) (rOwnEq C sp E0 Bool.not) := by
  obtain ⟨fd, F, b⟩ := c.ex
  exact op_own_ne F hr hm hne c.me.at_ c.me.fn b pass0
theorem Met.p_ix {a b : Expr} {ta tb : TE} {pos : Pos} (c : Met X.prog X.w X.K X.mg X.base C "__getitem__" k f ps sp) (hr : Room (k + 1) X.A) (ha : PE X a ta) (hb' : PE X b tb) (hsl : ∀ o i, subscripted b true o i = runValue (.builtin "lifetime.subscript" ⟨[o, i], []⟩) := by exact fun _ _ => rfl) :
    PE X (.Subscript a b pos) (tOp (rOwnIx C sp E0) ta tb) := by
  obtain ⟨fd, F, bb⟩ := c.ex
  exact pe_own_ix F hr c.me.at_ c.fk c.me.fn bb pass0 ha hb' hsl
end
theorem Met.p_m0 {X : Cx} {C : Addr} {k : Nat} {f : Addr} {ps : List Str} {sp : Sp} {m : Str} {o : Expr} {ta : TE} {apos pos : Pos} {pl : Sem Bool} (c : Met X.prog X.w X.K X.mg X.base C m k f ps sp) (cl : Cls X.K C) (hr : Room k X.A) (he : PE X o ta)
    (ht : eval (.Call (.Attribute o m apos) [] [] pos) X.env = (do
      let ov ← eval o X.env
      standAt apos.atName
      let (f, first) ← holding [ov] (getMethod ov m pl)
      callWith pos f first (backTo pos (starEach [] X.env)) (backToKw pos (keywordEach [] X.env))) := by rfl) :
    PE X (.Call (.Attribute o m apos) [] [] pos) (tMeth C m sp [] E0 ta tNil) := by
  obtain ⟨fd, F, b⟩ := c.ex
  exact pe_meth0 he cl c.me F hr b .nil pass0 ht
/-! ### a class of the text -/
structure CF (K : PySem.W.Frag) (C : Addr) : Prop where
  cl : Cls K C
  cls : PySem.W.isClsIn K C = true
  ty : PySem.W.typeIn K (.ref C) = some (.type "type")
  oc : PySem.W.findIn K (.ref C) "__class__" = some (some (.builtin "object.__class__"))
  og : PySem.W.specialIn K (.builtin "object.__class__") "__get__" = some (some (.builtin "getset_descriptor.__get__"))
  ot : PySem.W.takesIn K (.builtin "object.__class__") = some true
  om : PySem.W.mroIn K C (.type "object") = some true
  sf : PySem.W.selfFirst K C = true
  ne : PySem.W.findIn K (.ref C) "__ne__" = some (some (.builtin "object.__ne__"))
theorem CF.kitT {K : PySem.W.Frag} {C : Addr} (M : CF K C) {H : Hp} {v : V} {n : String} (h : Kd H v n) : PySem.W.kitOne K (.type n) (.ref C) = some false := by
  have e1 : ((PySem.W.clsIn K C).isSome && PySem.W.typeIn K (.ref C) == some (.type "type")) = true := by
    have h2 : (PySem.W.clsIn K C).isSome = true := M.cls
    rw [h2, M.ty] <;> rfl
  have e2 : PySem.W.subIn K (.type n) (.ref C) = some false := by
    cases h with
    | non => exact sub_ty (l := ["NoneType", "object"]) (by decide +kernel)
    | bl _ => exact sub_ty (l := ["bool", "int", "object"]) (by decide +kernel)
    | int _ => exact sub_ty (l := ["int", "object"]) (by decide +kernel)
    | str _ => exact sub_ty (l := ["str", "object"]) (by decide +kernel)
    | lst _ => exact sub_ty (l := ["list", "object"]) (by decide +kernel)
    | tup _ => exact sub_ty (l := ["tuple", "object"]) (by decide +kernel)
    | dK _ => exact sub_ty (l := ["dict", "object"]) (by decide +kernel)
  show (if (Value.type n == Value.ref C) = true then some true else PySem.W.kitCls K (.type n) (.ref C)) = some false
  rw [if_neg (by intro z; cases z)]
  show (if ((PySem.W.clsIn K C).isSome && PySem.W.typeIn K (.ref C) == some (.type "type")) = true then PySem.W.subIn K (.type n) (.ref C) else none) = some false
  rw [if_pos e1, e2]
theorem CF.tyR {K : PySem.W.Frag} {C : Addr} (M : CF K C) {H : Hp} {p dx : Addr} {fs : List (Str × V)} (h : H p = some (.ins C dx fs)) : TyX K H (.ref p) (.ref C) := .base (.ins h M.cl M.oc M.og M.ot M.om)
theorem vals_rev {vs : List V} {us : List Value} (r : Vals vs us) : Vals vs.reverse us.reverse := by
  induction r with
  | nil => exact .nil
  | cons h t ih =>
    rw [List.reverse_cons, List.reverse_cons]
    exact ih.append (.cons h .nil)
/-- f(c = .., b = .., a = ..) of a def f(a, b, c) -/
theorem pe_kr {X : Cx} {k : Nat} {f : Addr} {sp : Sp} {x : Str} {ps : List Str} {st : Stmt} {kws : List Keyword} {tk : TA} {p pos : Pos} (D : Dfn X.K X.mg x st f ps) (h : ∀ fd, Fun X.K x x st f fd → FnOk X.prog X.w X.K X.mg X.base CX0 k f fd ps sp)
    (hbind : ∀ (kV doc pm : Value) (an : Option Addr) (cdv ct : Value) (us : List Value), us.length = ps.reverse.length → bindArgs (PySem.W.fnOf x x (defArgs st) (defBody st) (defScope st) .none kV doc pm an cdv ct) ⟨[], ps.reverse.zip us⟩ = pure (ps.zip us.reverse))
    (hr : Room k X.A) (hg : Gl X x) (hkw : PK X kws tk) (hall : (backToKw pos (keywordEach kws X.env)).all (·.1.isSome) = true := by rfl) (hks : (backToKw pos (keywordEach kws X.env)).filterMap (·.1) = ps.reverse := by rfl) (hdb : (x == ("__debug__" : Str)) = false := by decide)
    (hpl : ((backTo pos (starEach [] X.env)).any (·.1) || (backToKw pos (keywordEach kws X.env)).any (·.1.isNone)) = false := by rfl) :
    PE X (.Call (.Name x p) [] kws pos) (tCallN 0 ps.reverse.length sp (fun us ws => us ++ ws.reverse) E0 tNil tk) := by
  obtain ⟨fd, F, _⟩ := D.ex
  have hb : KBn X.K fd ps 0 ps.reverse (fun us ws => us ++ ws.reverse) (fun us ws => us ++ ws.reverse) := by
    refine ⟨fun s us ws hX h1 h2 => ?_, fun r1 r2 => r1.append (vals_rev r2)⟩
    obtain ⟨oc, od, kV, doc, pm, an, cdv, ct, osl, rfl, lk, hcd⟩ := F.ex
    match us, h1 with
    | [], _ => exact .of_eq (hbind kV doc pm an cdv ct ws h2)
  exact pe_callN0 (h fd F) hr hg D.g F.kp hb pass0 hkw hall hks hdb hpl
/-- where the defs and classes of the text stand -/
structure LA where
  f__wall : Addr
  f_is_integer : Addr
  f_is_at_least : Addr
  f_is_within : Addr
  f_is_breaker : Addr
  f_check_breakers : Addr
  f_check_step : Addr
  f_request_time : Addr
  f_closed_states : Addr
  f_passes : Addr
  f_state_behind : Addr
  f_sent : Addr
  f_is_word : Addr
  f_check_words : Addr
  f_played : Addr
  f_replay : Addr
  f__law_cell_at : Addr
  f__law_source_of : Addr
  f__law_draw : Addr
  f__law_choice : Addr
  f__law_specs : Addr
  f__law_words : Addr
  f__law_error : Addr
  f__law_calls_right : Addr
  k__law_calls_right : Addr
  t__law_calls_right : Addr
  k_law : Addr
  t_law : Addr
  c_Row : Addr
  i_Row : Addr
  m_Row_breaker_list : Addr
  m_Row_step_length : Addr
  m_Row_phase_time : Addr
  m_Row_len : Addr
  m_Row_getitem : Addr
  m_Row_contains : Addr
  m_Row_add : Addr
  m_Row_eq : Addr
  c_Playing : Addr
  i_Playing : Addr
  m_Playing_base_row : Addr
  m_Playing_next_request : Addr
  m_Playing_request : Addr
  m_Playing_state_list : Addr
  m_Playing_is_whole : Addr
  m_Playing_log : Addr
  m_Playing_undo : Addr
  m_Playing_eq : Addr
  e_BreakerError : Addr
  e_InvalidRow : Addr
  e_InvalidIndex : Addr
  e_InvalidBound : Addr
  e_InvalidLog : Addr
  e_InvalidCall : Addr
  e_LimitExceeded : Addr
  i_InvalidRow : Addr
  i_InvalidBound : Addr
  i_InvalidCall : Addr
  i_LimitExceeded : Addr
/-- what the text says of them -/
structure LX (K : PySem.W.Frag) (mg : Str → Option Value) (L : LA) : Prop where
  b_ArithmeticError : mg "ArithmeticError" = none
  b_bool : mg "bool" = none
  b_enumerate : mg "enumerate" = none
  b_int : mg "int" = none
  b_isinstance : mg "isinstance" = none
  b_len : mg "len" = none
  b_list : mg "list" = none
  b_range : mg "range" = none
  b_repr : mg "repr" = none
  b_str : mg "str" = none
  b_tuple : mg "tuple" = none
  b_zip : mg "zip" = none
  n_MOST_BREAKERS : ∃ t, mg "MOST_BREAKERS" = some (.int 12 t)
  n_MOST_COUNT : ∃ t, mg "MOST_COUNT" = some (.int 1000000000000 t)
  n_MOST_TIME : ∃ t, mg "MOST_TIME" = some (.int 1000000000000000000000000000000 t)
  n_MOST_REQUESTS : ∃ t, mg "MOST_REQUESTS" = some (.int 10000 t)
  n_SERVED : ∃ a, mg "SERVED" = some (.ref a) ∧ ∀ H : Hp, SqT K H a [.str "served"]
  n_FAILED : ∃ a, mg "FAILED" = some (.ref a) ∧ ∀ H : Hp, SqT K H a [.str "failed"]
  d__wall : Dfn K mg "_wall" st__wall L.f__wall ["k"]
  d_is_integer : Dfn K mg "is_integer" st_is_integer L.f_is_integer ["value"]
  d_is_at_least : Dfn K mg "is_at_least" st_is_at_least L.f_is_at_least ["value", "least"]
  d_is_within : Dfn K mg "is_within" st_is_within L.f_is_within ["value", "least", "most"]
  d_is_breaker : Dfn K mg "is_breaker" st_is_breaker L.f_is_breaker ["value"]
  d_check_breakers : Dfn K mg "check_breakers" st_check_breakers L.f_check_breakers ["breakers", "part"]
  d_check_step : Dfn K mg "check_step" st_check_step L.f_check_step ["step"]
  d_request_time : Dfn K mg "request_time" st_request_time L.f_request_time ["row", "number"]
  d_closed_states : Dfn K mg "closed_states" st_closed_states L.f_closed_states ["number"]
  d_passes : Dfn K mg "passes" st_passes L.f_passes ["breaker", "state", "time"]
  d_state_behind : Dfn K mg "state_behind" st_state_behind L.f_state_behind ["breaker", "state", "time", "succeeded"]
  d_sent : Dfn K mg "sent" st_sent L.f_sent ["breakers", "states", "time", "up"]
  d_is_word : Dfn K mg "is_word" st_is_word L.f_is_word ["value"]
  d_check_words : Dfn K mg "check_words" st_check_words L.f_check_words ["log"]
  d_played : Dfn K mg "played" st_played L.f_played ["row", "log"]
  d_replay : Dfn K mg "replay" st_replay L.f_replay ["row", "log"]
  d__law_cell_at : Dfn K mg "_law_cell_at" st__law_cell_at L.f__law_cell_at ["_law_script", "_law_place"]
  d__law_source_of : Dfn K mg "_law_source_of" st__law_source_of L.f__law_source_of ["_law_cell"]
  d__law_draw : Dfn K mg "_law_draw" st__law_draw L.f__law_draw ["_law_source", "_law_bound"]
  d__law_choice : Dfn K mg "_law_choice" st__law_choice L.f__law_choice ["_law_source", "_law_options"]
  d__law_specs : Dfn K mg "_law_specs" st__law_specs L.f__law_specs ["_law_source", "_law_most", "_law_far"]
  d__law_words : Dfn K mg "_law_words" st__law_words L.f__law_words ["_law_source", "_law_most"]
  d__law_error : Dfn K mg "_law_error" st__law_error L.f__law_error ["_law_ask"]
  d__law_calls_right : DfnT K mg "_law_calls_right" st__law_calls_right L.f__law_calls_right L.k__law_calls_right ["_law_game"]
  nt__law_calls_right_law : L.t__law_calls_right ≠ L.t_law
  gc_Row : mg "Row" = some (.ref L.c_Row)
  cf_Row : CF K L.c_Row
  mk_Row : Mk K L.c_Row L.i_Row
  nf_Row_breakers : NoAttr K L.c_Row "breakers"
  nf_Row_step : NoAttr K L.c_Row "step"
  nf_Row_phase : NoAttr K L.c_Row "phase"
  in_Row : ∃ fd, FunD K "__init__" "Row.__init__" (defArgs st_Row_init) (defBody st_Row_init) (defScope st_Row_init) [] [("phase", .int 0)] L.i_Row fd
  mm_Row_breaker_list : Mth K L.c_Row "breaker_list" "Row.breaker_list" st_Row_breaker_list L.m_Row_breaker_list ["self"]
  mm_Row_step_length : Mth K L.c_Row "step_length" "Row.step_length" st_Row_step_length L.m_Row_step_length ["self"]
  mm_Row_phase_time : Mth K L.c_Row "phase_time" "Row.phase_time" st_Row_phase_time L.m_Row_phase_time ["self"]
  mm_Row_len : Mth K L.c_Row "__len__" "Row.__len__" st_Row_len L.m_Row_len ["self"]
  mm_Row_getitem : Mth K L.c_Row "__getitem__" "Row.__getitem__" st_Row_getitem L.m_Row_getitem ["self", "at"]
  mm_Row_contains : Mth K L.c_Row "__contains__" "Row.__contains__" st_Row_contains L.m_Row_contains ["self", "x"]
  mm_Row_add : Mth K L.c_Row "__add__" "Row.__add__" st_Row_add L.m_Row_add ["self", "other"]
  mm_Row_eq : Mth K L.c_Row "__eq__" "Row.__eq__" st_Row_eq L.m_Row_eq ["self", "other"]
  gc_Playing : mg "Playing" = some (.ref L.c_Playing)
  cf_Playing : CF K L.c_Playing
  mk_Playing : Mk K L.c_Playing L.i_Playing
  nf_Playing_row : NoAttr K L.c_Playing "row"
  nf_Playing_words : NoAttr K L.c_Playing "words"
  nf_Playing_history : NoAttr K L.c_Playing "history"
  in_Playing : ∃ fd, Fun K "__init__" "Playing.__init__" st_Playing_init L.i_Playing fd ∧ Binds K fd ["self", "row"] []
  mm_Playing_base_row : Mth K L.c_Playing "base_row" "Playing.base_row" st_Playing_base_row L.m_Playing_base_row ["self"]
  mm_Playing_next_request : Mth K L.c_Playing "next_request" "Playing.next_request" st_Playing_next_request L.m_Playing_next_request ["self"]
  mm_Playing_request : Mth K L.c_Playing "request" "Playing.request" st_Playing_request L.m_Playing_request ["self", "word"]
  mm_Playing_state_list : Mth K L.c_Playing "state_list" "Playing.state_list" st_Playing_state_list L.m_Playing_state_list ["self"]
  mm_Playing_is_whole : Mth K L.c_Playing "is_whole" "Playing.is_whole" st_Playing_is_whole L.m_Playing_is_whole ["self"]
  mm_Playing_log : Mth K L.c_Playing "log" "Playing.log" st_Playing_log L.m_Playing_log ["self"]
  mm_Playing_undo : Mth K L.c_Playing "undo" "Playing.undo" st_Playing_undo L.m_Playing_undo ["self", "count"]
  mm_Playing_eq : Mth K L.c_Playing "__eq__" "Playing.__eq__" st_Playing_eq L.m_Playing_eq ["self", "other"]
  ge_BreakerError : mg "BreakerError" = some (.ref L.e_BreakerError)
  xe_BreakerError : L2.XfC K L.e_BreakerError
  te_BreakerError : PySem.W.typeIn K (.ref L.e_BreakerError) = some (.type "type")
  ge_InvalidRow : mg "InvalidRow" = some (.ref L.e_InvalidRow)
  xe_InvalidRow : L2.XfC K L.e_InvalidRow
  te_InvalidRow : PySem.W.typeIn K (.ref L.e_InvalidRow) = some (.type "type")
  ge_InvalidIndex : mg "InvalidIndex" = some (.ref L.e_InvalidIndex)
  xe_InvalidIndex : L2.XfC K L.e_InvalidIndex
  te_InvalidIndex : PySem.W.typeIn K (.ref L.e_InvalidIndex) = some (.type "type")
  ge_InvalidBound : mg "InvalidBound" = some (.ref L.e_InvalidBound)
  xe_InvalidBound : L2.XfC K L.e_InvalidBound
  te_InvalidBound : PySem.W.typeIn K (.ref L.e_InvalidBound) = some (.type "type")
  ge_InvalidLog : mg "InvalidLog" = some (.ref L.e_InvalidLog)
  xe_InvalidLog : L2.XfC K L.e_InvalidLog
  te_InvalidLog : PySem.W.typeIn K (.ref L.e_InvalidLog) = some (.type "type")
  ge_InvalidCall : mg "InvalidCall" = some (.ref L.e_InvalidCall)
  xe_InvalidCall : L2.XfC K L.e_InvalidCall
  te_InvalidCall : PySem.W.typeIn K (.ref L.e_InvalidCall) = some (.type "type")
  ge_LimitExceeded : mg "LimitExceeded" = some (.ref L.e_LimitExceeded)
  xe_LimitExceeded : L2.XfC K L.e_LimitExceeded
  te_LimitExceeded : PySem.W.typeIn K (.ref L.e_LimitExceeded) = some (.type "type")
  ae_InvalidRow : AeC K L.e_InvalidRow
  hi_InvalidRow : PySem.W.findIn K (.ref L.e_InvalidRow) "__init__" = some (some (.ref L.i_InvalidRow))
  ti_InvalidRow : PySem.W.typeIn K (.ref L.i_InvalidRow) = some (.type "function")
  in_InvalidRow : ∃ fd, Fun K "__init__" "InvalidRow.__init__" st_InvalidRow_init L.i_InvalidRow fd ∧ Binds K fd ["self", "part", "at"] []
  ne_InvalidRow_part : PySem.W.findIn K (.ref L.e_InvalidRow) "part" = some none
  ne_InvalidRow_at : PySem.W.findIn K (.ref L.e_InvalidRow) "at" = some none
  ne_InvalidRow_index : PySem.W.findIn K (.ref L.e_InvalidRow) "index" = some none
  ne_InvalidRow_call : PySem.W.findIn K (.ref L.e_InvalidRow) "call" = some none
  ne_InvalidRow_limit : PySem.W.findIn K (.ref L.e_InvalidRow) "limit" = some none
  is_InvalidRow : IsC K L.e_InvalidRow
  se_InvalidRow_BreakerError : PySem.W.subIn K (.ref L.e_InvalidRow) (.ref L.e_BreakerError) = some true
  se_InvalidRow_InvalidRow : PySem.W.subIn K (.ref L.e_InvalidRow) (.ref L.e_InvalidRow) = some true
  se_InvalidRow_InvalidIndex : PySem.W.subIn K (.ref L.e_InvalidRow) (.ref L.e_InvalidIndex) = some false
  se_InvalidRow_InvalidBound : PySem.W.subIn K (.ref L.e_InvalidRow) (.ref L.e_InvalidBound) = some false
  se_InvalidRow_InvalidLog : PySem.W.subIn K (.ref L.e_InvalidRow) (.ref L.e_InvalidLog) = some false
  se_InvalidRow_InvalidCall : PySem.W.subIn K (.ref L.e_InvalidRow) (.ref L.e_InvalidCall) = some false
  se_InvalidRow_LimitExceeded : PySem.W.subIn K (.ref L.e_InvalidRow) (.ref L.e_LimitExceeded) = some false
  sa_InvalidRow : PySem.W.subIn K (.ref L.e_InvalidRow) (.type "ArithmeticError") = some true
  ae_InvalidBound : AeC K L.e_InvalidBound
  hi_InvalidBound : PySem.W.findIn K (.ref L.e_InvalidBound) "__init__" = some (some (.ref L.i_InvalidBound))
  ti_InvalidBound : PySem.W.typeIn K (.ref L.i_InvalidBound) = some (.type "function")
  in_InvalidBound : ∃ fd, Fun K "__init__" "InvalidBound.__init__" st_InvalidBound_init L.i_InvalidBound fd ∧ Binds K fd ["self", "part"] []
  ne_InvalidBound_part : PySem.W.findIn K (.ref L.e_InvalidBound) "part" = some none
  ne_InvalidBound_at : PySem.W.findIn K (.ref L.e_InvalidBound) "at" = some none
  ne_InvalidBound_index : PySem.W.findIn K (.ref L.e_InvalidBound) "index" = some none
  ne_InvalidBound_call : PySem.W.findIn K (.ref L.e_InvalidBound) "call" = some none
  ne_InvalidBound_limit : PySem.W.findIn K (.ref L.e_InvalidBound) "limit" = some none
  is_InvalidBound : IsC K L.e_InvalidBound
  se_InvalidBound_BreakerError : PySem.W.subIn K (.ref L.e_InvalidBound) (.ref L.e_BreakerError) = some true
  se_InvalidBound_InvalidRow : PySem.W.subIn K (.ref L.e_InvalidBound) (.ref L.e_InvalidRow) = some false
  se_InvalidBound_InvalidIndex : PySem.W.subIn K (.ref L.e_InvalidBound) (.ref L.e_InvalidIndex) = some false
  se_InvalidBound_InvalidBound : PySem.W.subIn K (.ref L.e_InvalidBound) (.ref L.e_InvalidBound) = some true
  se_InvalidBound_InvalidLog : PySem.W.subIn K (.ref L.e_InvalidBound) (.ref L.e_InvalidLog) = some false
  se_InvalidBound_InvalidCall : PySem.W.subIn K (.ref L.e_InvalidBound) (.ref L.e_InvalidCall) = some false
  se_InvalidBound_LimitExceeded : PySem.W.subIn K (.ref L.e_InvalidBound) (.ref L.e_LimitExceeded) = some false
  sa_InvalidBound : PySem.W.subIn K (.ref L.e_InvalidBound) (.type "ArithmeticError") = some true
  ae_InvalidCall : AeC K L.e_InvalidCall
  hi_InvalidCall : PySem.W.findIn K (.ref L.e_InvalidCall) "__init__" = some (some (.ref L.i_InvalidCall))
  ti_InvalidCall : PySem.W.typeIn K (.ref L.i_InvalidCall) = some (.type "function")
  in_InvalidCall : ∃ fd, Fun K "__init__" "InvalidCall.__init__" st_InvalidCall_init L.i_InvalidCall fd ∧ Binds K fd ["self", "call"] []
  ne_InvalidCall_part : PySem.W.findIn K (.ref L.e_InvalidCall) "part" = some none
  ne_InvalidCall_at : PySem.W.findIn K (.ref L.e_InvalidCall) "at" = some none
  ne_InvalidCall_index : PySem.W.findIn K (.ref L.e_InvalidCall) "index" = some none
  ne_InvalidCall_call : PySem.W.findIn K (.ref L.e_InvalidCall) "call" = some none
  ne_InvalidCall_limit : PySem.W.findIn K (.ref L.e_InvalidCall) "limit" = some none
  is_InvalidCall : IsC K L.e_InvalidCall
  se_InvalidCall_BreakerError : PySem.W.subIn K (.ref L.e_InvalidCall) (.ref L.e_BreakerError) = some true
  se_InvalidCall_InvalidRow : PySem.W.subIn K (.ref L.e_InvalidCall) (.ref L.e_InvalidRow) = some false
  se_InvalidCall_InvalidIndex : PySem.W.subIn K (.ref L.e_InvalidCall) (.ref L.e_InvalidIndex) = some false
  se_InvalidCall_InvalidBound : PySem.W.subIn K (.ref L.e_InvalidCall) (.ref L.e_InvalidBound) = some false
  se_InvalidCall_InvalidLog : PySem.W.subIn K (.ref L.e_InvalidCall) (.ref L.e_InvalidLog) = some false
  se_InvalidCall_InvalidCall : PySem.W.subIn K (.ref L.e_InvalidCall) (.ref L.e_InvalidCall) = some true
  se_InvalidCall_LimitExceeded : PySem.W.subIn K (.ref L.e_InvalidCall) (.ref L.e_LimitExceeded) = some false
  sa_InvalidCall : PySem.W.subIn K (.ref L.e_InvalidCall) (.type "ArithmeticError") = some true
  ae_LimitExceeded : AeC K L.e_LimitExceeded
  hi_LimitExceeded : PySem.W.findIn K (.ref L.e_LimitExceeded) "__init__" = some (some (.ref L.i_LimitExceeded))
  ti_LimitExceeded : PySem.W.typeIn K (.ref L.i_LimitExceeded) = some (.type "function")
  in_LimitExceeded : ∃ fd, Fun K "__init__" "LimitExceeded.__init__" st_LimitExceeded_init L.i_LimitExceeded fd ∧ Binds K fd ["self", "limit"] []
  ne_LimitExceeded_part : PySem.W.findIn K (.ref L.e_LimitExceeded) "part" = some none
  ne_LimitExceeded_at : PySem.W.findIn K (.ref L.e_LimitExceeded) "at" = some none
  ne_LimitExceeded_index : PySem.W.findIn K (.ref L.e_LimitExceeded) "index" = some none
  ne_LimitExceeded_call : PySem.W.findIn K (.ref L.e_LimitExceeded) "call" = some none
  ne_LimitExceeded_limit : PySem.W.findIn K (.ref L.e_LimitExceeded) "limit" = some none
  is_LimitExceeded : IsC K L.e_LimitExceeded
  se_LimitExceeded_BreakerError : PySem.W.subIn K (.ref L.e_LimitExceeded) (.ref L.e_BreakerError) = some true
  se_LimitExceeded_InvalidRow : PySem.W.subIn K (.ref L.e_LimitExceeded) (.ref L.e_InvalidRow) = some false
  se_LimitExceeded_InvalidIndex : PySem.W.subIn K (.ref L.e_LimitExceeded) (.ref L.e_InvalidIndex) = some false
  se_LimitExceeded_InvalidBound : PySem.W.subIn K (.ref L.e_LimitExceeded) (.ref L.e_InvalidBound) = some false
  se_LimitExceeded_InvalidLog : PySem.W.subIn K (.ref L.e_LimitExceeded) (.ref L.e_InvalidLog) = some false
  se_LimitExceeded_InvalidCall : PySem.W.subIn K (.ref L.e_LimitExceeded) (.ref L.e_InvalidCall) = some false
  se_LimitExceeded_LimitExceeded : PySem.W.subIn K (.ref L.e_LimitExceeded) (.ref L.e_LimitExceeded) = some true
  sa_LimitExceeded : PySem.W.subIn K (.ref L.e_LimitExceeded) (.type "ArithmeticError") = some true
  mo_Row_Playing : PySem.W.mroIn K L.c_Row (.ref L.c_Playing) = some false
  mo_Playing_Row : PySem.W.mroIn K L.c_Playing (.ref L.c_Row) = some false
/-- the code objects of the defs in which lambdas are made, and their tables -/
structure TX (base : Heap) (mg : Str → Option Value) (L : LA) : Prop where
  b__law_calls_right : LamX.TabB base mg L.k__law_calls_right L.t__law_calls_right
  b_law : LamX.TabB base mg L.k_law L.t_law
def LT (L : LA) : List (Addr × Str) := [(L.t__law_calls_right, (("_law_calls_right" : Str) ++ ".<locals>.") ++ "<lambda>"), (L.t_law, (("law" : Str) ++ ".<locals>.") ++ "<lambda>")]

/-- a comprehension over zip of two lists -/
theorem lc_zip {K : PySem.W.Frag} {a b : Addr} {xs ys : List V} {g : TG} {tt : TT} {te : TE} {vs : List Nat} {σ : L2.St} {H1 : Hp} {D : Addr} {Qd : Hp → Prop} (hlen : ys.length ≤ xs.length) (Pv : Nat → Hp → Prop) (h0 : Pv 0 (upd H1 D (.lst []))) (hl : ∀ i H, Pv i H → SqL K H a xs ∧ SqL K H b ys)
    (hs : ∀ (i : Nat) (x y : V) (T : Addr) (H : Hp), xs[i]? = some x → ys[i]? = some y → Pv i H → H T = none → g (.ref T) (wipe σ vs) (upd H T (.tup [x, y])) fun σ2 H2 => wipe σ2 vs = wipe σ vs ∧ tt σ2 H2 fun b H3 =>
      if b = true then te σ2 H3 fun y H4 => ∃ acc, H4 D = some (.lst acc) ∧ acc.length < sizeLine ∧ Pv (i + 1) (upd H4 D (.lst (acc ++ [y]))) else Pv (i + 1) H3) (hd : ∀ H, Pv ys.length H → Qd H) :
    ∃ W : Nat → Nat → Hp → Prop, (∃ m, W 0 m (upd H1 D (.lst []))) ∧ ∀ i m H, W i m H → ((Itz K a b).stop i H ∧ Qd H) ∨ ((Itz K a b).go i H ∧ ∃ Nx : Hp → Prop, (∀ H', Nx H' → ∃ m', m' < m ∧ W (i + 1) m' H') ∧ ∀ x H', (Itz K a b).yld i H x H' → g x (wipe σ vs) H' fun σ2 H2 => wipe σ2 vs = wipe σ vs ∧ tt σ2 H2 fun b H3 =>
        if b = true then te σ2 H3 fun y H4 => ∃ acc, H4 D = some (.lst acc) ∧ acc.length < sizeLine ∧ Nx (upd H4 D (.lst (acc ++ [y]))) else Nx H3) := by
  refine ⟨fun i m H => m = ys.length - i ∧ i ≤ ys.length ∧ Pv i H, ⟨ys.length, by omega, Nat.zero_le _, h0⟩, ?_⟩
  rintro i m H ⟨rfl, hi, p⟩
  obtain ⟨qx, qy⟩ := hl i H p
  by_cases hlt : i < ys.length
  · have hx : xs[i]? = some xs[i] := List.getElem?_eq_getElem (by omega)
    have hy : ys[i]? = some ys[i] := List.getElem?_eq_getElem hlt
    refine .inr ⟨⟨xs, ys, _, _, qx, qy, hx, hy⟩, Pv (i + 1), fun H' p' => ⟨ys.length - (i + 1), by omega, rfl, hlt, p'⟩, fun v H' y => ?_⟩
    obtain ⟨T, x', y', rfl, hT, rfl, f1, f2⟩ := y
    exact hs i x' y' T H (f1 xs qx) (f2 ys qy) p hT
  · have e : i = ys.length := by omega
    subst e
    exact .inl ⟨⟨xs, ys, qx, qy, .inr (Nat.le_refl _)⟩, hd H p⟩
/-- an attribute inside a comprehension -/
theorem pe_fldK {X : Cx} {K : PySem.W.Frag} {e : Expr} {f : Str} {pos : Pos} {ta : TE} (hK : X.K = K) (he : PE X e ta) (hb : attributeBase e f X.env (eval e X.env) = eval e X.env) : PE X (.Attribute e f pos) (tFld K ta f) := by
  subst hK
  exact pe_fld he hb
theorem putF_len (f : Str) (v : V) (fs : List (Str × V)) {n : Nat} (h : fs.length ≤ n) : (putF f v fs).length ≤ n + 1 := Nat.le_trans (length_putF f v fs) (Nat.succ_le_succ h)
def spRup : Sp := fun vs H Q _ => ∃ v u : Int, vs = [.int v, .int u] ∧ 0 < u ∧ u.natAbs.log2 < 9000 ∧ CMulW (stepsUp v u) u ∧ Q (.int (stepsUp v u * u)) H
/-! ### the small defs -/
section
variable {P : Program} {w : World} {K : PySem.W.Frag} {mg : Str → Option Value} {base : Heap} {L : LA}
abbrev N_isinteger : List Str := ["value"]
theorem sc_isinteger : FnScope N_isinteger ["value"] (defScope st_is_integer) := ⟨rfl, rfl, rfl, by decide +kernel, rfl, by decide +kernel, by decide +kernel⟩
theorem fn_isinteger (T : LX K mg L) {fd : FuncData} (F : Fun K "is_integer" "is_integer" st_is_integer L.f_is_integer fd) : FnOk P w K mg base CX0 1 L.f_is_integer fd ["value"] (spIsInt) := by
  have nd := sc_isinteger.nd
  refine F.ok sc_isinteger (fun vs H Q E h => ?_) (fun cdv A outer S H vs Q E hr h => ?_)
  · obtain ⟨v, n, rfl, _⟩ := h
    rfl
  · obtain ⟨v, n, rfl, hv, k⟩ := h
    refine ⟨_, (pss_one (ps_ret (pe_and (pe_callB call_isi (by rfl) T.b_isinstance (by decide +kernel) (pa_cons (pv 0) (pa_cons (pe_bltn (by rfl) T.b_int (by decide +kernel : bootBuiltins "int" = some (.type "int")) (v := .ty "int") rfl) pa_nil))) (pe_one (pe_not (pe_callB call_isi (by rfl) T.b_isinstance (by decide +kernel) (pa_cons (pv 0) (pa_cons (pe_bltn (by rfl) T.b_bool (by decide +kernel : bootBuiltins "bool" = some (.type "bool")) (v := .ty "bool") rfl) pa_nil)))))))), ?_⟩
    refine ⟨_, rfl, v, .ty "int", _, _, _, rfl, .ty "int", hv.ty, hv.kit "int" _ (.inl ⟨rfl, rfl⟩), _, rfl, ?_⟩
    refine ite2 (fun c => ?_) (fun c => ?_)
    · refine ⟨_, rfl, v, .ty "bool", _, _, _, rfl, .ty "bool", hv.ty, hv.kit "bool" _ (.inr ⟨by decide, by decide, rfl⟩), _, rfl, ?_⟩
      cases hv <;> first | exact k | (exact absurd c (by decide))
    · cases hv <;> first | exact k | (exact absurd (by decide) c)
theorem ok_isinteger (T : LX K mg L) : Cal P w K mg base "is_integer" 1 L.f_is_integer ["value"] (spIsInt) := T.d_is_integer.cal fun fd F => fn_isinteger T F
abbrev N_isatleast : List Str := ["value", "least"]
theorem sc_isatleast : FnScope N_isatleast ["value", "least"] (defScope st_is_at_least) := ⟨rfl, rfl, rfl, by decide +kernel, rfl, by decide +kernel, by decide +kernel⟩
theorem fn_isatleast (T : LX K mg L) {fd : FuncData} (F : Fun K "is_at_least" "is_at_least" st_is_at_least L.f_is_at_least fd) : FnOk P w K mg base CX0 2 L.f_is_at_least fd ["value", "least"] (spAtL) := by
  have G_isinteger := ok_isinteger (P := P) (w := w) (base := base) T
  have nd := sc_isatleast.nd
  refine F.ok sc_isatleast (fun vs H Q E h => ?_) (fun cdv A outer S H vs Q E hr h => ?_)
  · obtain ⟨v, n, l, rfl, _⟩ := h
    rfl
  · obtain ⟨v, n, l, rfl, hv, k⟩ := h
    refine ⟨_, (pss_one (ps_ret (pe_and (pe_c G_isinteger (hr.mono (by decide)) rfl (pa_cons (pv 0) pa_nil)) (pe_one (pe_cmpR op_ge (pv 0) (pv 1) (nomark _)))))), ?_⟩
    refine ⟨_, rfl, v, n, rfl, hv, _, rfl, ?_⟩
    cases v with
    | int i => exact iteT ⟨_, rfl, _, rfl, _, _, rfl, rfl, k⟩
    | _ => exact iteF k
theorem ok_isatleast (T : LX K mg L) : Cal P w K mg base "is_at_least" 2 L.f_is_at_least ["value", "least"] (spAtL) := T.d_is_at_least.cal fun fd F => fn_isatleast T F
abbrev N_iswithin : List Str := ["value", "least", "most"]
theorem sc_iswithin : FnScope N_iswithin ["value", "least", "most"] (defScope st_is_within) := ⟨rfl, rfl, rfl, by decide +kernel, rfl, by decide +kernel, by decide +kernel⟩
theorem fn_iswithin (T : LX K mg L) {fd : FuncData} (F : Fun K "is_within" "is_within" st_is_within L.f_is_within fd) : FnOk P w K mg base CX0 2 L.f_is_within fd ["value", "least", "most"] (spWithin) := by
  have G_isinteger := ok_isinteger (P := P) (w := w) (base := base) T
  have nd := sc_iswithin.nd
  refine F.ok sc_iswithin (fun vs H Q E h => ?_) (fun cdv A outer S H vs Q E hr h => ?_)
  · obtain ⟨v, n, l, m, rfl, _⟩ := h
    rfl
  · obtain ⟨v, n, l, m, rfl, hv, k⟩ := h
    refine ⟨_, (pss_one (ps_ret (pe_and (pe_c G_isinteger (hr.mono (by decide)) rfl (pa_cons (pv 0) pa_nil)) (pe_one (pe_chain op_le op_le (pv 1) (pv 0) (pv 2)))))), ?_⟩
    refine ⟨_, rfl, v, n, rfl, hv, _, rfl, ?_⟩
    cases v with
    | int i =>
      refine iteT ⟨_, rfl, _, rfl, _, _, rfl, rfl, _, rfl, ?_⟩
      refine ite2 (fun c => ?_) (fun c => ?_)
      · refine ⟨_, rfl, _, _, rfl, rfl, ?_⟩
        have c' : decide (l ≤ i) = true := c
        have k' : Q (.bl (decide (l ≤ i) && decide (i ≤ m))) H := k
        rw [c', Bool.true_and] at k'
        exact k'
      · have c' : decide (l ≤ i) = false := by simpa using c
        have k' : Q (.bl (decide (l ≤ i) && decide (i ≤ m))) H := k
        rw [c', Bool.false_and] at k'
        exact k'
    | _ => exact iteF k
theorem ok_iswithin (T : LX K mg L) : Cal P w K mg base "is_within" 2 L.f_is_within ["value", "least", "most"] (spWithin) := T.d_is_within.cal fun fd F => fn_iswithin T F
end
/-! ### trains as data -/
abbrev Trn := Int × Int × Option Int
def OkTr (t : Trn) : Prop := 0 ≤ t.1 ∧ 1 ≤ t.2.1 ∧ ∀ c, t.2.2 = some c → 1 ≤ c
/-- all times of the first are before the second -/
def Lt (t u : Trn) : Prop := ∃ c, t.2.2 = some c ∧ t.1 + (c - 1) * t.2.1 < u.1
def Srt (ts : List Trn) : Prop := (∀ t ∈ ts, OkTr t) ∧ ts.Pairwise Lt
def minO (n : Int) : Option Int → Int
  | none => n
  | some c => if c < n then c else n
/-- how many times of a train are before x -/
def nbT (t : Trn) (x : Int) : Int := minO (stepsUp (x - t.1) t.2.1) t.2.2
def NB : List Trn → Int → Int
  | [], _ => 0
  | t :: ts, x => nbT t x + NB ts x
def At : List Trn → Int → Option Int
  | [], _ => none
  | t :: ts, i => match t.2.2 with
    | none => some (t.1 + i * t.2.1)
    | some c => if i < c then some (t.1 + i * t.2.1) else At ts (i - c)
def addO (c : Int) : Option Int → Option Int
  | none => none
  | some n => some (c + n)
def Tot : List Trn → Option Int
  | [] => some 0
  | t :: ts => match t.2.2 with
    | none => none
    | some c => addO c (Tot ts)
/-- d / s, rounded up -/
def cl (d s : Int) : Int := -(-d / s)
theorem stepsUp_cl (d s : Int) : stepsUp d s = if cl d s > 0 then cl d s else 0 := rfl
theorem cl_sub (d s c : Int) (hs : 0 < s) : cl (d - c * s) s = cl d s - c := by
  unfold cl
  have e : -(d - c * s) = -d + c * s := by omega
  rw [e, Int.add_mul_ediv_right _ _ (show s ≠ 0 by omega)]
  omega
theorem cl_le {d s n : Int} (hs : 0 < s) : cl d s ≤ n ↔ d ≤ n * s := by
  unfold cl
  have h : -n ≤ -d / s ↔ -n * s ≤ -d := Int.le_ediv_iff_mul_le hs
  rw [Int.neg_mul] at h
  omega
theorem cl_gt {d s n : Int} (hs : 0 < s) : n < cl d s ↔ n * s < d := by
  have h := cl_le (d := d) (s := s) (n := n) hs
  omega
def subO (k : Option Int) (c : Int) : Option Int := match k with
  | none => none
  | some n => some (n - c)
/-- a train is its first c times, and the others -/
theorem nbT_split {s p c : Int} {k : Option Int} (hp : 0 < p) (hc : 0 ≤ c) (hk : ∀ n, k = some n → c ≤ n) (x : Int) : nbT (s, p, k) x = nbT (s, p, some c) x + nbT (s + c * p, p, subO k c) x := by
  have e : x - (s + c * p) = x - s - c * p := by omega
  show minO (stepsUp (x - s) p) k = minO (stepsUp (x - s) p) (some c) + minO (stepsUp (x - (s + c * p)) p) (subO k c)
  rw [e, stepsUp_cl, stepsUp_cl, cl_sub _ _ _ hp]
  cases k with
  | none =>
    show (if cl (x - s) p > 0 then cl (x - s) p else 0) = (if c < (if cl (x - s) p > 0 then cl (x - s) p else 0) then c else (if cl (x - s) p > 0 then cl (x - s) p else 0)) + (if cl (x - s) p - c > 0 then cl (x - s) p - c else 0)
    split <;> split <;> split <;> omega
  | some n =>
    have := hk n rfl
    show (if n < (if cl (x - s) p > 0 then cl (x - s) p else 0) then n else (if cl (x - s) p > 0 then cl (x - s) p else 0)) = (if c < (if cl (x - s) p > 0 then cl (x - s) p else 0) then c else (if cl (x - s) p > 0 then cl (x - s) p else 0)) + (if n - c < (if cl (x - s) p - c > 0 then cl (x - s) p - c else 0) then n - c else (if cl (x - s) p - c > 0 then cl (x - s) p - c else 0))
    split <;> split <;> split <;> split <;> (try split) <;> omega
/-- the step of a single time is nothing -/
theorem nbT_one {s p q : Int} (hp : 0 < p) (hq : 0 < q) (x : Int) : nbT (s, p, some 1) x = nbT (s, q, some 1) x := by
  have one : ∀ p : Int, 0 < p → nbT (s, p, some 1) x = if s < x then 1 else 0 := fun p hp => by
    show (if (1 : Int) < (if cl (x - s) p > 0 then cl (x - s) p else 0) then (1 : Int) else (if cl (x - s) p > 0 then cl (x - s) p else 0)) = _
    have h0 : 0 < cl (x - s) p ↔ 0 * p < x - s := cl_gt hp
    rw [Int.zero_mul] at h0
    split <;> split <;> split <;> omega
  rw [one p hp, one q hq]
theorem NB_app : ∀ (ts us : List Trn) (x : Int), NB (ts ++ us) x = NB ts x + NB us x
  | [], us, x => by show NB us x = 0 + NB us x; omega
  | t :: ts, us, x => by
    show nbT t x + NB (ts ++ us) x = nbT t x + NB ts x + NB us x
    rw [NB_app ts us x]
    omega
theorem addO_addO (a b : Int) (k : Option Int) : addO a (addO b k) = addO (a + b) k := by
  cases k with
  | none => rfl
  | some n => show some (a + (b + n)) = some (a + b + n); rw [Int.add_assoc]
theorem nbT_nn {t : Trn} (h : OkTr t) (x : Int) : 0 ≤ nbT t x := by
  obtain ⟨s, p, k⟩ := t
  show 0 ≤ minO (stepsUp (x - s) p) k
  rw [stepsUp_cl]
  cases k with
  | none => show 0 ≤ if cl (x - s) p > 0 then cl (x - s) p else 0; split <;> omega
  | some c =>
    have := h.2.2 c rfl
    show 0 ≤ if c < (if cl (x - s) p > 0 then cl (x - s) p else 0) then c else (if cl (x - s) p > 0 then cl (x - s) p else 0)
    split <;> (try split) <;> omega
theorem nbT_zero {t : Trn} (h : OkTr t) {x : Int} (hx : x ≤ t.1) : nbT t x = 0 := by
  obtain ⟨s, p, k⟩ := t
  have hp : 0 < p := by
    have h2 : 1 ≤ p := h.2.1
    omega
  have h1 : cl (x - s) p ≤ 0 := (cl_le hp).mpr (by
    have h2 : x ≤ s := hx
    omega)
  show minO (stepsUp (x - s) p) k = 0
  rw [stepsUp_cl, if_neg (by omega)]
  cases k with
  | none => rfl
  | some c =>
    have := h.2.2 c rfl
    show (if c < 0 then c else 0) = 0
    rw [if_neg (by omega)]
theorem nbT_all {t : Trn} (h : OkTr t) {x c : Int} (hc : t.2.2 = some c) (hx : t.1 + (c - 1) * t.2.1 < x) : nbT t x = c := by
  obtain ⟨s, p, k⟩ := t
  have hp : 0 < p := by
    have h2 : 1 ≤ p := h.2.1
    omega
  have h0 : k = some c := hc
  subst h0
  have h1 : c - 1 < cl (x - s) p := (cl_gt hp).mpr (by
    have h2 : s + (c - 1) * p < x := hx
    omega)
  have := h.2.2 c rfl
  show (if c < stepsUp (x - s) p then c else stepsUp (x - s) p) = c
  rw [stepsUp_cl]
  split <;> (try split at *) <;> omega
theorem NB_nn {ts : List Trn} (h : ∀ t ∈ ts, OkTr t) (x : Int) : 0 ≤ NB ts x := by
  induction ts with
  | nil => exact Int.le_refl _
  | cons t ts ih =>
    have h1 := nbT_nn (h t (List.mem_cons_self ..)) x
    have h2 := ih fun u hu => h u (List.mem_cons_of_mem _ hu)
    show 0 ≤ nbT t x + NB ts x
    omega
theorem NB_zero {ts : List Trn} (h : ∀ t ∈ ts, OkTr t) {x : Int} (hx : ∀ t ∈ ts, x ≤ t.1) : NB ts x = 0 := by
  induction ts with
  | nil => rfl
  | cons t ts ih =>
    show nbT t x + NB ts x = 0
    rw [nbT_zero (h t (List.mem_cons_self ..)) (hx t (List.mem_cons_self ..)), ih (fun u hu => h u (List.mem_cons_of_mem _ hu)) fun u hu => hx u (List.mem_cons_of_mem _ hu)]
    rfl
theorem Srt.tail {t : Trn} {ts : List Trn} (h : Srt (t :: ts)) : Srt ts := ⟨fun u hu => h.1 u (List.mem_cons_of_mem _ hu), (List.pairwise_cons.mp h.2).2⟩
theorem Srt.head {t : Trn} {ts : List Trn} (h : Srt (t :: ts)) : OkTr t := h.1 t (List.mem_cons_self ..)
theorem Srt.lt {t : Trn} {ts : List Trn} (h : Srt (t :: ts)) : ∀ u ∈ ts, Lt t u := (List.pairwise_cons.mp h.2).1
theorem lt_start {t u : Trn} (h : OkTr t) (l : Lt t u) : t.1 < u.1 := by
  obtain ⟨c, e, q⟩ := l
  have hc := h.2.2 c e
  have : 0 ≤ (c - 1) * t.2.1 := Int.mul_nonneg (by omega) (by have := h.2.1; omega)
  omega
/-! what is before x, and which time is the i-th -/
theorem nbT_le {t : Trn} {x c : Int} (e : t.2.2 = some c) : nbT t x ≤ c := by
  unfold nbT
  rw [e]
  show (if c < stepsUp (x - t.1) t.2.1 then c else stepsUp (x - t.1) t.2.1) ≤ c
  split <;> omega
/-- the times before x are those with an index below nbT -/
theorem nbT_lt {t : Trn} (h : OkTr t) {x i : Int} (i0 : 0 ≤ i) (hi : ∀ c, t.2.2 = some c → i < c) : i < nbT t x ↔ t.1 + i * t.2.1 < x := by
  obtain ⟨s, p, k⟩ := t
  have hp : 0 < p := by
    have h2 : 1 ≤ p := h.2.1
    omega
  have h1 : i < cl (x - s) p ↔ i * p < x - s := cl_gt hp
  have e : (s + i * p < x) ↔ i * p < x - s := by omega
  show i < minO (stepsUp (x - s) p) k ↔ s + i * p < x
  rw [stepsUp_cl, e, ← h1]
  cases k with
  | none =>
    show i < (if cl (x - s) p > 0 then cl (x - s) p else 0) ↔ _
    split <;> omega
  | some c =>
    have := hi c rfl
    show i < (if c < (if cl (x - s) p > 0 then cl (x - s) p else 0) then c else (if cl (x - s) p > 0 then cl (x - s) p else 0)) ↔ _
    split <;> (try split) <;> (try split at *) <;> omega
theorem At_lt : ∀ {ts : List Trn}, Srt ts → ∀ {i y : Int}, 0 ≤ i → At ts i = some y → ∀ x, i < NB ts x ↔ y < x
  | [], _, i, y, _, e, _ => by cases e
  | t :: ts, h, i, y, i0, e, x => by
    have ht := h.head
    have hs := h.tail
    have nn := NB_nn hs.1 x
    cases hk : t.2.2 with
    | none =>
      have e' : At (t :: ts) i = some (t.1 + i * t.2.1) := by
        show (match t.2.2 with | none => some (t.1 + i * t.2.1) | some c => if i < c then some (t.1 + i * t.2.1) else At ts (i - c)) = _
        rw [hk]
      rw [e'] at e
      have ey := Option.some.inj e
      subst ey
      have nt : ts = [] := by
        cases ts with
        | nil => rfl
        | cons u us =>
          obtain ⟨c, hc, _⟩ := h.lt u (List.mem_cons_self ..)
          rw [hk] at hc
          cases hc
      subst nt
      have := nbT_lt ht (x := x) i0 (fun c hc => by rw [hk] at hc; cases hc)
      show i < nbT t x + 0 ↔ _
      rw [Int.add_zero]
      exact this
    | some c =>
      have e' : At (t :: ts) i = if i < c then some (t.1 + i * t.2.1) else At ts (i - c) := by
        show (match t.2.2 with | none => some (t.1 + i * t.2.1) | some c => if i < c then some (t.1 + i * t.2.1) else At ts (i - c)) = _
        rw [hk]
      rw [e'] at e
      show i < nbT t x + NB ts x ↔ y < x
      by_cases hi : i < c
      · rw [if_pos hi] at e
        have ey := Option.some.inj e
        have h1 := nbT_lt ht (x := x) i0 (fun c' hc => by rw [hk] at hc; cases hc; exact hi)
        by_cases hl : t.1 + (c - 1) * t.2.1 < x
        · have h2 := nbT_all ht hk hl
          omega
        · have h3 : NB ts x = 0 := NB_zero hs.1 fun u hu => by
            obtain ⟨c', hc, q⟩ := h.lt u hu
            rw [hk] at hc
            cases hc
            omega
          omega
      · rw [if_neg hi] at e
        have ih := At_lt hs (i := i - c) (by omega) e x
        have h2 := nbT_le (x := x) hk
        by_cases hl : t.1 + (c - 1) * t.2.1 < x
        · have h3 := nbT_all ht hk hl
          omega
        · have h3 : NB ts x = 0 := NB_zero hs.1 fun u hu => by
            obtain ⟨c', hc, q⟩ := h.lt u hu
            rw [hk] at hc
            cases hc
            omega
          omega
theorem tot_nn : ∀ {ts : List Trn}, (∀ t ∈ ts, OkTr t) → ∀ n, Tot ts = some n → 0 ≤ n
  | [], _, n, e => by cases e; exact Int.le_refl _
  | t :: ts, h, n, e => by
    cases hk : t.2.2 with
    | none =>
      have e2 : Tot (t :: ts) = none := by
        show (match t.2.2 with | none => none | some c => addO c (Tot ts)) = _
        rw [hk]
      rw [e2] at e
      cases e
    | some c =>
      have e2 : Tot (t :: ts) = addO c (Tot ts) := by
        show (match t.2.2 with | none => none | some c => addO c (Tot ts)) = _
        rw [hk]
      rw [e2] at e
      cases ht : Tot ts with
      | none => rw [ht] at e; cases e
      | some m =>
        rw [ht] at e
        have z' : c + m = n := Option.some.inj e
        have := tot_nn (fun u hu => h u (List.mem_cons_of_mem _ hu)) m ht
        have := (h t (List.mem_cons_self ..)).2.2 c hk
        omega
theorem At_none : ∀ {ts : List Trn}, (∀ t ∈ ts, OkTr t) → ∀ {i : Int}, 0 ≤ i → (At ts i = none ↔ ∃ n, Tot ts = some n ∧ n ≤ i)
  | [], _, i, i0 => ⟨fun _ => ⟨0, rfl, i0⟩, fun _ => rfl⟩
  | t :: ts, h, i, i0 => by
    cases hk : t.2.2 with
    | none =>
      have e' : At (t :: ts) i = some (t.1 + i * t.2.1) := by
        show (match t.2.2 with | none => some (t.1 + i * t.2.1) | some c => if i < c then some (t.1 + i * t.2.1) else At ts (i - c)) = _
        rw [hk]
      have e2 : Tot (t :: ts) = none := by
        show (match t.2.2 with | none => none | some c => addO c (Tot ts)) = _
        rw [hk]
      rw [e', e2]
      exact ⟨fun z => (by cases z), fun ⟨n, z, _⟩ => (by cases z)⟩
    | some c =>
      have e' : At (t :: ts) i = if i < c then some (t.1 + i * t.2.1) else At ts (i - c) := by
        show (match t.2.2 with | none => some (t.1 + i * t.2.1) | some c => if i < c then some (t.1 + i * t.2.1) else At ts (i - c)) = _
        rw [hk]
      have e2 : Tot (t :: ts) = addO c (Tot ts) := by
        show (match t.2.2 with | none => none | some c => addO c (Tot ts)) = _
        rw [hk]
      have tn : ∀ n, Tot ts = some n → 0 ≤ n := tot_nn fun u hu => h u (List.mem_cons_of_mem _ hu)
      rw [e', e2]
      by_cases hi : i < c
      · rw [if_pos hi]
        refine ⟨fun z => (by cases z), fun ⟨n, z, hn⟩ => ?_⟩
        cases ht : Tot ts with
        | none => rw [ht] at z; cases z
        | some m =>
          rw [ht] at z
          have := tn m ht
          have z' : c + m = n := Option.some.inj z
          omega
      · rw [if_neg hi]
        have ih := At_none (ts := ts) (fun u hu => h u (List.mem_cons_of_mem _ hu)) (i := i - c) (by omega)
        rw [ih]
        constructor
        · rintro ⟨n, e, hn⟩
          exact ⟨c + n, by rw [e]; rfl, by omega⟩
        · rintro ⟨n, e, hn⟩
          cases ht : Tot ts with
          | none => rw [ht] at e; cases e
          | some m =>
            rw [ht] at e
            have z' : c + m = n := Option.some.inj e
            exact ⟨m, rfl, by omega⟩
theorem NB_tot : ∀ {ts : List Trn}, (∀ t ∈ ts, OkTr t) → ∀ {n : Int}, Tot ts = some n → ∀ x, NB ts x ≤ n
  | [], _, n, e, x => by cases e; exact Int.le_refl _
  | t :: ts, h, n, e, x => by
    cases hk : t.2.2 with
    | none =>
      have e2 : Tot (t :: ts) = none := by
        show (match t.2.2 with | none => none | some c => addO c (Tot ts)) = _
        rw [hk]
      rw [e2] at e
      cases e
    | some c =>
      have e2 : Tot (t :: ts) = addO c (Tot ts) := by
        show (match t.2.2 with | none => none | some c => addO c (Tot ts)) = _
        rw [hk]
      rw [e2] at e
      cases ht : Tot ts with
      | none => rw [ht] at e; cases e
      | some m =>
        rw [ht] at e
        have z' : c + m = n := Option.some.inj e
        have h1 := nbT_le (x := x) hk
        have h2 := NB_tot (fun u hu => h u (List.mem_cons_of_mem _ hu)) ht x
        show nbT t x + NB ts x ≤ n
        omega
theorem nbT_step {t : Trn} (h : OkTr t) (x : Int) : nbT t (x + 1) ≤ nbT t x + 1 := by
  obtain ⟨s, p, k⟩ := t
  have hp : 1 ≤ p := h.2.1
  have h1 : cl (x + 1 - s) p ≤ cl (x - s) p + 1 := by
    refine (cl_le (by omega)).mpr ?_
    have h2 : x - s ≤ cl (x - s) p * p := (cl_le (by omega)).mp (Int.le_refl _)
    rw [Int.add_mul, Int.one_mul]
    omega
  show minO (stepsUp (x + 1 - s) p) k ≤ minO (stepsUp (x - s) p) k + 1
  rw [stepsUp_cl, stepsUp_cl]
  cases k with
  | none =>
    show (if cl (x + 1 - s) p > 0 then cl (x + 1 - s) p else 0) ≤ (if cl (x - s) p > 0 then cl (x - s) p else 0) + 1
    split <;> split <;> omega
  | some c =>
    show (if c < (if cl (x + 1 - s) p > 0 then cl (x + 1 - s) p else 0) then c else (if cl (x + 1 - s) p > 0 then cl (x + 1 - s) p else 0)) ≤ (if c < (if cl (x - s) p > 0 then cl (x - s) p else 0) then c else (if cl (x - s) p > 0 then cl (x - s) p else 0)) + 1
    repeat' split
    all_goals omega
theorem NB_step : ∀ {ts : List Trn}, Srt ts → ∀ x, NB ts (x + 1) ≤ NB ts x + 1
  | [], _, x => by show (0 : Int) ≤ 0 + 1; omega
  | t :: ts, h, x => by
    have ht := h.head
    have hs := h.tail
    have st := nbT_step ht x
    show nbT t (x + 1) + NB ts (x + 1) ≤ nbT t x + NB ts x + 1
    cases hk : t.2.2 with
    | none =>
      have nt : ts = [] := by
        cases ts with
        | nil => rfl
        | cons u us =>
          obtain ⟨c, hc, _⟩ := h.lt u (List.mem_cons_self ..)
          rw [hk] at hc
          cases hc
      subst nt
      show nbT t (x + 1) + 0 ≤ nbT t x + 0 + 1
      omega
    | some c =>
      by_cases hl : t.1 + (c - 1) * t.2.1 < x
      · have h1 := nbT_all ht hk hl
        have h2 := nbT_all ht hk (show t.1 + (c - 1) * t.2.1 < x + 1 by omega)
        have h3 := NB_step hs x
        omega
      · have z : ∀ y, y ≤ x + 1 → NB ts y = 0 := fun y hy => NB_zero hs.1 fun u hu => by
          obtain ⟨c', hc, q⟩ := h.lt u hu
          rw [hk] at hc
          cases hc
          omega
        have h1 := z x (by omega)
        have h2 := z (x + 1) (Int.le_refl _)
        omega
/-- the i-th time is told by what is before x -/
theorem At_iff {ts : List Trn} (h : Srt ts) {i y : Int} (i0 : 0 ≤ i) : At ts i = some y ↔ NB ts y = i ∧ NB ts (y + 1) = i + 1 := by
  have one : ∀ {z}, At ts i = some z → NB ts z = i ∧ NB ts (z + 1) = i + 1 := fun {z} e => by
    have h1 := At_lt h i0 e z
    have h2 := At_lt h i0 e (z + 1)
    have h3 := NB_step h z
    omega
  refine ⟨one, fun ⟨e1, e2⟩ => ?_⟩
  cases q : At ts i with
  | none =>
    obtain ⟨n, e3, e4⟩ := (At_none h.1 i0).mp q
    have := NB_tot h.1 e3 (y + 1)
    omega
  | some w =>
    have h3 := At_lt h i0 q y
    have h4 := At_lt h i0 q (y + 1)
    congr 1
    omega
/-- trains with the same counts have the same times -/
theorem At_same {ts us : List Trn} (h : Srt ts) (h' : Srt us) (e : ∀ x, NB ts x = NB us x) {i : Int} (i0 : 0 ≤ i) : At ts i = At us i := by
  cases q : At ts i with
  | some y =>
    obtain ⟨e1, e2⟩ := (At_iff h i0).mp q
    exact ((At_iff h' i0).mpr ⟨by rw [← e]; exact e1, by rw [← e]; exact e2⟩).symm
  | none =>
    cases q2 : At us i with
    | none => rfl
    | some y =>
      obtain ⟨e1, e2⟩ := (At_iff h' i0).mp q2
      rw [(At_iff h i0).mpr ⟨by rw [e]; exact e1, by rw [e]; exact e2⟩] at q
      cases q
/-! ### rows in the heap -/
/-! ### breakers and rows -/
abbrev Tri := Int × Int × Int
def TriV (t : Tri) : List V := [.int t.1, .int t.2.1, .int t.2.2]
def BrAt (H : Hp) (x : V) (t : Tri) : Prop := ∃ a, x = .ref a ∧ H a = some (.tup (TriV t))
def OkT (t : Tri) : Prop := 1 ≤ t.1 ∧ t.1 ≤ 1000000000000 ∧ 1 ≤ t.2.1 ∧ t.2.1 ≤ 1000000000000000000000000000000 ∧ 1 ≤ t.2.2 ∧ t.2.2 ≤ 1000000000000
abbrev Brs (H : Hp) (xs : List V) (ts : List Tri) : Prop := Paired (BrAt H) xs ts
theorem BrAt.nl {H H' : Hp} (k : NL H H') {x : V} {t : Tri} (h : BrAt H x t) : BrAt H' x t := by
  obtain ⟨a, e, h⟩ := h
  exact ⟨a, e, k _ _ h fun _ z => nomatch z⟩
theorem Brs.nl {H H' : Hp} (k : NL H H') {xs : List V} {ts : List Tri} (h : Brs H xs ts) : Brs H' xs ts := L2.Paired.mapP h fun _ _ z => z.nl k
theorem Brs.len {H : Hp} : ∀ {xs : List V} {ts : List Tri}, Brs H xs ts → xs.length = ts.length
  | _, _, .nil => rfl
  | _, _, .cons _ t => congrArg Nat.succ (Brs.len t)
theorem Brs.get {H : Hp} : ∀ {xs : List V} {ts : List Tri} {i : Nat} {x : V}, Brs H xs ts → xs[i]? = some x → ∃ t, ts[i]? = some t ∧ BrAt H x t
  | _, _, _, _, .nil, e => by simp at e
  | _, _, 0, _, .cons r _, e => by simp at e; subst e; exact ⟨_, rfl, r⟩
  | _, _, i + 1, x, .cons _ t, e => by
    obtain ⟨u, h1, h2⟩ := Brs.get (i := i) (x := x) t (by simpa using e)
    exact ⟨u, by simpa using h1, h2⟩
theorem Brs.app {H : Hp} : ∀ {xs ys : List V} {ts us : List Tri}, Brs H xs ts → Brs H ys us → Brs H (xs ++ ys) (ts ++ us)
  | _, _, _, _, .nil, s => s
  | _, _, _, _, .cons r t, s => .cons r (Brs.app t s)
theorem Brs.rev {H : Hp} : ∀ {xs : List V} {ts : List Tri}, Brs H xs ts → Brs H xs.reverse ts.reverse
  | _, _, .nil => .nil
  | _, _, .cons r t => by
    rw [List.reverse_cons, List.reverse_cons]
    exact Brs.app (Brs.rev t) (.cons r .nil)
theorem Brs.take {H : Hp} : ∀ {xs : List V} {ts : List Tri} (n : Nat), Brs H xs ts → Brs H (xs.take n) (ts.take n)
  | _, _, 0, _ => .nil
  | _, _, _ + 1, .nil => .nil
  | _, _, n + 1, .cons r t => .cons r (Brs.take n t)
theorem Brs.drop {H : Hp} : ∀ {xs : List V} {ts : List Tri} (n : Nat), Brs H xs ts → Brs H (xs.drop n) (ts.drop n)
  | _, _, 0, r => r
  | _, _, _ + 1, .nil => .nil
  | _, _, n + 1, .cons _ t => Brs.drop n t
/-! the attributes of a row, as __init__ stores them -/
theorem k1 : ¬ (("breakers" : Str) = "step") := by decide +kernel
theorem k2 : ¬ (("breakers" : Str) = "phase") := by decide +kernel
theorem k3 : ¬ (("step" : Str) = "phase") := by decide +kernel
def rowF (T : Addr) (st ph : Int) : List (Str × V) := putF "phase" (.int ph) (putF "step" (.int st) (putF "breakers" (.ref T) []))
theorem rowF_b (T : Addr) (st ph : Int) : (rowF T st ph).lookup ("breakers" : Str) = some (.ref T) := by
  unfold rowF
  rw [lookup_putF, if_neg k2, lookup_putF, if_neg k1, lookup_putF, if_pos rfl]
theorem rowF_s (T : Addr) (st ph : Int) : (rowF T st ph).lookup ("step" : Str) = some (.int st) := by
  unfold rowF
  rw [lookup_putF, if_neg k3, lookup_putF, if_pos rfl]
theorem rowF_p (T : Addr) (st ph : Int) : (rowF T st ph).lookup ("phase" : Str) = some (.int ph) := by
  unfold rowF
  rw [lookup_putF, if_pos rfl]
theorem rowF_no (T : Addr) (st ph : Int) {m : Str} (h1 : ¬ m = "phase") (h2 : ¬ m = "step") (h3 : ¬ m = "breakers") : (rowF T st ph).lookup m = none := by
  unfold rowF
  rw [lookup_putF, if_neg h1, lookup_putF, if_neg h2, lookup_putF, if_neg h3]
  all_goals rfl
/-- a Row stands at p -/
structure RowAt (C : Addr) (H : Hp) (p T : Addr) (xs : List V) (ts : List Tri) (st ph : Int) : Prop where
  ob : ∃ dx, H p = some (.ins C dx (rowF T st ph))
  tp : H T = some (.tup xs)
  br : Brs H xs ts
  ok : ∀ t ∈ ts, OkT t
  ln : ts.length ≤ 12
  s0 : 1 ≤ st
  s1 : st ≤ 1000000000000000000000000000000
  p0 : 0 ≤ ph
  p1 : ph ≤ 1000000000000000000000000000000
theorem RowAt.nl {C : Addr} {H H' : Hp} {p T : Addr} {xs : List V} {ts : List Tri} {st ph : Int} (R : RowAt C H p T xs ts st ph) (k : NL H H') : RowAt C H' p T xs ts st ph := by
  obtain ⟨dx, h⟩ := R.ob
  exact ⟨⟨dx, k _ _ h fun _ z => nomatch z⟩, k _ _ R.tp fun _ z => (nomatch z), R.br.nl k, R.ok, R.ln, R.s0, R.s1, R.p0, R.p1⟩
/-! ### promises -/
def spIsBr : Sp := fun vs H Q _ => ∃ x t, vs = [x] ∧ BrAt H x t ∧ OkT t ∧ Q (.bl true) H
def spRChk : Sp := fun vs H Q _ => ∃ a xs ts pt, vs = [.ref a, .str pt] ∧ H a = some (.lst xs) ∧ Brs H xs ts ∧ (∀ t ∈ ts, OkT t) ∧ ts.length ≤ 12 ∧ ∀ H', Same H H' → Q .non H'
def spRStep : Sp := fun vs H Q _ => ∃ st : Int, vs = [.int st] ∧ 1 ≤ st ∧ st ≤ 1000000000000000000000000000000 ∧ Q .non H
def spRInit (C : Addr) : Sp := fun vs H Q _ => ∃ p a st ph xs ts dx, vs = [.ref p, .ref a, .int st, .int ph] ∧ H p = some (.ins C dx []) ∧ H a = some (.lst xs) ∧ Brs H xs ts ∧ (∀ t ∈ ts, OkT t) ∧ ts.length ≤ 12 ∧
  (1 ≤ st ∧ st ≤ 1000000000000000000000000000000 ∧ 0 ≤ ph ∧ ph ≤ 1000000000000000000000000000000) ∧ ∀ T H', RowAt C H' p T xs ts st ph → Kp p H H' → Q .non H'
def spRBl (C : Addr) : Sp := fun vs H Q _ => ∃ p T xs ts st ph, vs = [.ref p] ∧ RowAt C H p T xs ts st ph ∧ ∀ l H', H l = none → H' = upd H l (.lst xs) → Q (.ref l) H'
def spRSt (C : Addr) : Sp := fun vs H Q _ => ∃ p T xs ts st ph, vs = [.ref p] ∧ RowAt C H p T xs ts st ph ∧ Q (.int st) H
def spRPh (C : Addr) : Sp := fun vs H Q _ => ∃ p T xs ts st ph, vs = [.ref p] ∧ RowAt C H p T xs ts st ph ∧ Q (.int ph) H
def spRLen (C : Addr) : Sp := fun vs H Q _ => ∃ p T xs ts st ph, vs = [.ref p] ∧ RowAt C H p T xs ts st ph ∧ Q (.int xs.length) H
def spRGet (C : Addr) : Sp := fun vs H Q _ => ∃ p T xs ts st ph i x, vs = [.ref p, .int i] ∧ RowAt C H p T xs ts st ph ∧ 0 ≤ i ∧ atI xs i = some x ∧ i < xs.length ∧ Q x H
def spRCon (C : Addr) : Sp := fun vs H Q _ => ∃ p T xs ts st ph x n, vs = [.ref p, x] ∧ RowAt C H p T xs ts st ph ∧ Kd H x n ∧ Q (.bl (isI x && (decide (ph ≤ toI x) && decide ((toI x - ph) % st = 0)))) H
def spRRt (C : Addr) : Sp := fun vs H Q _ => ∃ p T xs ts st ph i, vs = [.ref p, .int i] ∧ RowAt C H p T xs ts st ph ∧ 0 ≤ i ∧ i ≤ BB ∧ Q (.int (ph + i * st)) H
def spRFr (C : Addr) : Sp := fun vs H Q _ => ∃ p T xs ts st ph i, vs = [.ref p, .int i] ∧ RowAt C H p T xs ts st ph ∧ 0 ≤ i ∧ Q (.int (stepsUp (i - ph) st)) H
theorem row_made {C : Addr} {H : Hp} {Q : Addr → Hp → Prop} {a : Addr} {st ph : Int} {xs : List V} {ts : List Tri} (ha : H a = some (.lst xs)) (hb : Brs H xs ts) (ho : ∀ t ∈ ts, OkT t) (hl : ts.length ≤ 12)
    (bd : 1 ≤ st ∧ st ≤ 1000000000000000000000000000000 ∧ 0 ≤ ph ∧ ph ≤ 1000000000000000000000000000000) (k : ∀ p T H', RowAt C H' p T xs ts st ph → Same H H' → H p = none → Q p H') :
    ∀ x dx, H x = none → H dx = none → dx ≠ x → spRInit C [.ref x, .ref a, .int st, .int ph] (upd (upd H dx (.own x)) x (.ins C dx [])) (fun v H3 => v = .non ∧ Q x H3) E0 := by
  intro x dx hx hd hne
  have s0 : Same H (upd (upd H dx (.own x)) x (.ins C dx [])) := fun b o e => by
    rw [upd_ne (ne_of_none e hx), upd_ne (ne_of_none e hd)]
    exact e
  refine ⟨x, a, st, ph, xs, ts, dx, rfl, upd_same, s0 _ _ ha, hb.nl (NL.of s0), ho, hl, bd, fun T H' R kp => ⟨rfl, k x T H' R (fun b o e => kp b o (ne_of_none e hx) (s0 b o e)) hx⟩⟩
abbrev RDat := List Tri × Int × Int
/-- what == is asked of -/
inductive EqOf (C : Addr) (H : Hp) (d : RDat) : V → Bool → Prop where
  | row {q U : Addr} {ys : List V} {us : List Tri} {st ph : Int} (R : RowAt C H q U ys us st ph) : EqOf C H d (.ref q) (decide (d = (us, st, ph)))
  | non : EqOf C H d .non false
  | lst {a : Addr} {xs : List V} (e : H a = some (.lst xs)) : EqOf C H d (.ref a) false
  | tup {a : Addr} {xs : List V} (e : H a = some (.tup xs)) : EqOf C H d (.ref a) false
theorem EqOf.nl {C : Addr} {H H' : Hp} {d : RDat} {v : V} {b : Bool} (h : EqOf C H d v b) (k : Same H H') : EqOf C H' d v b := by
  cases h with
  | row R => exact .row (R.nl (NL.of k))
  | non => exact .non
  | lst e => exact .lst (k _ _ e)
  | tup e => exact .tup (k _ _ e)
/-- breakers as data -/
def triD (t : Tri) : PyData := .tuple [.int t.1, .int t.2.1, .int t.2.2]
theorem Brs.dp {K : PySem.W.Frag} {H : Hp} : ∀ {xs : List V} {ts : List Tri}, Brs H xs ts → DpAll K H xs (ts.map triD)
  | _, _, .nil => .nil
  | _, _, .cons ⟨a, e, h⟩ t => by
    subst e
    exact .cons (.tup (SqT.of h) (.cons (.int _) (.cons (.int _) (.cons (.int _) .nil)))) (Brs.dp t)
theorem triD_eq (t u : Tri) : PyData.eqv (triD t) (triD u) = decide (t = u) := by
  obtain ⟨a, b, c⟩ := t
  obtain ⟨a', b', c'⟩ := u
  simp only [triD, PyData.eqv, PyData.eqvAll, Bool.and_true]
  rw [Bool.eq_iff_iff]
  simp [Prod.ext_iff]
theorem triDs_eq : ∀ ts us : List Tri, PyData.eqvAll (ts.map triD) (us.map triD) = decide (ts = us)
  | [], [] => by simp [PyData.eqvAll]
  | [], _ :: _ => by simp [PyData.eqvAll]
  | _ :: _, [] => by simp [PyData.eqvAll]
  | t :: ts, u :: us => by
    rw [List.map_cons, List.map_cons, PyData.eqvAll, triD_eq, triDs_eq ts us, Bool.eq_iff_iff]
    simp
theorem canAll : ∀ ts : List Tri, PyData.canLayAll0 (ts.map triD) = true
  | [] => by simp [PyData.canLayAll0]
  | t :: ts => by
    rw [List.map_cons, PyData.canLayAll0, canAll ts]
    simp [triD, PyData.canLay0, PyData.canLayAll0]
theorem depAll : ∀ ts : List Tri, PyData.depthAll (ts.map triD) ≤ 10
  | [] => by simp [PyData.depthAll]
  | t :: ts => by
    have := depAll ts
    rw [List.map_cons, PyData.depthAll]
    have h2 : (triD t).depth ≤ 10 := by simp [triD, PyData.depth, PyData.depthAll]
    omega
theorem shT (ts : List Tri) : SeqAt.shaped (.tuple (ts.map triD)) = true := by
  refine Bool.and_eq_true_iff.mpr ⟨?_, decide_eq_true ?_⟩
  · rw [PyData.canLay0]
    exact canAll ts
  · have := depAll ts
    rw [PyData.depth]
    omega

theorem wide200 {i j : Int} (h1 : i.natAbs < 2 ^ 200) (h2 : j.natAbs < 2 ^ 200) : CMulW i j := wide_mul h1 h2 (by decide) (by decide) (by decide)
theorem lt200 {i : Int} (h0 : 0 ≤ i) (h : i ≤ 1000000000000000000000000000000) : i.natAbs < 2 ^ 200 := Nat.lt_of_le_of_lt (show i.natAbs ≤ 1000000000000000000000000000000 by omega) (by decide)
theorem log200 {i : Int} (h0 : 1 ≤ i) (h : i ≤ 1000000000000000000000000000000) : i.natAbs.log2 < 9000 := (wide_div (by omega : 0 < i) (lt200 (by omega) h) (by decide) (by decide) (i := 0)).2
theorem st_bb {s : Int} (h : s ≤ 1000000000000000000000000000000) : s ≤ BB := Int.le_trans h (Int.le_trans (PB_of (n := 100) (by decide +kernel)) (PB_le (by decide)))
theorem k6_pos {P : Prop} {q : Prop} [Decidable P] [Decidable q] (h : P) (h' : q) : (decide P && decide q) = true := by rw [decide_eq_true h, decide_eq_true h']; rfl
section
variable {P : Program} {w : World} {K : PySem.W.Frag} {mg : Str → Option Value} {base : Heap} {L : LA}
abbrev N_isbreaker : List Str := ["value", "failures", "wait", "successes"]
theorem sc_isbreaker : FnScope N_isbreaker ["value"] (defScope st_is_breaker) := ⟨rfl, rfl, rfl, by decide +kernel, rfl, by decide +kernel, by decide +kernel⟩
theorem fn_isbreaker (T : LX K mg L) {fd : FuncData} (F : Fun K "is_breaker" "is_breaker" st_is_breaker L.f_is_breaker fd) : FnOk P w K mg base CX0 3 L.f_is_breaker fd ["value"] (spIsBr) := by
  have G_iswithin := ok_iswithin (P := P) (w := w) (base := base) T
  obtain ⟨tk_MOST_COUNT, c_MOST_COUNT⟩ := T.n_MOST_COUNT
  obtain ⟨tk_MOST_TIME, c_MOST_TIME⟩ := T.n_MOST_TIME
  have nd := sc_isbreaker.nd
  refine F.ok sc_isbreaker (fun vs H Q E h => ?_) (fun cdv A outer S H vs Q E hr h => ?_)
  · obtain ⟨x, t, rfl, _⟩ := h
    rfl
  · obtain ⟨x, t, rfl, ⟨a, rfl, ha⟩, ⟨h1, h2, h3, h4, h5, h6⟩, k⟩ := h
    refine ⟨_, (pss_cons (ps_if (PW.pt (pw_or (pt_not (pt_val (pe_callB call_isi (by rfl) T.b_isinstance (by decide +kernel) (pa_cons (pv 0) (pa_cons (pe_bltn (by rfl) T.b_tuple (by decide +kernel : bootBuiltins "tuple" = some (.type "tuple")) (v := .ty "tuple") rfl) pa_nil))))) (pw_or1 (pt_cmpR op_ne (pe_callB call_len_seq (by rfl) T.b_len PySem.boot_len (pa_cons (pv 0) pa_nil)) pe_int (nomark _))))) (pss_one (ps_ret pe_bl)) pss_nil)
       (pss_cons (ps_asg (pv 0) (pg_tup rfl (pgs_cons (pg_name (i := 1) nd rfl (Or.inl rfl)) (pgs_cons (pg_name (i := 2) nd rfl (Or.inl rfl)) (pgs_cons (pg_name (i := 3) nd rfl (Or.inl rfl)) pgs_nil)))))
       (pss_one (ps_ret (pe_and (pe_c G_iswithin (hr.mono (by decide)) rfl (pa_cons (pv 1) (pa_cons pe_int (pa_cons (pe_gI c_MOST_COUNT) pa_nil)))) (pe_and (pe_c G_iswithin (hr.mono (by decide)) rfl (pa_cons (pv 2) (pa_cons pe_int (pa_cons (pe_gI c_MOST_TIME) pa_nil)))) (pe_one (pe_c G_iswithin (hr.mono (by decide)) rfl (pa_cons (pv 3) (pa_cons pe_int (pa_cons (pe_gI c_MOST_COUNT) pa_nil))))))))))), ?_⟩
    refine ⟨_, rfl, _, .ty "tuple", _, _, _, rfl, .ty "tuple", (Kd.tup ha).ty, (Kd.tup ha).kit "tuple" _ (.inr ⟨by decide, by decide, rfl⟩), _, rfl, iteF ?_⟩
    refine ⟨_, rfl, a, _, rfl, .inr (SqT.of ha), rfl, _, rfl, iteF ?_⟩
    refine ⟨_, rfl, a, _, rfl, SqT.of ha, rfl, _, _, rfl, _, _, rfl, _, _, rfl, rfl, ?_⟩
    refine ⟨_, rfl, _, _, _, _, rfl, .int _, _, rfl, ?_⟩
    have e1 : (decide ((1 : Int) ≤ t.1) && decide (t.1 ≤ 1000000000000)) = true := k6_pos h1 h2
    have e2 : (decide ((1 : Int) ≤ t.2.1) && decide (t.2.1 ≤ 1000000000000000000000000000000)) = true := k6_pos h3 h4
    have e3 : (decide ((1 : Int) ≤ t.2.2) && decide (t.2.2 ≤ 1000000000000)) = true := k6_pos h5 h6
    show if (decide ((1 : Int) ≤ t.1) && decide (t.1 ≤ 1000000000000)) = true then _ else _
    rw [e1]
    refine iteT ?_
    refine ⟨_, rfl, _, _, _, _, rfl, .int _, _, rfl, ?_⟩
    show if (decide ((1 : Int) ≤ t.2.1) && decide (t.2.1 ≤ 1000000000000000000000000000000)) = true then _ else _
    rw [e2]
    refine iteT ?_
    refine ⟨_, rfl, _, _, _, _, rfl, .int _, ?_⟩
    show Q (.bl (decide ((1 : Int) ≤ t.2.2) && decide (t.2.2 ≤ 1000000000000))) H
    rw [e3]
    exact k
theorem ok_isbreaker (T : LX K mg L) : Cal P w K mg base "is_breaker" 3 L.f_is_breaker ["value"] (spIsBr) := T.d_is_breaker.cal fun fd F => fn_isbreaker T F
abbrev N_checkbreakers : List Str := ["breakers", "part", "at", "breaker"]
theorem sc_checkbreakers : FnScope N_checkbreakers ["breakers", "part"] (defScope st_check_breakers) := ⟨rfl, rfl, rfl, by decide +kernel, rfl, by decide +kernel, by decide +kernel⟩
theorem fn_checkbreakers (T : LX K mg L) {fd : FuncData} (F : Fun K "check_breakers" "check_breakers" st_check_breakers L.f_check_breakers fd) : FnOk P w K mg base CX0 4 L.f_check_breakers fd ["breakers", "part"] (spRChk) := by
  obtain ⟨tk_MOST_BREAKERS, c_MOST_BREAKERS⟩ := T.n_MOST_BREAKERS
  have G_isbreaker := ok_isbreaker (P := P) (w := w) (base := base) T
  have nd := sc_checkbreakers.nd
  refine F.ok sc_checkbreakers (fun vs H Q E h => ?_) (fun cdv A outer S H vs Q E hr h => ?_)
  · obtain ⟨a, xs, ts, pt, rfl, _⟩ := h
    rfl
  · obtain ⟨a, xs, ts, pt, rfl, ha, hb, ho, hl, k⟩ := h
    refine ⟨_, (pss_cons (ps_if (PW.pt (pw_or (pt_not (pt_val (pe_callB call_isi (by rfl) T.b_isinstance (by decide +kernel) (pa_cons (pv 0) (pa_cons (pe_bltn (by rfl) T.b_list (by decide +kernel : bootBuiltins "list" = some (.type "list")) (v := .ty "list") rfl) pa_nil))))) (pw_or1 (pt_cmpR op_gt (pe_callB call_len_seq (by rfl) T.b_len PySem.boot_len (pa_cons (pv 0) pa_nil)) (pe_gI c_MOST_BREAKERS) (nomark _))))) (pss_one (ps_never)) pss_nil)
       (pss_one (ps_for PassesOwn.never rfl (pi_enum (by rfl) T.b_enumerate (pa_cons (pv 0) pa_nil)) (pg_tup rfl (pgs_cons (pg_name (i := 2) nd rfl (Or.inl rfl)) (pgs_cons (pg_name (i := 3) nd rfl (Or.inl rfl)) pgs_nil))) (pss_one (ps_if (pt_not (pt_val (pe_c G_isbreaker (hr.mono (by decide)) rfl (pa_cons (pv 3) pa_nil)))) (pss_one (ps_never)) pss_nil))))), ?_⟩
    refine ⟨_, rfl, _, .ty "list", _, _, _, rfl, .ty "list", (Kd.lst ha).ty, (Kd.lst ha).kit "list" _ (.inr ⟨by decide, by decide, rfl⟩), _, rfl, iteF ?_⟩
    refine ⟨_, rfl, a, _, rfl, .inl (SqL.of ha), _, _, rfl, rfl, _, rfl, ?_⟩
    have hn : ¬ ((12 : Int) < (xs.length : Nat)) := by rw [hb.len]; omega
    rw [decide_eq_false hn]
    refine iteF ?_
    refine ⟨_, rfl, a, xs, rfl, SqL.of ha, for_enum (K := K) (a := a) (xs := xs) (fun i σ H2 => ∃ u v : Option V, σ = [some (.ref a), some (.str pt), u, v] ∧ Same H H2) ⟨none, none, rfl, Same.refl H⟩ (fun i σ H2 _ ⟨_, _, _, s2⟩ => SqL.of (s2 _ _ ha)) ?_ ?_⟩
    · rintro i x T' σ H2 hx ⟨u, v, rfl, s2⟩ hT
      obtain ⟨t, ht, hbr⟩ := hb.get hx
      have s3 : Same H (upd H2 T' (.tup [.int (i : Nat), x])) := s2.trans (Same.upd hT)
      refine ⟨T', _, rfl, SqT.of upd_same, rfl, _, _, rfl, _, _, rfl, rfl, ?_⟩
      refine ⟨_, rfl, x, t, rfl, hbr.nl (NL.of s3), ho t (List.mem_of_getElem? ht), _, rfl, iteF ?_⟩
      exact ⟨_, _, rfl, s3⟩
    · rintro σ H2 ⟨u, v, rfl, s2⟩
      exact k H2 s2
theorem ok_checkbreakers (T : LX K mg L) : Cal P w K mg base "check_breakers" 4 L.f_check_breakers ["breakers", "part"] (spRChk) := T.d_check_breakers.cal fun fd F => fn_checkbreakers T F
abbrev N_checkstep : List Str := ["step"]
theorem sc_checkstep : FnScope N_checkstep ["step"] (defScope st_check_step) := ⟨rfl, rfl, rfl, by decide +kernel, rfl, by decide +kernel, by decide +kernel⟩
theorem fn_checkstep (T : LX K mg L) {fd : FuncData} (F : Fun K "check_step" "check_step" st_check_step L.f_check_step fd) : FnOk P w K mg base CX0 3 L.f_check_step fd ["step"] (spRStep) := by
  have G_iswithin := ok_iswithin (P := P) (w := w) (base := base) T
  obtain ⟨tk_MOST_TIME, c_MOST_TIME⟩ := T.n_MOST_TIME
  have nd := sc_checkstep.nd
  refine F.ok sc_checkstep (fun vs H Q E h => ?_) (fun cdv A outer S H vs Q E hr h => ?_)
  · obtain ⟨st, rfl, _⟩ := h
    rfl
  · obtain ⟨st, rfl, b1, b2, k⟩ := h
    refine ⟨_, (pss_one (ps_if (pt_not (pt_val (pe_c G_iswithin (hr.mono (by decide)) rfl (pa_cons (pv 0) (pa_cons pe_int (pa_cons (pe_gI c_MOST_TIME) pa_nil)))))) (pss_one (ps_never)) pss_nil)), ?_⟩
    have e1 : (decide ((1 : Int) ≤ st) && decide (st ≤ 1000000000000000000000000000000)) = true := k6_pos b1 b2
    refine ⟨_, rfl, _, _, _, _, rfl, .int _, _, rfl, ?_⟩
    show if (!(decide ((1 : Int) ≤ st) && decide (st ≤ 1000000000000000000000000000000))) = true then _ else _
    rw [e1]
    exact iteF k
theorem ok_checkstep (T : LX K mg L) : Cal P w K mg base "check_step" 3 L.f_check_step ["step"] (spRStep) := T.d_check_step.cal fun fd F => fn_checkstep T F
abbrev N_Rowinit : List Str := ["self", "breakers", "step", "phase"]
theorem sc_Rowinit : FnScope N_Rowinit ["self", "breakers", "step", "phase"] (defScope st_Row_init) := ⟨rfl, rfl, rfl, by decide +kernel, rfl, by decide +kernel, by decide +kernel⟩
theorem fn_Rowinit (T : LX K mg L) {fd : FuncData} (F : Fun K "__init__" "Row.__init__" st_Row_init L.i_Row fd) : FnOk P w K mg base CX0 5 L.i_Row fd ["self", "breakers", "step", "phase"] (spRInit L.c_Row) := by
  have G_checkbreakers := ok_checkbreakers (P := P) (w := w) (base := base) T
  have G_checkstep := ok_checkstep (P := P) (w := w) (base := base) T
  have G_iswithin := ok_iswithin (P := P) (w := w) (base := base) T
  obtain ⟨tk_MOST_TIME, c_MOST_TIME⟩ := T.n_MOST_TIME
  have nd := sc_Rowinit.nd
  refine F.ok sc_Rowinit (fun vs H Q E h => ?_) (fun cdv A outer S H vs Q E hr h => ?_)
  · obtain ⟨p, a, st, ph, xs, ts, dx, rfl, _⟩ := h
    rfl
  · obtain ⟨p, a, st, ph, xs, ts, dx, rfl, hp, ha, hb, ho, hl, ⟨b1, b2, b3, b4⟩, k⟩ := h
    refine ⟨_, (pss_cons (ps_expr (pe_c G_checkbreakers (hr.mono (by decide)) rfl (pa_cons (pv 1) (pa_cons pe_str pa_nil))))
       (pss_cons (ps_expr (pe_c G_checkstep (hr.mono (by decide)) rfl (pa_cons (pv 2) pa_nil)))
       (pss_cons (ps_if (pt_not (pt_val (pe_c G_iswithin (hr.mono (by decide)) rfl (pa_cons (pv 3) (pa_cons pe_int (pa_cons (pe_gI c_MOST_TIME) pa_nil)))))) (pss_one (ps_never)) pss_nil)
       (pss_cons (ps_fld (pv 0) (pe_callTy call_tuple_of (by rfl) T.b_tuple (by decide +kernel) (pa_cons (pv 1) pa_nil)) rfl)
       (pss_cons (ps_fld (pv 0) (pv 2) rfl)
       (pss_one (ps_fld (pv 0) (pv 3) rfl))))))), ?_⟩
    refine ⟨_, rfl, a, xs, ts, _, rfl, ha, hb, ho, hl, fun H1 s1 => ?_⟩
    have e2 : (decide ((0 : Int) ≤ ph) && decide (ph ≤ 1000000000000000000000000000000)) = true := k6_pos b3 b4
    refine ⟨_, rfl, _, rfl, b1, b2, ?_⟩
    refine ⟨_, rfl, _, _, _, _, rfl, .int _, _, rfl, ?_⟩
    show if (!(decide ((0 : Int) ≤ ph) && decide (ph ≤ 1000000000000000000000000000000))) = true then _ else _
    rw [e2]
    refine iteF ?_
    have hp1 := s1 _ _ hp
    refine ⟨_, rfl, a, xs, rfl, .inl ⟨SqL.of (s1 _ _ ha), fun l hl' => ?_⟩⟩
    have npl : p ≠ l := ne_of_none hp1 hl'
    refine ⟨_, rfl, p, L.c_Row, dx, [], rfl, (by rw [upd_ne npl]; exact hp1), T.cf_Row.cl, T.nf_Row_breakers, (by show 0 < 1000; decide), ?_⟩
    refine ⟨_, rfl, _, rfl, p, L.c_Row, dx, _, rfl, upd_same, T.cf_Row.cl, T.nf_Row_step, Nat.lt_of_le_of_lt (putF_len _ _ [] (Nat.le_refl 0)) (by decide), ?_⟩
    refine ⟨_, rfl, _, rfl, p, L.c_Row, dx, _, rfl, upd_same, T.cf_Row.cl, T.nf_Row_phase, Nat.lt_of_le_of_lt (putF_len _ _ _ (putF_len _ _ [] (Nat.le_refl 0))) (by decide), ?_⟩
    refine k l _ ⟨⟨dx, upd_same⟩, ?_, ?_, ho, hl, b1, b2, b3, b4⟩ ?_
    · rw [upd_ne npl.symm, upd_ne npl.symm, upd_ne npl.symm, upd_same]
    · refine L2.Paired.mapP hb fun x t ⟨b, e, h⟩ => ⟨b, e, ?_⟩
      have nbp : b ≠ p := ne_of h hp (by intro z; cases z)
      have h1 := s1 _ _ h
      rw [upd_ne nbp, upd_ne nbp, upd_ne nbp, upd_ne (ne_of_none h1 hl')]
      exact h1
    · intro b o n e
      have h1 := s1 _ _ e
      rw [upd_ne n, upd_ne n, upd_ne n, upd_ne (ne_of_none h1 hl')]
      exact h1
abbrev N_Rowbreakerlist : List Str := ["self"]
theorem sc_Rowbreakerlist : FnScope N_Rowbreakerlist ["self"] (defScope st_Row_breaker_list) := ⟨rfl, rfl, rfl, by decide +kernel, rfl, by decide +kernel, by decide +kernel⟩
theorem fn_Rowbreakerlist (T : LX K mg L) {fd : FuncData} (F : Fun K "breaker_list" "Row.breaker_list" st_Row_breaker_list L.m_Row_breaker_list fd) : FnOk P w K mg base CX0 1 L.m_Row_breaker_list fd ["self"] (spRBl L.c_Row) := by
  have nd := sc_Rowbreakerlist.nd
  refine F.ok sc_Rowbreakerlist (fun vs H Q E h => ?_) (fun cdv A outer S H vs Q E hr h => ?_)
  · obtain ⟨p, B, xs, ts, st, ph, rfl, _⟩ := h
    rfl
  · obtain ⟨p, B, xs, ts, st, ph, rfl, R, k⟩ := h
    refine ⟨_, (pss_one (ps_ret (pe_callTy call_list_of (by rfl) T.b_list (by decide +kernel) (pa_cons (pe_fld (pv 0) rfl) pa_nil)))), ?_⟩
    obtain ⟨dx, hp⟩ := R.ob
    exact ⟨_, rfl, p, L.c_Row, dx, _, _, rfl, hp, T.cf_Row.cl, T.nf_Row_breakers, rowF_b _ _ _, B, xs, rfl, .inr (SqT.of R.tp), fun l hl' => k l _ hl' rfl⟩
theorem ok_Rowbreakerlist (T : LX K mg L) : Met P w K mg base L.c_Row "breaker_list" 1 L.m_Row_breaker_list ["self"] (spRBl L.c_Row) := T.mm_Row_breaker_list.met fun fd F => fn_Rowbreakerlist T F
abbrev N_Rowlen : List Str := ["self"]
theorem sc_Rowlen : FnScope N_Rowlen ["self"] (defScope st_Row_len) := ⟨rfl, rfl, rfl, by decide +kernel, rfl, by decide +kernel, by decide +kernel⟩
theorem fn_Rowlen (T : LX K mg L) {fd : FuncData} (F : Fun K "__len__" "Row.__len__" st_Row_len L.m_Row_len fd) : FnOk P w K mg base CX0 1 L.m_Row_len fd ["self"] (spRLen L.c_Row) := by
  have nd := sc_Rowlen.nd
  refine F.ok sc_Rowlen (fun vs H Q E h => ?_) (fun cdv A outer S H vs Q E hr h => ?_)
  · obtain ⟨p, B, xs, ts, st, ph, rfl, _⟩ := h
    rfl
  · obtain ⟨p, B, xs, ts, st, ph, rfl, R, k⟩ := h
    refine ⟨_, (pss_one (ps_ret (pe_callB call_len_seq (by rfl) T.b_len PySem.boot_len (pa_cons (pe_fld (pv 0) rfl) pa_nil)))), ?_⟩
    obtain ⟨dx, hp⟩ := R.ob
    exact ⟨_, rfl, p, L.c_Row, dx, _, _, rfl, hp, T.cf_Row.cl, T.nf_Row_breakers, rowF_b _ _ _, B, xs, rfl, .inr (SqT.of R.tp), k⟩
theorem ok_Rowlen (T : LX K mg L) : Met P w K mg base L.c_Row "__len__" 1 L.m_Row_len ["self"] (spRLen L.c_Row) := T.mm_Row_len.met fun fd F => fn_Rowlen T F
abbrev N_Rowgetitem : List Str := ["self", "at"]
theorem sc_Rowgetitem : FnScope N_Rowgetitem ["self", "at"] (defScope st_Row_getitem) := ⟨rfl, rfl, rfl, by decide +kernel, rfl, by decide +kernel, by decide +kernel⟩
theorem fn_Rowgetitem (T : LX K mg L) {fd : FuncData} (F : Fun K "__getitem__" "Row.__getitem__" st_Row_getitem L.m_Row_getitem fd) : FnOk P w K mg base CX0 3 L.m_Row_getitem fd ["self", "at"] (spRGet L.c_Row) := by
  have G_iswithin := ok_iswithin (P := P) (w := w) (base := base) T
  have nd := sc_Rowgetitem.nd
  refine F.ok sc_Rowgetitem (fun vs H Q E h => ?_) (fun cdv A outer S H vs Q E hr h => ?_)
  · obtain ⟨p, B, xs, ts, st, ph, i, x, rfl, _⟩ := h
    rfl
  · obtain ⟨p, B, xs, ts, st, ph, i, x, rfl, R, i0, hx, i1, k⟩ := h
    refine ⟨_, (pss_cons (ps_if (pt_not (pt_val (pe_c G_iswithin (hr.mono (by decide)) rfl (pa_cons (pv 1) (pa_cons pe_int (pa_cons (pe_op op_sub (pe_callB call_len_seq (by rfl) T.b_len PySem.boot_len (pa_cons (pe_fld (pv 0) rfl) pa_nil)) pe_int) pa_nil)))))) (pss_one (ps_never)) pss_nil)
       (pss_one (ps_ret (pe_ix (r := rIxT K) ix_tup (pe_fld (pv 0) rfl) (pv 1) (fun _ _ => rfl))))), ?_⟩
    obtain ⟨dx, hp⟩ := R.ob
    refine ⟨_, rfl, _, rfl, p, L.c_Row, dx, _, _, rfl, hp, T.cf_Row.cl, T.nf_Row_breakers, rowF_b _ _ _, B, xs, rfl, .inr (SqT.of R.tp), _, _, rfl, rfl, _, _, _, _, rfl, .int _, _, rfl, ?_⟩
    have e1 : (decide ((0 : Int) ≤ i) && decide (i ≤ (xs.length : Int) - 1)) = true := k6_pos i0 (by omega)
    show if (!(decide ((0 : Int) ≤ i) && decide (i ≤ (xs.length : Int) - 1))) = true then _ else _
    rw [e1]
    refine iteF ?_
    exact ⟨_, rfl, p, L.c_Row, dx, _, _, rfl, hp, T.cf_Row.cl, T.nf_Row_breakers, rowF_b _ _ _, _, rfl, B, xs, i, x, rfl, rfl, SqT.of R.tp, hx, k⟩
theorem ok_Rowgetitem (T : LX K mg L) : Met P w K mg base L.c_Row "__getitem__" 3 L.m_Row_getitem ["self", "at"] (spRGet L.c_Row) := T.mm_Row_getitem.met fun fd F => fn_Rowgetitem T F
abbrev N_Rowcontains : List Str := ["self", "x"]
theorem sc_Rowcontains : FnScope N_Rowcontains ["self", "x"] (defScope st_Row_contains) := ⟨rfl, rfl, rfl, by decide +kernel, rfl, by decide +kernel, by decide +kernel⟩
theorem fn_Rowcontains (T : LX K mg L) {fd : FuncData} (F : Fun K "__contains__" "Row.__contains__" st_Row_contains L.m_Row_contains fd) : FnOk P w K mg base CX0 3 L.m_Row_contains fd ["self", "x"] (spRCon L.c_Row) := by
  have G_isatleast := ok_isatleast (P := P) (w := w) (base := base) T
  have nd := sc_Rowcontains.nd
  refine F.ok sc_Rowcontains (fun vs H Q E h => ?_) (fun cdv A outer S H vs Q E hr h => ?_)
  · obtain ⟨p, B, xs, ts, st, ph, x, n, rfl, _⟩ := h
    rfl
  · obtain ⟨p, B, xs, ts, st, ph, x, n, rfl, R, hx, k⟩ := h
    refine ⟨_, (pss_one (ps_ret (pe_and (pe_c G_isatleast (hr.mono (by decide)) rfl (pa_cons (pv 1) (pa_cons (pe_fld (pv 0) rfl) pa_nil))) (pe_one (pe_cmpR op_eq (pe_op op_mod (pe_op op_sub (pv 1) (pe_fld (pv 0) rfl)) (pe_fld (pv 0) rfl)) pe_int (nomark _)))))), ?_⟩
    obtain ⟨dx, hp⟩ := R.ob
    have s0 := R.s0
    refine ⟨_, rfl, _, rfl, p, L.c_Row, dx, _, _, rfl, hp, T.cf_Row.cl, T.nf_Row_phase, rowF_p _ _ _, x, n, _, rfl, hx, _, rfl, ?_⟩
    refine ite2 (fun c => ?_) (fun c => ?_)
    · cases x with
      | int i =>
        have c' : decide (ph ≤ i) = true := c
        have k' : Q (.bl (decide (ph ≤ i) && decide ((i - ph) % st = 0))) H := k
        rw [c', Bool.true_and] at k'
        refine ⟨_, rfl, _, rfl, p, L.c_Row, dx, _, _, rfl, hp, T.cf_Row.cl, T.nf_Row_phase, rowF_p _ _ _, _, _, rfl, rfl, _, rfl, p, L.c_Row, dx, _, _, rfl, hp, T.cf_Row.cl, T.nf_Row_step, rowF_s _ _ _, _, _, rfl, rfl, by omega, rfl, ?_⟩
        have e : decide (V.int ((i - ph) % st) = V.int 0) = decide ((i - ph) % st = 0) := by rw [dec_int]; rfl
        rw [e]
        exact k'
      | _ => exact absurd (show false = true from c) Bool.false_ne_true
    · cases x with
      | int i =>
        have c' : decide (ph ≤ i) = false := by
          have c2 : ¬ (decide (ph ≤ i) = true) := c
          simpa using c2
        have k' : Q (.bl (decide (ph ≤ i) && decide ((i - ph) % st = 0))) H := k
        rw [c', Bool.false_and] at k'
        exact k'
      | _ => exact k
theorem ok_Rowcontains (T : LX K mg L) : Met P w K mg base L.c_Row "__contains__" 3 L.m_Row_contains ["self", "x"] (spRCon L.c_Row) := T.mm_Row_contains.met fun fd F => fn_Rowcontains T F
abbrev N_requesttime : List Str := ["row", "number"]
theorem sc_requesttime : FnScope N_requesttime ["row", "number"] (defScope st_request_time) := ⟨rfl, rfl, rfl, by decide +kernel, rfl, by decide +kernel, by decide +kernel⟩
theorem fn_requesttime (T : LX K mg L) {fd : FuncData} (F : Fun K "request_time" "request_time" st_request_time L.f_request_time fd) : FnOk P w K mg base CX0 3 L.f_request_time fd ["row", "number"] (spRRt L.c_Row) := by
  have G_isatleast := ok_isatleast (P := P) (w := w) (base := base) T
  have nd := sc_requesttime.nd
  refine F.ok sc_requesttime (fun vs H Q E h => ?_) (fun cdv A outer S H vs Q E hr h => ?_)
  · obtain ⟨p, B, xs, ts, st, ph, i, rfl, _⟩ := h
    rfl
  · obtain ⟨p, B, xs, ts, st, ph, i, rfl, R, i0, iw, k⟩ := h
    refine ⟨_, (pss_cons (ps_if (pt_not (pt_val (pe_c G_isatleast (hr.mono (by decide)) rfl (pa_cons (pv 1) (pa_cons pe_int pa_nil))))) (pss_one (ps_never)) pss_nil)
       (pss_one (ps_ret (pe_op op_add (pe_fld (pv 0) rfl) (pe_op op_mulW (pv 1) (pe_fld (pv 0) rfl)))))), ?_⟩
    obtain ⟨dx, hp⟩ := R.ob
    have s0 := R.s0
    have s1 := st_bb R.s1
    refine ⟨_, rfl, _, _, _, rfl, .int _, _, rfl, ?_⟩
    show if (!(decide ((0 : Int) ≤ i))) = true then _ else _
    rw [decide_eq_true i0]
    refine iteF ?_
    exact ⟨_, rfl, p, L.c_Row, dx, _, _, rfl, hp, T.cf_Row.cl, T.nf_Row_phase, rowF_p _ _ _, _, rfl, _, rfl, p, L.c_Row, dx, _, _, rfl, hp, T.cf_Row.cl, T.nf_Row_step, rowF_s _ _ _, _, _, rfl, rfl, mulBB i0 (by have := BB1; omega) (by omega) (by have := BB1; omega), _, _, rfl, rfl, k⟩
theorem ok_requesttime (T : LX K mg L) : Cal P w K mg base "request_time" 3 L.f_request_time ["row", "number"] (spRRt L.c_Row) := T.d_request_time.cal fun fd F => fn_requesttime T F
end
section
variable {X : Cx} {L : LA}
theorem row_fn {K : PySem.W.Frag} {mg : Str → Option Value} (T : LX K mg L) : ∃ fd, Fun K "__init__" "Row.__init__" st_Row_init L.i_Row fd ∧ FunD K "__init__" "Row.__init__" (defArgs st_Row_init) (defBody st_Row_init) (defScope st_Row_init) [] [("phase", .int 0)] L.i_Row fd := by
  obtain ⟨fd, F⟩ := T.in_Row
  refine ⟨fd, ?_, F⟩
  obtain ⟨oc, od, dV, kV, doc, pm, an, cdv, ct, osl, rfl, lk, hcd, hD, hK⟩ := F.ex
  rcases hD with ⟨_, rfl⟩ | ⟨e, _⟩
  · exact ⟨⟨oc, od, kV, doc, pm, an, cdv, ct, osl, rfl, lk, hcd⟩, F.kp⟩
  · exact absurd rfl e
theorem row_k1 {K : PySem.W.Frag} {mg : Str → Option Value} (T : LX K mg L) : ∃ fd, Fun K "__init__" "Row.__init__" st_Row_init L.i_Row fd ∧ KBn K fd ["self", "breakers", "step", "phase"] 3 ["phase"] (fun us ws => us ++ ws) (fun us ws => us ++ ws) := by
  obtain ⟨fd, F, FD⟩ := row_fn T
  obtain ⟨mv, h⟩ := FD.kbinds0 (ps := ["self", "breakers", "step", "phase"]) 3 ["phase"] [] (fun us _ ws => us ++ ws) (by simp) (by simp) (fun r1 _ r3 => r1.append r3) (fun D doc pm an cdv ct us mv ws h1 h2 h3 => by
    match us, h1, ws, h3, mv, h2 with
    | [_, _, _], _, [_], _, [], _ => rfl)
  exact ⟨fd, F, h⟩
theorem row_k2 {K : PySem.W.Frag} {mg : Str → Option Value} (T : LX K mg L) : ∃ fd ds, Fun K "__init__" "Row.__init__" st_Row_init L.i_Row fd ∧ Vals [.int 0] ds ∧ Binds K fd ["self", "breakers", "step", "phase"] ds := by
  obtain ⟨fd, F, FD⟩ := row_fn T
  obtain ⟨ds, h1, h2⟩ := FD.binds0 (ps := ["self", "breakers", "step", "phase"]) 3 (by simp) rfl (fun D doc pm an cdv ct us ks h1 h2 => by
    match us, h1, ks, h2 with
    | [_, _, _], _, [_], _ => exact ⟨_, _, _, _, _, _, rfl, rfl, rfl⟩)
  exact ⟨fd, ds, F, h1, h2⟩
/-- Row(e, s, phase=f) -/
theorem pe_mkRow_p_phase (T : LX X.K X.mg L) (hr : Room 6 X.A) {p pos : Pos} {e e2 : Expr} {kws : List Keyword} {t tk : TA} (hg : Gl X "Row") (ha : PA X [e, e2] t) (hkw : PK X kws tk)
    (hall : (backToKw pos (keywordEach kws X.env)).all (·.1.isSome) = true := by rfl) (hks : (backToKw pos (keywordEach kws X.env)).filterMap (·.1) = (["phase"] : List Str) := by rfl)
    (he : starEach (e :: [e2]) X.env = (false, eval e X.env) :: starEach [e2] X.env := by rfl) (hpl : ((backTo pos (starEach (e :: [e2]) X.env)).any (·.1) || (backToKw pos (keywordEach kws X.env)).any (·.1.isNone)) = false := by rfl) :
    PE X (.Call (.Name "Row" p) (e :: [e2]) kws pos) (tMakeK L.c_Row 2 1 (spRInit L.c_Row) (fun us ws => us ++ ws) E0 t tk) := by
  obtain ⟨fd, F, b⟩ := row_k1 T
  exact pe_makeK T.mk_Row (fn_Rowinit T F) hr hg T.gc_Row b pass0 ha hkw hall hks (by decide) he hpl
/-- Row(e, s) -/
theorem pe_mkRow (T : LX X.K X.mg L) (hr : Room 6 X.A) {p pos : Pos} {e e2 : Expr} {t : TA} (hg : Gl X "Row") (ha : PA X [e, e2] t)
    (he : starEach (e :: [e2]) X.env = (false, eval e X.env) :: starEach [e2] X.env := by rfl) (hpl : (backTo pos (starEach [e2] X.env)).any (·.1) = false := by rfl) :
    PE X (.Call (.Name "Row" p) (e :: [e2]) [] pos) (tMake L.c_Row (spRInit L.c_Row) [.int 0] E0 t) := by
  obtain ⟨fd, ds, F, hv, b⟩ := row_k2 T
  exact pe_make T.mk_Row (fn_Rowinit T F) hr hg T.gc_Row b hv pass0 ha (by decide) he hpl
end
/-! ### states of breakers, and data of them -/
abbrev StD := Str × Int
def StAt (H : Hp) (x : V) (s : StD) : Prop := ∃ a, x = .ref a ∧ H a = some (.tup [.str s.1, .int s.2])
abbrev Sts (H : Hp) (xs : List V) (ss : List StD) : Prop := Paired (StAt H) xs ss
theorem StAt.nl {H H' : Hp} (k : NL H H') {x : V} {d : StD} (h : StAt H x d) : StAt H' x d := by
  obtain ⟨a, e, h⟩ := h
  exact ⟨a, e, k _ _ h fun _ z => nomatch z⟩
theorem Sts.nl {H H' : Hp} (k : NL H H') {xs : List V} {ss : List StD} (h : Sts H xs ss) : Sts H' xs ss := L2.Paired.mapP h fun _ _ z => z.nl k
theorem paired_len {α β : Type} {F : α → β → Prop} : ∀ {xs : List α} {ys : List β}, Paired F xs ys → xs.length = ys.length
  | _, _, .nil => rfl
  | _, _, .cons _ p => by rw [List.length_cons, List.length_cons, paired_len p]
theorem paired_get {α β : Type} {F : α → β → Prop} : ∀ {xs : List α} {ys : List β} {i : Nat} {x : α}, Paired F xs ys → xs[i]? = some x → ∃ y, ys[i]? = some y ∧ F x y
  | _, _, i, x, .nil, e => by cases e
  | _, _, 0, x, .cons h _, e => by cases e; exact ⟨_, rfl, h⟩
  | _, _, i + 1, x, .cons _ p, e => paired_get (i := i) p e
theorem paired_get2 {α β : Type} {F : α → β → Prop} : ∀ {xs : List α} {ys : List β} {i : Nat} {y : β}, Paired F xs ys → ys[i]? = some y → ∃ x, xs[i]? = some x ∧ F x y
  | _, _, i, x, .nil, e => by cases e
  | _, _, 0, x, .cons h _, e => by cases e; exact ⟨_, rfl, h⟩
  | _, _, i + 1, x, .cons _ p, e => paired_get2 (i := i) p e
theorem paired_app {α β : Type} {F : α → β → Prop} : ∀ {xs us : List α} {ys vs : List β}, Paired F xs ys → Paired F us vs → Paired F (xs ++ us) (ys ++ vs)
  | _, _, _, _, .nil, q => q
  | _, _, _, _, .cons h p, q => .cons h (paired_app p q)
theorem StAt.same {H H' : Hp} (s : Same H H') {x : V} {d : StD} (h : StAt H x d) : StAt H' x d := by
  obtain ⟨a, e, h⟩ := h
  exact ⟨a, e, s _ _ h⟩
theorem Sts.same {H H' : Hp} (s : Same H H') {xs : List V} {ss : List StD} (h : Sts H xs ss) : Sts H' xs ss := L2.Paired.mapP h fun _ _ z => z.same s
/-- the breaker passes a request at t -/
def psB (b : Tri) (s : StD) (t : Int) : Prop := s.1 = "open" → b.2.1 ≤ t - s.2
def hfS (s : StD) : StD := if s.1 = "open" then ("half", 0) else s
def okS (b : Tri) (s : StD) : StD := if (hfS s).1 = "half" ∧ (hfS s).2 + 1 < b.2.2 then ("half", (hfS s).2 + 1) else ("closed", 0)
def badS (b : Tri) (s : StD) (t : Int) : StD := if (hfS s).1 = "closed" ∧ (hfS s).2 + 1 < b.1 then ("closed", (hfS s).2 + 1) else ("open", t)
theorem sC_O : ¬ (("closed" : Str) = "open") := by decide +kernel
theorem sH_O : ¬ (("half" : Str) = "open") := by decide +kernel
theorem sO_C : ¬ (("open" : Str) = "closed") := by decide +kernel
theorem sH_C : ¬ (("half" : Str) = "closed") := by decide +kernel
theorem sC_H : ¬ (("closed" : Str) = "half") := by decide +kernel
theorem sO_H : ¬ (("open" : Str) = "half") := by decide +kernel
theorem hf_closed (n : Int) : hfS (("closed" : Str), n) = (("closed" : Str), n) := if_neg sC_O
theorem hf_half (n : Int) : hfS (("half" : Str), n) = (("half" : Str), n) := if_neg sH_O
theorem hf_open (n : Int) : hfS (("open" : Str), n) = (("half" : Str), 0) := if_pos rfl
/-- what is told of a request that k of n breakers pass -/
def outV (n k : Nat) (inS : Bool) : List V := if k < n then [.str "rejected", .int k] else if inS then [.str "failed"] else [.str "served"]
def okW (s : StD) : Prop := s.1 = "closed" ∨ s.1 = "open" ∨ s.1 = "half"
def stD (s : StD) : PyData := .tuple [.str s.1, .int s.2]
theorem Sts.dp {K : PySem.W.Frag} {H : Hp} : ∀ {xs : List V} {ss : List StD}, Sts H xs ss → DpAll K H xs (ss.map stD)
  | _, _, .nil => .nil
  | _, _, .cons ⟨a, e, h⟩ t => by
    subst e
    exact .cons (.tup (SqT.of h) (.cons (.str _) (.cons (.int _) .nil))) (Sts.dp t)
theorem stD_eq (s u : StD) : PyData.eqv (stD s) (stD u) = decide (s = u) := by
  obtain ⟨a, b⟩ := s
  obtain ⟨a', b'⟩ := u
  simp only [stD, PyData.eqv, PyData.eqvAll, Bool.and_true]
  rw [Bool.eq_iff_iff]
  simp [Prod.ext_iff]
theorem stDs_eq : ∀ ss us : List StD, PyData.eqvAll (ss.map stD) (us.map stD) = decide (ss = us)
  | [], [] => by simp [PyData.eqvAll]
  | [], _ :: _ => by simp [PyData.eqvAll]
  | _ :: _, [] => by simp [PyData.eqvAll]
  | t :: ts, u :: us => by
    rw [List.map_cons, List.map_cons, PyData.eqvAll, stD_eq, stDs_eq ts us, Bool.eq_iff_iff]
    simp
theorem sok_W {s : StD} (h : okW s) : PyData.strOk s.1 = true := by
  obtain ⟨a, b⟩ := s
  rcases h with h | h | h
  · have h : a = "closed" := h
    subst h
    show PyData.strOk "closed" = true
    decide +kernel
  · have h : a = "open" := h
    subst h
    show PyData.strOk "open" = true
    decide +kernel
  · have h : a = "half" := h
    subst h
    show PyData.strOk "half" = true
    decide +kernel
theorem canSts : ∀ {ss : List StD}, (∀ s ∈ ss, okW s) → PyData.canLayAll0 (ss.map stD) = true
  | [], _ => by simp [PyData.canLayAll0]
  | t :: ts, h => by
    rw [List.map_cons, PyData.canLayAll0, canSts fun s hs => h s (List.mem_cons_of_mem _ hs)]
    simp [stD, PyData.canLay0, PyData.canLayAll0, sok_W (h t (List.mem_cons_self ..))]
theorem depSts : ∀ ss : List StD, PyData.depthAll (ss.map stD) ≤ 10
  | [] => by simp [PyData.depthAll]
  | t :: ts => by
    have := depSts ts
    rw [List.map_cons, PyData.depthAll]
    have h2 : (stD t).depth ≤ 10 := by simp [stD, PyData.depth, PyData.depthAll]
    omega
theorem shSts {ss : List StD} (h : ∀ s ∈ ss, okW s) : SeqAt.shaped (.list (ss.map stD)) = true := by
  refine Bool.and_eq_true_iff.mpr ⟨?_, decide_eq_true ?_⟩
  · rw [PyData.canLay0]
    exact canSts h
  · have := depSts ss
    rw [PyData.depth]
    omega
theorem Sts.dpl {K : PySem.W.Frag} {H : Hp} {l : Addr} {ys : List V} {ss : List StD} (h : H l = some (.lst ys)) (s : Sts H ys ss) : Dp K H (.ref l) (.list (ss.map stD)) := .lst (SqL.of h) s.dp
theorem eqSts (ss us : List StD) : PyData.eqv (.list (ss.map stD)) (.list (us.map stD)) = decide (ss = us) := by
  rw [PyData.eqv]
  exact stDs_eq ss us
/-! ### the states before all requests -/
theorem sts_rep {H : Hp} {t : Addr} {d : StD} (h : H t = some (.tup [.str d.1, .int d.2])) : ∀ n : Nat, Sts H (List.replicate n (V.ref t)) (List.replicate n d)
  | 0 => .nil
  | n + 1 => .cons ⟨t, rfl, h⟩ (sts_rep h n)
def spClosed : Sp := fun vs H Q _ => ∃ n : Nat, vs = [.int n] ∧ n ≤ 100 ∧ ∀ l ys H', H' l = some (.lst ys) → Sts H' ys (List.replicate n ("closed", 0)) → Same H H' → H l = none → Q (.ref l) H'
section
variable {P : Program} {w : World} {K : PySem.W.Frag} {mg : Str → Option Value} {base : Heap} {L : LA}
abbrev N_closedstates : List Str := ["number"]
theorem sc_closedstates : FnScope N_closedstates ["number"] (defScope st_closed_states) := ⟨rfl, rfl, rfl, by decide +kernel, rfl, by decide +kernel, by decide +kernel⟩
theorem fn_closedstates (T : LX K mg L) {fd : FuncData} (F : Fun K "closed_states" "closed_states" st_closed_states L.f_closed_states fd) : FnOk P w K mg base CX0 3 L.f_closed_states fd ["number"] (spClosed) := by
  have nd := sc_closedstates.nd
  refine F.ok sc_closedstates (fun vs H Q E h => ?_) (fun cdv A outer S H vs Q E hr h => ?_)
  · obtain ⟨n, rfl, _⟩ := h
    rfl
  · obtain ⟨n, rfl, hn, k⟩ := h
    refine ⟨_, (pss_one (ps_ret (pe_op op_rep (pe_lst (pa_cons (pe_tup (pa_cons pe_str (pa_cons pe_int pa_nil))) pa_nil)) (pv 0)))), ?_⟩
    refine ⟨(by show 2 ≤ sizeLine; decide), fun t ht => ⟨(by show 1 ≤ sizeLine; decide), fun l hl => ?_⟩⟩
    have s1 := Same.upd (o := .tup [.str "closed", .int 0]) ht
    have s2 := s1.trans (Same.upd (o := .lst [.ref t]) hl)
    refine ⟨_, rfl, ?_⟩
    refine ⟨l, _, [.ref t], rfl, rfl, upd_same, by omega, by omega, small2 (by rw [Int.toNat_natCast]; show 1 * n ≤ 100000; omega), fun r hr => ?_⟩
    have s3 := s2.trans (Same.upd (o := .lst (List.replicate (n : Int).toNat [V.ref t]).flatten) hr)
    refine k r _ _ upd_same ?_ s3 (none_of s2 hr)
    rw [Int.toNat_natCast, List.flatten_replicate_singleton]
    have ht3 : (upd (upd (upd H t (.tup [.str "closed", .int 0])) l (.lst [.ref t])) r (.lst (List.replicate n (V.ref t)))) t = some (.tup [.str "closed", .int 0]) := by
      have h1 : (upd (upd H t (.tup [.str "closed", .int 0])) l (.lst [.ref t])) t = some (.tup [.str "closed", .int 0]) := (Same.upd hl) _ _ upd_same
      rw [upd_ne (ne_of_none h1 hr)]
      exact h1
    exact sts_rep ht3 n
theorem ok_closedstates (T : LX K mg L) : Cal P w K mg base "closed_states" 3 L.f_closed_states ["number"] (spClosed) := T.d_closed_states.cal fun fd F => fn_closedstates T F
end
/-! ### lists of ints as data; what the law asks of told times -/
def intsD (ns : List Int) : PyData := .list (ns.map PyData.int)
theorem ints_dp {K : PySem.W.Frag} {H : Hp} : ∀ ns : List Int, DpAll K H (ns.map V.int) (ns.map PyData.int)
  | [] => .nil
  | n :: ns => .cons (.int n) (ints_dp ns)
theorem canInts : ∀ ns : List Int, PyData.canLayAll0 (ns.map PyData.int) = true
  | [] => by simp [PyData.canLayAll0]
  | n :: ns => by rw [List.map_cons, PyData.canLayAll0, canInts ns]; simp [PyData.canLay0]
theorem depInts : ∀ ns : List Int, PyData.depthAll (ns.map PyData.int) ≤ 10
  | [] => by simp [PyData.depthAll]
  | n :: ns => by
    have := depInts ns
    rw [List.map_cons, PyData.depthAll]
    have h2 : (PyData.int n).depth ≤ 10 := by simp [PyData.depth]
    omega
theorem shInts (ns : List Int) : SeqAt.shaped (intsD ns) = true := by
  refine Bool.and_eq_true_iff.mpr ⟨?_, decide_eq_true ?_⟩
  · unfold intsD
    rw [PyData.canLay0]
    exact canInts ns
  · have := depInts ns
    unfold intsD
    rw [PyData.depth]
    omega
theorem eqInts1 : ∀ ns ms : List Int, PyData.eqvAll (ns.map PyData.int) (ms.map PyData.int) = decide (ns = ms)
  | [], [] => by simp [PyData.eqvAll]
  | [], _ :: _ => by simp [PyData.eqvAll]
  | _ :: _, [] => by simp [PyData.eqvAll]
  | n :: ns, m :: ms => by
    rw [List.map_cons, List.map_cons, PyData.eqvAll, eqInts1 ns ms, Bool.eq_iff_iff]
    simp [PyData.eqv]
theorem eqInts (ns ms : List Int) : PyData.eqv (intsD ns) (intsD ms) = decide (ns = ms) := by
  unfold intsD
  rw [PyData.eqv]
  exact eqInts1 ns ms
theorem Dp.ints {K : PySem.W.Frag} {H : Hp} {a : Addr} {ns : List Int} (h : H a = some (.lst (ns.map V.int))) : Dp K H (.ref a) (intsD ns) := .lst (SqL.of h) (ints_dp ns)
/-! ### rules inside comprehensions -/
theorem call_lenK {X : Cx} {K : PySem.W.Frag} (h : X.K = K) : CallR X (.builtin "len") (fun xs H Q => ∃ p ys, xs = [.ref p] ∧ (SqL K H p ys ∨ SqT K H p ys) ∧ Q (.int ys.length) H) := h ▸ call_len_seq
theorem call_listK {X : Cx} {K : PySem.W.Frag} (h : X.K = K) : CallR X (.type "list") (fun xs H Q => ∃ p ys, xs = [.ref p] ∧ (SqL K H p ys ∨ SqT K H p ys) ∧ ∀ l, H l = none → Q (.ref l) (upd H l (.lst ys))) := h ▸ call_list_of
theorem op_neDK {X : Cx} {K : PySem.W.Frag} (h : X.K = K) (hu : X.A.units + 64 < cLine) : OpR X (compareOp .NotEq) (rNeD K) := h ▸ op_neD hu
theorem op_eqDK {X : Cx} {K : PySem.W.Frag} (h : X.K = K) (hu : X.A.units + 64 < cLine) : OpR X (compareOp .Eq) (rEqD K) := h ▸ op_eqD hu
theorem op_inK {X : Cx} {K : PySem.W.Frag} (h : X.K = K) : OpR X (compareOp CmpOp.In) (rIn K false) := h ▸ op_in_seq
theorem op_notInK {X : Cx} {K : PySem.W.Frag} (h : X.K = K) : OpR X (compareOp CmpOp.NotIn) (rIn K true) := h ▸ op_notIn_seq
/-! ### list.count of strings -/
def eqs (k : Str) (v : Value) : Bool := match v with
  | .str n _ => n == k
  | _ => false
def rCntS (K : PySem.W.Frag) : V → List V → Hp → VK → Prop := fun x xs H Q => ∃ (p : Addr) (ss : List Str) (k : Str), x = .ref p ∧ xs = [.str k] ∧ SqL K H p (ss.map V.str) ∧ Q (.int (ss.countP (fun y => decide (y = k)) : Nat)) H
theorem eqs_at {k : Str} {t : Tok} {A : Around} {s : Shared} : ∀ {ss : List Str} {us : List Value}, Vals (ss.map V.str) us → ∀ y ∈ us, SeqAt.EqAt A s y (.str k t) (eqs k y)
  | [], us, r => by
    rw [List.map_nil] at r
    cases r
    exact fun y hy => nomatch hy
  | n :: ss, us, r => by
    rw [List.map_cons] at r
    cases r with
    | cons r1 r2 =>
      obtain ⟨t', rfl⟩ := r1
      intro y hy
      rcases List.mem_cons.mp hy with q | q
      · rw [q]
        exact SeqAt.EqAt.str_str n t' k t
      · exact eqs_at r2 y q
theorem eqs_count {k : Str} : ∀ {ss : List Str} {us : List Value}, Vals (ss.map V.str) us → us.countP (eqs k) = ss.countP fun y => decide (y = k)
  | [], us, r => by
    rw [List.map_nil] at r
    cases r
    rfl
  | n :: ss, us, r => by
    rw [List.map_cons] at r
    cases r with
    | cons r1 r2 =>
      obtain ⟨t', rfl⟩ := r1
      have ih := eqs_count (k := k) r2
      rw [List.countP_cons, List.countP_cons, ih]
      rfl
theorem mt_scount {X : Cx} : MtR X "list.count" (rCntS X.K) := by
  intro pins s σ H x xs v us Q I rx rxs h
  obtain ⟨p, ns, k, rfl, rfl, hs, q⟩ := h
  cases rx
  obtain ⟨u, rfl, ru⟩ := rxs.one
  obtain ⟨t, rfl⟩ := ru
  obtain ⟨its, rv, ⟨⟨cls, dd, data, sl⟩, n, ho, hc, hdn, hd⟩, hlen⟩ := I.list hs
  simp only at hc hd
  subst hc hd
  refine call_meets PySem.F.slot_list_count ⟨_, ho, rfl⟩ PySem.F.entry_list_count (PySem.F.args_list_count_2 _ _)
    (SeqAt.list_countAt p its.toArray n dd sl (.str k t) (eqs k)) ⟨ho, fun y hy => eqs_at rv y (by simpa using hy), ?_⟩
  have ec : its.toArray.toList.countP (eqs k) = ns.countP fun y => decide (y = k) := eqs_count rv
  refine ⟨.int (ns.countP (fun y => decide (y = k)) : Nat), H, I.tok _, ⟨s.toks, ?_⟩, q⟩
  show Value.int ((its.toArray.toList.countP (eqs k) : Nat) : Int) s.toks = Value.int ((ns.countP (fun y => decide (y = k)) : Nat) : Int) s.toks
  rw [ec]
/-- a comprehension over enumerate -/
theorem lc_enum {K : PySem.W.Frag} {a : Addr} {xs : List V} {g : TG} {tt : TT} {te : TE} {vs : List Nat} {σ : L2.St} {H1 : Hp} {D : Addr} {Qd : Hp → Prop} (Pv : Nat → Hp → Prop) (h0 : Pv 0 (upd H1 D (.lst []))) (hl : ∀ i H, Pv i H → SqL K H a xs)
    (hs : ∀ (i : Nat) (x : V) (T : Addr) (H : Hp), xs[i]? = some x → Pv i H → H T = none → g (.ref T) (wipe σ vs) (upd H T (.tup [.int (i : Nat), x])) fun σ2 H2 => wipe σ2 vs = wipe σ vs ∧ tt σ2 H2 fun b H3 =>
      if b = true then te σ2 H3 fun y H4 => ∃ acc, H4 D = some (.lst acc) ∧ acc.length < sizeLine ∧ Pv (i + 1) (upd H4 D (.lst (acc ++ [y]))) else Pv (i + 1) H3) (hd : ∀ H, Pv xs.length H → Qd H) :
    ∃ W : Nat → Nat → Hp → Prop, (∃ m, W 0 m (upd H1 D (.lst []))) ∧ ∀ i m H, W i m H → ((Ite K a).stop i H ∧ Qd H) ∨ ((Ite K a).go i H ∧ ∃ Nx : Hp → Prop, (∀ H', Nx H' → ∃ m', m' < m ∧ W (i + 1) m' H') ∧ ∀ x H', (Ite K a).yld i H x H' → g x (wipe σ vs) H' fun σ2 H2 => wipe σ2 vs = wipe σ vs ∧ tt σ2 H2 fun b H3 =>
        if b = true then te σ2 H3 fun y H4 => ∃ acc, H4 D = some (.lst acc) ∧ acc.length < sizeLine ∧ Nx (upd H4 D (.lst (acc ++ [y]))) else Nx H3) := by
  refine ⟨fun i m H => m = xs.length - i ∧ i ≤ xs.length ∧ Pv i H, ⟨xs.length, by omega, Nat.zero_le _, h0⟩, ?_⟩
  rintro i m H ⟨rfl, hi, p⟩
  have q := hl i H p
  by_cases hlt : i < xs.length
  · refine .inr ⟨⟨xs, xs[i], q, List.getElem?_eq_getElem hlt⟩, Pv (i + 1), fun H' p' => ⟨xs.length - (i + 1), by omega, rfl, hlt, p'⟩, fun v H' y => ?_⟩
    obtain ⟨T, x', rfl, hT, rfl, f⟩ := y
    exact hs i x' T H (f xs q) p hT
  · have e : i = xs.length := by omega
    subst e
    exact .inl ⟨⟨xs, q, Nat.le_refl _⟩, hd H p⟩
theorem op_powW {X : Cx} : OpR X (binaryOp .Pow) (rI (fun i j => 0 ≤ j ∧ (Builtin.Int.intBits i : Int) * j ≤ 2 ^ 27) fun i j => .int (i ^ j.toNat)) := opI fun _ _ _ _ _ _ _ hc q => PyProof.Rows.pow_int hc.1 hc.2 q
/-! ### zip of a tuple and a list -/
section
open PySem.Builtin.SmallTypes
/-- what next() walks: an iterator over a sequence -/
structure Wk (prog : Program) (w : World) where
  it : Heap → Addr → Addr → Nat → Prop
  sq : Heap → Addr → Array Value → Prop
  itx : ∀ {g g' : Heap} {a b l : Addr} {n : Nat}, it g a l n → Heap.ExtBut b g g' → a ≠ b → it g' a l n
  sqx : ∀ {g g' : Heap} {a b : Addr} {xs : Array Value}, sq g a xs → Heap.ExtBut b g g' → a ≠ b → sq g' a xs
  ita : ∀ {g g' : Heap} {a l : Addr} {n : Nat}, it g a l n → (∀ o, g.get? a = some o → g'.get? a = some o) → it g' a l n
  ito : ∀ {g : Heap} {a l : Addr} {n : Nat}, it g a l n → ∃ o, g.get? a = some o ∧ ∃ f, o.data = .fields f
  nxt : ∀ {A : Around} {E : Value → Shared → Prop} {s : Shared} {a l : Addr} {n : Nat} {xs : Array Value} {x : Value} {Q : Value → Shared → Prop}, it s.heap a l n → sq s.heap l xs → xs[n]? = some x →
    (∀ g, it g a l (n + 1) → Heap.SameBut a s.heap g → Q x { s with heap := g }) → wpAny (model prog w) A (nextOf (.ref a)) Q E s
  fin : ∀ {A : Around} {E : Value → Shared → Prop} {s : Shared} {a l : Addr} {n : Nat} {xs : Array Value} {Q : Value → Shared → Prop}, A.handled = none → it s.heap a l n → sq s.heap l xs → xs[n]? = none →
    (∀ g e, Heap.ExtBut a s.heap g → (∃ o, g.get? e = some o ∧ o.cls = .type "StopIteration") → E (.ref e) { s with heap := g }) → wpAny (model prog w) A (nextOf (.ref a)) Q E s
def wkL (prog : Program) (w : World) : Wk prog w where
  it := Heap.IsListIter
  sq := Heap.IsList
  itx := fun x h n => x.extBut h n
  sqx := fun x h n => x.extBut h n
  ita := fun x e => x.at e
  ito := fun x => by obtain ⟨o, e, _, d⟩ := x; exact ⟨o, e, _, d⟩
  nxt := fun a b c d => wpAny_nextOf_list_item a b c d
  fin := fun a b c d e => wpAny_nextOf_list_end a b c d e
def wkT (prog : Program) (w : World) : Wk prog w where
  it := Heap.IsTupleIter
  sq := Heap.IsTuple
  itx := fun x h n => x.extBut h n
  sqx := fun x h n => x.extBut h n
  ita := fun x e => x.at e
  ito := fun x => by obtain ⟨o, e, _, d⟩ := x; exact ⟨o, e, _, d⟩
  nxt := fun a b c d => RZ.nextOf_tuple_item a b c d
  fin := fun a b c d e => RZ.nextOf_tuple_end a b c d e
section
variable {prog : Program} {w : World} {A : Around} {E : Value → Shared → Prop} {s : Shared} (U V : Wk prog w)
/-- the kept of a step -/
def Kz (z T i j : Addr) (g g' : Heap) : Prop := ∀ c o, c ≠ z → c ≠ T → c ≠ i → c ≠ j → g.get? c = some o → g'.get? c = some o
theorem zw_item {z T R i j a b : Addr} {m n : Nat} {xs ys : Array Value} {x y p q : Value} {Q : Value → Shared → Prop} (D : ZipApart z T R i j a b) (hz : IsZip s.heap z T R .none) (hT : IsPair s.heap T (.ref i) (.ref j)) (hR : IsPair s.heap R p q)
    (hi : U.it s.heap i a m) (hj : V.it s.heap j b n) (ha : U.sq s.heap a xs) (hb : V.sq s.heap b ys) (ex : xs[m]? = some x) (ey : ys[n]? = some y)
    (k : ∀ g, IsZip g z T R (rawInt s.heap.objs.size) → IsPair g R x y → U.it g i a (m + 1) → V.it g j b (n + 1) → IsPair g s.heap.objs.size x y → g.objs.size = s.heap.objs.size + 1 → Kz z R i j s.heap g → Q (.ref s.heap.objs.size) { s with heap := g }) :
    wpAny (model prog w) A (Builtin.«zip.__next__» ⟨[.ref z], []⟩) (fun r s' => ∃ v, r = .done (.ret v) ∧ Q v s') E s := by
  show wpAny _ _ (field (.ref z) 2 >>= fun _ => _) _ _ _
  refine wpAny_bind (wpAny_field hz rfl (x := .bool false) rfl (show wpAny _ _ (field (.ref z) 3 >>= fun _ => _) _ _ _ from ?_))
  refine wpAny_bind (wpAny_field hz rfl (x := .ref T) rfl (wpAny_bind (wpAny_seqItems hT rfl (show wpAny _ _ (ownedTupleIsFree (.ref z) >>= fun _ => _) _ _ _ from wpAny_bind ?_))))
  unfold Builtin.SmallTypes.ownedTupleIsFree
  refine wpAny_bind (wpAny_field hz rfl (x := .none) rfl (wpAny_pure ?_)); simp only [if_true]
  refine wpAny_bind (wpAny_rule (wpAny_bind (wpAny_field hz rfl (x := .ref R) rfl (wpAny_bind (wpAny_setField_rec hz (by simp) fun g1 z1 s1 => ?_)))))
  replace z1 : IsZip g1 z T R .ellipsis := z1
  refine wpAny_bind ?_; simp only [List.zipIdx_cons, List.zipIdx_nil, List.forIn_cons, List.forIn_nil]
  refine wpAny_bind (wpAny_bind (wpAny_onRaise (show wpAny _ _ (nextOf (.ref i) >>= fun _ => _) _ _ _ from ?_)))
  refine wpAny_bind (U.nxt (U.itx hi s1.extBut D.i1z) (U.sqx ha s1.extBut D.l1z) ex fun g2 i2 s2 => wpAny_pure ?_)
  have R2 : IsPair g2 R p q := s2.extBut _ _ D.TOi1 (s1.extBut _ _ D.TOz hR)
  refine wpAny_bind (wpAny_seqItems R2 rfl (wpAny_bind (wpAny_updateSeq_pair R2 fun g3 R3 s3 => wpAny_bind (wpAny_letGo (wpAny_pure ?_)))))
  replace R3 : IsPair g3 R x q := R3
  refine wpAny_bind (wpAny_bind (wpAny_onRaise (show wpAny _ _ (nextOf (.ref j) >>= fun _ => _) _ _ _ from ?_)))
  refine wpAny_bind (V.nxt (V.itx (V.itx (V.itx hj s1.extBut D.i2z) s2.extBut D.i12.symm) s3.extBut D.TOi2.symm) (V.sqx (V.sqx (V.sqx hb s1.extBut D.l2z) s2.extBut D.l2i1) s3.extBut D.l2TO) ey fun g4 j4 s4 => wpAny_pure ?_)
  have R4 : IsPair g4 R x q := s4.extBut _ _ D.TOi2 R3
  refine wpAny_bind (wpAny_seqItems R4 rfl (wpAny_bind (wpAny_updateSeq_pair R4 fun g5 R5 s5 => wpAny_bind (wpAny_letGo (wpAny_pure (wpAny_pure ?_))))))
  replace R5 : IsPair g5 R x y := R5
  refine wpAny_bind (wpAny_seqItems R5 rfl (wpAny_bind (wpAny_newTuple ?_)))
  have e5 : g5.objs.size = s.heap.objs.size := by rw [s5.1, s4.1, s3.1, s2.1, s1.1]
  have z5 : IsZip g5 z T R .ellipsis := s5.extBut _ _ D.TOz.symm (s4.extBut _ _ D.i2z.symm (s3.extBut _ _ D.TOz.symm (s2.extBut _ _ D.i1z.symm z1)))
  have k5 : Kz z R i j s.heap g5 := fun c o c1 c2 c3 c4 e => s5.extBut _ _ c2 (s4.extBut _ _ c4 (s3.extBut _ _ c2 (s2.extBut _ _ c3 (s1.extBut _ _ c1 e))))
  have i5 : U.it g5 i a (m + 1) := U.itx (U.itx (U.itx i2 s3.extBut D.TOi1.symm) s4.extBut D.i12) s5.extBut D.TOi1.symm
  have j5 : V.it g5 j b (n + 1) := V.itx j4 s5.extBut D.TOi2.symm
  show wpAny _ _ (ownedTupleHandOut (.ref z) (.ref g5.objs.size) >>= fun _ => _) _ _ _
  refine wpAny_bind ?_; unfold Builtin.SmallTypes.ownedTupleHandOut
  have z6 : IsZip (g5.push { cls := .type "tuple", data := .seq #[x, y] }) z T R .ellipsis := Heap.get?_push_of_some _ z5
  refine wpAny_bind (wpAny_setField_rec z6 (by simp) fun g7 z7 s7 => ?_)
  replace z7 : IsZip g7 z T R (rawInt g5.objs.size) := z7
  refine wpAny_setField_rec z7 (by simp) fun g8 z8 s8 => ?_
  replace z8 : IsZip g8 z T R (rawInt g5.objs.size) := z8
  have up : ∀ c o, c ≠ z → g5.get? c = some o → g8.get? c = some o := fun c o c1 e => s8.extBut _ _ c1 (s7.extBut _ _ c1 (Heap.get?_push_of_some _ e))
  have T8 : IsPair g8 g5.objs.size x y := s8.extBut _ _ (Nat.ne_of_gt (Heap.lt_size z5)) (s7.extBut _ _ (Nat.ne_of_gt (Heap.lt_size z5)) (Heap.get?_push_size _ rfl))
  have e8 : g8.objs.size = g5.objs.size + 1 := by rw [s8.1, s7.1, Heap.size_push]
  rw [e5] at z8 T8 e8
  refine wpAny_pure ⟨_, rfl, (show Q (.ref g5.objs.size) _ from ?_)⟩
  rw [e5]
  exact k g8 z8 (up _ _ D.TOz R5) (U.ita i5 fun o e => up _ o D.i1z e) (V.ita j5 fun o e => up _ o D.i2z e) T8 e8 fun c o c1 c2 c3 c4 e => up c o c1 (k5 c o c1 c2 c3 c4 e)
theorem zw_fin {z T R i j a b : Addr} {m n : Nat} {xs ys : Array Value} {p q : Value} {Q : Fin → Shared → Prop} (hh : A.handled = none) (D : ZipApart z T R i j a b) (hz : IsZip s.heap z T R .none) (hT : IsPair s.heap T (.ref i) (.ref j)) (hR : IsPair s.heap R p q)
    (hi : U.it s.heap i a m) (hj : V.it s.heap j b n) (ha : U.sq s.heap a xs) (hb : V.sq s.heap b ys) (en : xs[m]? = none ∨ ys[n]? = none)
    (k : ∀ g e, Kz z R i j s.heap g → (∃ o, g.get? e = some o ∧ o.cls = .type "StopIteration") → E (.ref e) { s with heap := g }) :
    wpAny (model prog w) A (Builtin.«zip.__next__» ⟨[.ref z], []⟩) Q E s := by
  show wpAny _ _ (field (.ref z) 2 >>= fun _ => _) _ _ _
  refine wpAny_bind (wpAny_field hz rfl (x := .bool false) rfl (show wpAny _ _ (field (.ref z) 3 >>= fun _ => _) _ _ _ from ?_))
  refine wpAny_bind (wpAny_field hz rfl (x := .ref T) rfl (wpAny_bind (wpAny_seqItems hT rfl (show wpAny _ _ (ownedTupleIsFree (.ref z) >>= fun _ => _) _ _ _ from wpAny_bind ?_))))
  unfold Builtin.SmallTypes.ownedTupleIsFree
  refine wpAny_bind (wpAny_field hz rfl (x := .none) rfl (wpAny_pure ?_)); simp only [if_true]
  refine wpAny_bind (wpAny_rule (wpAny_bind (wpAny_field hz rfl (x := .ref R) rfl (wpAny_bind (wpAny_setField_rec hz (by simp) fun g1 z1 s1 => ?_)))))
  replace z1 : IsZip g1 z T R .ellipsis := z1
  refine wpAny_bind ?_; simp only [List.zipIdx_cons, List.zipIdx_nil, List.forIn_cons, List.forIn_nil]
  refine wpAny_bind (wpAny_bind (wpAny_onRaise (show wpAny _ _ (nextOf (.ref i) >>= fun _ => _) _ _ _ from ?_)))
  cases ex : xs[m]? with
  | none =>
    refine wpAny_bind (U.fin hh (U.itx hi s1.extBut D.i1z) (U.sqx ha s1.extBut D.l1z) ex fun g2 e s2 he => ?_)
    obtain ⟨oe, h1, h2⟩ := he
    have z2 : IsZip g2 z T R .ellipsis := s2 _ _ D.i1z.symm z1
    have ne : e ≠ z := fun c => by subst c; rw [z2] at h1; cases h1; simp at h2
    exact wpAny_setField_rec z2 (by simp) fun g3 _ s3 => k g3 e (fun c o c1 _ c3 _ r => s3.extBut _ _ c1 (s2 _ _ c3 (s1.extBut _ _ c1 r))) ⟨oe, s3.extBut _ _ ne h1, h2⟩
  | some x =>
    have ey : ys[n]? = none := by rcases en with h | h; (rw [ex] at h; cases h); exact h
    refine wpAny_bind (U.nxt (U.itx hi s1.extBut D.i1z) (U.sqx ha s1.extBut D.l1z) ex fun g2 i2 s2 => wpAny_pure ?_)
    have R2 : IsPair g2 R p q := s2.extBut _ _ D.TOi1 (s1.extBut _ _ D.TOz hR)
    refine wpAny_bind (wpAny_seqItems R2 rfl (wpAny_bind (wpAny_updateSeq_pair R2 fun g3 R3 s3 => wpAny_bind (wpAny_letGo (wpAny_pure ?_)))))
    refine wpAny_bind (wpAny_bind (wpAny_onRaise (show wpAny _ _ (nextOf (.ref j) >>= fun _ => _) _ _ _ from ?_)))
    refine wpAny_bind (V.fin hh (V.itx (V.itx (V.itx hj s1.extBut D.i2z) s2.extBut D.i12.symm) s3.extBut D.TOi2.symm) (V.sqx (V.sqx (V.sqx hb s1.extBut D.l2z) s2.extBut D.l2i1) s3.extBut D.l2TO) ey fun g4 e s4 he => ?_)
    obtain ⟨oe, h1, h2⟩ := he
    have z4 : IsZip g4 z T R .ellipsis := s4 _ _ D.i2z.symm (s3.extBut _ _ D.TOz.symm (s2.extBut _ _ D.i1z.symm z1))
    have ne : e ≠ z := fun c => by subst c; rw [z4] at h1; cases h1; simp at h2
    exact wpAny_setField_rec z4 (by simp) fun g5 _ s5 => k g5 e (fun c o c1 c2 c3 c4 r => s5.extBut _ _ c1 (s4 _ _ c4 (s3.extBut _ _ c2 (s2.extBut _ _ c3 (s1.extBut _ _ c1 r))))) ⟨oe, s5.extBut _ _ ne h1, h2⟩
theorem zw_next {z T R i j a b : Addr} {m n : Nat} {xs ys : Array Value} {x y p q : Value} {Q : Option Value → Shared → Prop} (D : ZipApart z T R i j a b) (hz : IsZip s.heap z T R .none) (hT : IsPair s.heap T (.ref i) (.ref j)) (hR : IsPair s.heap R p q)
    (hi : U.it s.heap i a m) (hj : V.it s.heap j b n) (ha : U.sq s.heap a xs) (hb : V.sq s.heap b ys) (ex : xs[m]? = some x) (ey : ys[n]? = some y)
    (k : ∀ g, IsZip g z T R (rawInt s.heap.objs.size) → IsPair g R x y → U.it g i a (m + 1) → V.it g j b (n + 1) → IsPair g s.heap.objs.size x y → g.objs.size = s.heap.objs.size + 1 → Kz z R i j s.heap g → Q (some (.ref s.heap.objs.size)) { s with heap := g }) :
    wpAny (model prog w) A (pyNext (.ref z)) Q E s := by
  have hT' : s.TypeIs (.ref z) "zip" := ⟨_, hz, rfl⟩
  unfold pyNext
  exact wpAny_bind (wpAny_attempt (wpAny_callSpecial?_slot (name := Str.ofString "__next__") hT' F.slot_zip_next (wpAny_call_entry F.slot_zip_next hT' F.entry_zip_next
    (zw_item U V D hz hT hR hi hj ha hb ex ey fun g a1 a2 a3 a4 a5 a6 a7 => wpAny_pure (k g a1 a2 a3 a4 a5 a6 a7)) (F.args_zip_next_1 _))))
theorem zw_done {z T R i j a b : Addr} {m n : Nat} {xs ys : Array Value} {p q : Value} {Q : Option Value → Shared → Prop} (hh : A.handled = none) (D : ZipApart z T R i j a b) (hz : IsZip s.heap z T R .none) (hT : IsPair s.heap T (.ref i) (.ref j)) (hR : IsPair s.heap R p q)
    (hi : U.it s.heap i a m) (hj : V.it s.heap j b n) (ha : U.sq s.heap a xs) (hb : V.sq s.heap b ys) (en : xs[m]? = none ∨ ys[n]? = none) (k : ∀ g, Kz z R i j s.heap g → Q none { s with heap := g }) : wpAny (model prog w) A (pyNext (.ref z)) Q E s := by
  have hT' : s.TypeIs (.ref z) "zip" := ⟨_, hz, rfl⟩
  unfold pyNext
  refine wpAny_bind (wpAny_attempt (wpAny_callSpecial?_slot (name := Str.ofString "__next__") hT' F.slot_zip_next (wpAny_call_entry F.slot_zip_next hT' F.entry_zip_next (zw_fin U V hh D hz hT hR hi hj ha hb en fun g e hk he => ?_) (F.args_zip_next_1 _))))
  obtain ⟨o, ho, hc⟩ := he
  exact wpAny_bind (wpAny_isInstance (T := "StopIteration") (b := true) ⟨o, ho, hc⟩ isSubtype_stop (wpAny_pure (k _ hk)))
end
abbrev zmA (h : Heap) (a : Addr) : Heap := h.push { cls := .type "tuple_iterator", data := .fields #[.ref a, .int 0 0] }
abbrev zmB (h : Heap) (a b : Addr) : Heap := (zmA h a).push { cls := .type "list_iterator", data := .fields #[.ref b, .int 0 0] }
abbrev zmC (h : Heap) (a b : Addr) : Heap := (zmB h a b).push { cls := .type "tuple", data := .seq #[.ref h.objs.size, .ref (zmA h a).objs.size] }
abbrev zmD (h : Heap) (a b : Addr) : Heap := (zmC h a b).push { cls := .type "tuple", data := .seq #[.none, .none] }
abbrev zmE (h : Heap) (a b : Addr) : Heap := (zmD h a b).push { cls := .type "zip", data := .fields #[.none, .bool false, .bool false, .ref (zmB h a b).objs.size, .ref (zmC h a b).objs.size] }
theorem zm_new (a b : Addr) (xs ys : Array Value) :
    Meets (Builtin.«zip.__new__» ⟨[.type "zip", .ref a, .ref b], []⟩) (fun _ R s => s.heap.IsTuple a xs ∧ s.heap.IsList b ys ∧ R (.ok (.ret (.ref (zmD s.heap a b).objs.size))) { s with heap := zmE s.heap a b }) :=
  .of_wp fun prog w A R s h => by
    obtain ⟨hp, g, d, tk, os⟩ := s; obtain ⟨h1, h2, h⟩ := h
    have hsub := sub_zip
    have h3 : Heap.IsTuple (Shared.heap ⟨hp, g, d, tk, os⟩) a xs := h1
    have h4 : Heap.IsList (Shared.heap ⟨hp.push { cls := .type "tuple_iterator", data := .fields #[.ref a, .int 0 0] }, g, d, tk, os⟩) b ys := Heap.IsList.push h2 _
    wp_walk using wpAny_pyIter_tuple h3, wpAny_pyIter_list h4
    exact ⟨_, rfl, h⟩
theorem call_zipM {prog : Program} {w : World} {A : Around} {E : Value → Shared → Prop} {s : Shared} {a b : Addr} {xs ys : Array Value} {Q : Value → Shared → Prop} (h1 : s.heap.IsTuple a xs) (h2 : s.heap.IsList b ys)
    (k : ∀ g, IsZip g (s.heap.objs.size + 4) (s.heap.objs.size + 2) (s.heap.objs.size + 3) .none → IsPair g (s.heap.objs.size + 2) (.ref s.heap.objs.size) (.ref (s.heap.objs.size + 1)) → IsPair g (s.heap.objs.size + 3) .none .none →
      g.IsTupleIter s.heap.objs.size a 0 → g.IsListIter (s.heap.objs.size + 1) b 0 → (∀ c o, s.heap.get? c = some o → g.get? c = some o) → Q (.ref (s.heap.objs.size + 4)) { s with heap := g }) :
    wpAny (model prog w) A (call (.type "zip") [.ref a, .ref b]) Q E s := by
  refine callType_new F.called_zip (by decide) (F.typeCall_zip_2 _ _) (F.newCall_zip_2 _ _) (fun o => F.args_object_init_3 o _ _) F.entry_zip_new (zm_new a b xs ys) ⟨h1, h2, ?_⟩
  have z1 : (zmA s.heap a).objs.size = s.heap.objs.size + 1 := Heap.size_push ..
  have z2 : (zmB s.heap a b).objs.size = s.heap.objs.size + 2 := by rw [Heap.size_push, z1]
  have z3 : (zmC s.heap a b).objs.size = s.heap.objs.size + 3 := by rw [Heap.size_push, z2]
  have z4 : (zmD s.heap a b).objs.size = s.heap.objs.size + 4 := by rw [Heap.size_push, z3]
  have g5 : (zmE s.heap a b).get? (zmD s.heap a b).objs.size = some _ := Heap.get?_push_size _ rfl
  have g4 : (zmE s.heap a b).get? (zmC s.heap a b).objs.size = some _ := Heap.get?_push_of_some _ (Heap.get?_push_size _ rfl)
  have g3 : (zmE s.heap a b).get? (zmB s.heap a b).objs.size = some _ := Heap.get?_push_of_some _ (Heap.get?_push_of_some _ (Heap.get?_push_size _ rfl))
  have g2 : (zmE s.heap a b).get? (zmA s.heap a).objs.size = some _ := Heap.get?_push_of_some _ (Heap.get?_push_of_some _ (Heap.get?_push_of_some _ (Heap.get?_push_size _ rfl)))
  have g1 : (zmE s.heap a b).get? s.heap.objs.size = some _ := Heap.get?_push_of_some _ (Heap.get?_push_of_some _ (Heap.get?_push_of_some _ (Heap.get?_push_of_some _ (Heap.get?_push_size _ rfl))))
  show _ ∧ _
  rw [z2, z3, z4] at g5
  rw [z1, z2] at g3
  rw [z3] at g4
  rw [z1] at g2
  rw [z4]
  exact ⟨⟨_, g5, rfl⟩, k _ g5 g3 g4 ⟨_, g1, rfl, rfl⟩ ⟨_, g2, rfl, rfl⟩ fun c o x => Heap.get?_push_of_some _ (Heap.get?_push_of_some _ (Heap.get?_push_of_some _ (Heap.get?_push_of_some _ (Heap.get?_push_of_some _ x))))⟩
end
section
open PyProof.Rows
/-- the tuple at a and the list at b, item by item in new pairs -/
def ItzM (K : PySem.W.Frag) (a b : Addr) : It :=
  ⟨fun i H => ∃ (xs ys : List V) (x y : V), SqT K H a xs ∧ SqL K H b ys ∧ xs[i]? = some x ∧ ys[i]? = some y,
    fun i H v H' => ∃ T x y, v = .ref T ∧ H T = none ∧ H' = upd H T (.tup [x, y]) ∧ (∀ xs, SqT K H a xs → xs[i]? = some x) ∧ ∀ ys, SqL K H b ys → ys[i]? = some y,
    fun i H => ∃ xs ys : List V, SqT K H a xs ∧ SqL K H b ys ∧ (xs.length ≤ i ∨ ys.length ≤ i)⟩
theorem turn_zipM {P : Program} {w : World} {K : PySem.W.Frag} {elts : List Expr} {kk : Nat} {tpos : Pos} {a b z T R i j : Addr} (D : ZipApart z T R i j a b) :
    Turn P w K (.Tuple elts kk tpos) (ItzM K a b) [z, T, R, i, j] z (fun n h => IsZip h z T R .none ∧ IsPair h T (.ref i) (.ref j) ∧ (∃ x y, IsPair h R x y) ∧ h.IsTupleIter i a n ∧ h.IsListIter j b n) where
  mem := List.mem_cons_self ..
  obj := fun n h st c hc => by
    obtain ⟨hz, hT, ⟨x, y, hR⟩, ⟨o1, e1, _, d1⟩, ⟨o2, e2, _, d2⟩⟩ := st
    simp only [List.mem_cons, List.mem_nil_iff, or_false] at hc
    rcases hc with rfl | rfl | rfl | rfl | rfl
    · exact ⟨_, hz, fun v q => nomatch q⟩
    · exact ⟨_, hT, fun v q => nomatch q⟩
    · exact ⟨_, hR, fun v q => nomatch q⟩
    · exact ⟨o1, e1, fun v q => by rw [d1] at q; cases q⟩
    · exact ⟨o2, e2, fun v q => by rw [d2] at q; cases q⟩
  keep := fun n h h' st k => by
    obtain ⟨hz, hT, ⟨x, y, hR⟩, h1, h2⟩ := st
    exact ⟨k z (by simp) _ hz, k T (by simp) _ hT, ⟨x, y, k R (by simp) _ hR⟩, h1.at fun o q => k i (by simp) o q, h2.at fun o q => k j (by simp) o q⟩
  item := by
    intro X eP ew eK hc n pins s σ H E I hf st hg
    subst eP ew eK
    obtain ⟨hz, hT, ⟨x0, y0, hR⟩, h1, h2⟩ := st
    obtain ⟨xs, ys, x, y, qx, qy, hx, hy⟩ := hg
    obtain ⟨its, rv, p, _⟩ := I.tuple qx
    obtain ⟨its2, rv2, p2, _⟩ := I.list qy
    obtain ⟨u, hu, ru⟩ := rv.get hx
    obtain ⟨u2, hu2, ru2⟩ := rv2.get hy
    have lz : z < s.heap.objs.size := Heap.lt_size hz
    refine zw_next (wkT X.prog X.w) (wkL X.prog X.w) D hz hT hR h1 h2 p p2.isList (x := u) (y := u2) (by simpa using hu) (by simpa using hu2) fun h' z' R' h1' h2' hN hsz hk => ?_
    refine ⟨_, rfl, wpAny_letOwnedTupleGo_zip (s := { s with heap := h' }) z' fun h'' z'' sb => ?_⟩
    have hN2 : h''.get? s.heap.objs.size = some { cls := .type "tuple", data := .seq #[u, u2] } := (sb.2 _ (Nat.ne_of_gt lz)).trans hN
    have new : ObjOk X.prog X.w (upd H s.heap.objs.size (.tup [x, y])) h'' s.heap.objs.size (.tup [x, y]) := ⟨by show 2 ≤ sizeLine; decide, [u, u2], .cons ru (.cons ru2 .nil), ⟨_, hN2, rfl, _, rfl⟩⟩
    have I1 : Inv X pins σ (upd H s.heap.objs.size (.tup [x, y])) { s with heap := h'' } := I.turnedNew (t' := s.toks) (ch := [z, T, R, i, j])
      (fun c o hb q => (sb.2 c (fun r => hb (by simp [r]))).trans (hk c o (fun r => hb (by simp [r])) (fun r => hb (by simp [r])) (fun r => hb (by simp [r])) (fun r => hb (by simp [r])) q)) hf (Nat.le_refl _) new
    refine ⟨.ref s.heap.objs.size, _, I1, rfl, ⟨_, x, y, rfl, I.hok.fresh (Nat.le_refl _), rfl, fun l hl => by rw [I.tuple_inj hl qx]; exact hx, fun l hl => by rw [I.list_inj hl qy]; exact hy⟩, ⟨z'', ?_, ⟨u, u2, ?_⟩, ?_, ?_⟩, fun c hcm => ?_⟩
    · exact (sb.2 _ D.TIz).trans (hk _ _ D.TIz D.TITO D.TIi1 D.TIi2 hT)
    · exact (sb.2 _ D.TOz).trans R'
    · exact (wkT X.prog X.w).ita h1' fun o q => (sb.2 _ D.i1z).trans q
    · exact (wkL X.prog X.w).ita h2' fun o q => (sb.2 _ D.i2z).trans q
    · have lt : c < s.heap.objs.size := by
        have hc2 := hcm
        simp only [List.mem_cons, List.mem_nil_iff, or_false] at hc2
        rcases hc2 with rfl | rfl | rfl | rfl | rfl
        · exact lz
        · exact Heap.lt_size hT
        · exact Heap.lt_size hR
        · obtain ⟨_, e1, _⟩ := h1; exact Heap.lt_size e1
        · obtain ⟨_, e2, _⟩ := h2; exact Heap.lt_size e2
      rw [upd_ne (Nat.ne_of_lt lt)]
      exact (hf c hcm).1
  done := by
    intro X eP ew eK hc n pins s σ H E I hf st hg
    subst eP ew eK
    obtain ⟨hz, hT, ⟨x0, y0, hR⟩, h1, h2⟩ := st
    obtain ⟨xs, ys, qx, qy, hend⟩ := hg
    obtain ⟨its, rv, p, _⟩ := I.tuple qx
    obtain ⟨its2, rv2, p2, _⟩ := I.list qy
    have l1 := rv.length
    have l2 := rv2.length
    have he : its.toArray[n]? = none ∨ its2.toArray[n]? = none := by
      rcases hend with q | q
      · left; simp; omega
      · right; simp; omega
    exact zw_done (wkT X.prog X.w) (wkL X.prog X.w) (I.ok.hd hc) D hz hT hR h1 h2 p p2.isList he fun h' hk => ⟨rfl, I.turnedL (t' := s.toks) (ch := [z, T, R, i, j])
      (fun c o hb q => hk c o (fun r => hb (by simp [r])) (fun r => hb (by simp [r])) (fun r => hb (by simp [r])) (fun r => hb (by simp [r])) q) hf⟩
  self := fun A n s Q E st h => wpAny_pyIter_zip st.1 h
def iZipM (K : PySem.W.Frag) (ta : TA) : TI := fun σ H R => ta σ H fun vs H1 => ∃ a b xs ys, vs = [.ref a, .ref b] ∧ SqT K H1 a xs ∧ SqL K H1 b ys ∧ R (ItzM K a b) H1
theorem pi_zipM {X : Cx} {e e2 : Expr} {ta : TA} {p pos tpos : Pos} {elts : List Expr} {kk : Nat} (hg : Gl X "zip") (hm : X.mg "zip" = none) (ha : PA X [e, e2] ta)
    (hs : starEach [e, e2] X.env = (false, eval e X.env) :: starEach [e2] X.env := by rfl) (hpl : (backTo pos (starEach [e2] X.env)).any (·.1) = false := by rfl) : PI X (.Tuple elts kk tpos) (.Call (.Name "zip" p) [e, e2] [] pos) (iZipM X.K ta) := by
  refine ⟨fun pins s σ H R I w0 => ?_⟩
  refine Call_ (ld_blt I hg hm PyProof.Rows.boot_zip (PyProof.Rows.callWith_type1 (thn (ha.run pos pins s σ H _ I w0) fun us s1 ⟨vs, H1, I1, r1, q1⟩ => ?_) hs hpl))
  obtain ⟨a, b, xs, ys, ex, qx, qy, q⟩ := q1
  subst ex
  cases r1 with
  | cons r rr =>
    cases rr with
    | cons r' rr =>
      cases rr; cases r; cases r'
      obtain ⟨its, rv, p1, _⟩ := I1.tuple qx
      obtain ⟨its2, rv2, p2, _⟩ := I1.list qy
      obtain ⟨o1, ho1, _⟩ := id p1
      have fr : ∀ c, c ∈ [s1.heap.objs.size + 4, s1.heap.objs.size + 2, s1.heap.objs.size + 3, s1.heap.objs.size, s1.heap.objs.size + 1] → FpOk X pins H1 c := fun c hcm => by
        have e' : c = s1.heap.objs.size + 4 ∨ c = s1.heap.objs.size + 2 ∨ c = s1.heap.objs.size + 3 ∨ c = s1.heap.objs.size ∨ c = s1.heap.objs.size + 1 := by simpa using hcm
        have le : s1.heap.objs.size ≤ c := by
          rcases e' with c | c | c | c | c
          · rw [c]; exact Nat.le_add_right _ _
          · rw [c]; exact Nat.le_add_right _ _
          · rw [c]; exact Nat.le_add_right _ _
          · rw [c]; exact Nat.le_refl _
          · rw [c]; exact Nat.le_add_right _ _
        exact I1.fpOk le (I1.hok.fresh le)
      refine call_zipM (show s1.heap.IsTuple a its.toArray from p1) p2.isList fun h' hz hT hR h1 h2 hk => wpAny_pyIter_zip hz ?_
      have I2 : Inv X pins σ H1 { s1 with heap := h' } := I1.kept (t' := s1.toks) hk
      exact ⟨s1.heap.objs.size + 4, [s1.heap.objs.size + 4, s1.heap.objs.size + 2, s1.heap.objs.size + 3, s1.heap.objs.size, s1.heap.objs.size + 1], _, _, H1, rfl, I2, turn_zipM (PySem.W.ktu_apart s1.heap.objs.size a b (Heap.lt_size ho1) p2.lt), ⟨hz, hT, ⟨_, _, hR⟩, h1, h2⟩, fr, q⟩
/-- a comprehension over zip of a tuple and a list -/
theorem lc_zipM {K : PySem.W.Frag} {a b : Addr} {xs ys : List V} {g : TG} {tt : TT} {te : TE} {vs : List Nat} {σ : L2.St} {H1 : Hp} {D : Addr} {Qd : Hp → Prop} (hlen : xs.length ≤ ys.length) (Pv : Nat → Hp → Prop) (h0 : Pv 0 (upd H1 D (.lst []))) (hl : ∀ i H, Pv i H → SqT K H a xs ∧ SqL K H b ys)
    (hs : ∀ (i : Nat) (x y : V) (T : Addr) (H : Hp), xs[i]? = some x → ys[i]? = some y → Pv i H → H T = none → g (.ref T) (wipe σ vs) (upd H T (.tup [x, y])) fun σ2 H2 => wipe σ2 vs = wipe σ vs ∧ tt σ2 H2 fun b H3 =>
      if b = true then te σ2 H3 fun y H4 => ∃ acc, H4 D = some (.lst acc) ∧ acc.length < sizeLine ∧ Pv (i + 1) (upd H4 D (.lst (acc ++ [y]))) else Pv (i + 1) H3) (hd : ∀ H, Pv xs.length H → Qd H) :
    ∃ W : Nat → Nat → Hp → Prop, (∃ m, W 0 m (upd H1 D (.lst []))) ∧ ∀ i m H, W i m H → ((ItzM K a b).stop i H ∧ Qd H) ∨ ((ItzM K a b).go i H ∧ ∃ Nx : Hp → Prop, (∀ H', Nx H' → ∃ m', m' < m ∧ W (i + 1) m' H') ∧ ∀ x H', (ItzM K a b).yld i H x H' → g x (wipe σ vs) H' fun σ2 H2 => wipe σ2 vs = wipe σ vs ∧ tt σ2 H2 fun b H3 =>
        if b = true then te σ2 H3 fun y H4 => ∃ acc, H4 D = some (.lst acc) ∧ acc.length < sizeLine ∧ Nx (upd H4 D (.lst (acc ++ [y]))) else Nx H3) := by
  refine ⟨fun i m H => m = xs.length - i ∧ i ≤ xs.length ∧ Pv i H, ⟨xs.length, by omega, Nat.zero_le _, h0⟩, ?_⟩
  rintro i m H ⟨rfl, hi, p⟩
  obtain ⟨qx, qy⟩ := hl i H p
  by_cases c : i < xs.length
  · have hx : xs[i]? = some xs[i] := List.getElem?_eq_getElem c
    have hy : ys[i]? = some ys[i] := List.getElem?_eq_getElem (by omega)
    refine .inr ⟨⟨xs, ys, _, _, qx, qy, hx, hy⟩, Pv (i + 1), fun H' p' => ⟨xs.length - (i + 1), by omega, rfl, c, p'⟩, fun v H' yl => ?_⟩
    obtain ⟨T, x', y', rfl, hT, rfl, f1, f2⟩ := yl
    exact hs i x' y' T H (f1 xs qx) (f2 ys qy) p hT
  · have e : i = xs.length := by omega
    subst e
    exact .inl ⟨⟨xs, ys, qx, qy, .inl (Nat.le_refl _)⟩, hd H p⟩
end
/-! ### list.count over data -/
def rCntD (K : PySem.W.Frag) : V → List V → Hp → VK → Prop := fun x xs H Q => ∃ (p : Addr) (ys : List V) (ds : List PyData) (y : V) (d : PyData), x = .ref p ∧ xs = [y] ∧ SqL K H p ys ∧ DpAll K H ys ds ∧ Dp K H y d ∧ PyData.plainAll ds = true ∧ d.plain = true ∧ d.depth ≤ 10 ∧ Q (.int (ds.countP (fun e => PyData.eqv e d) : Nat)) H
theorem mt_dcount {X : Cx} (hu : X.A.units + 64 < cLine) : MtR X "list.count" (rCntD X.K) := by
  intro pins s σ H x xs v us Q I rx rxs h
  obtain ⟨p, ys, ds, y, d, rfl, rfl, hs, hd, hy, p1, p2, dl, q⟩ := h
  cases rx
  obtain ⟨u, rfl, ru⟩ := rxs.one
  obtain ⟨its, rv, hl, hlen⟩ := I.list hs
  obtain ⟨as, r1⟩ := Dp.readsAll I ds _ its hd rv
  obtain ⟨bs, r2⟩ := Dp.reads I d y u hy ru
  refine SeqAt.count_list_data hl.isList r1 r2 p1 p2 (by omega) ?_
  exact ⟨.int _, H, I.tok _, ⟨s.toks, rfl⟩, q⟩
theorem call_tupK {X : Cx} {K : PySem.W.Frag} (h : X.K = K) : CallR X (.type "tuple") (fun xs H Q => ∃ p ys, xs = [V.ref p] ∧ ((SqL K H p ys ∧ ∀ l : Addr, H l = none → Q (.ref l) (upd H l (.tup ys))) ∨ SqT K H p ys ∧ Q (.ref p) H)) := h ▸ call_tuple_of
/-! ### defs that may raise -/
/-- a def that may raise, called by its name -/
structure CalX (P : Program) (w : World) (K : PySem.W.Frag) (mg : Str → Option Value) (base : Heap) (x : Str) (k : Nat) (f : Addr) (ps : List Str) (sp : Sp) : Prop where
  ex : ∃ fd, FnOk P w K mg base (L2.CX P w) k f fd ps sp ∧ Binds K fd ps []
  g : mg x = some (.ref f)
  kp : PySem.W.keepIn K (.ref f) = true
theorem Dfn.calX {P : Program} {w : World} {K : PySem.W.Frag} {mg : Str → Option Value} {base : Heap} {x : Str} {st : Stmt} {f : Addr} {ps : List Str} {k : Nat} {sp : Sp} (D : Dfn K mg x st f ps) (h : ∀ fd, Fun K x x st f fd → FnOk P w K mg base (L2.CX P w) k f fd ps sp) : CalX P w K mg base x k f ps sp := by
  obtain ⟨fd, F, b⟩ := D.ex
  exact ⟨⟨fd, h fd F, b⟩, D.g, F.kp⟩
theorem pe_cX {X : Cx} {x : Str} {k : Nat} {f : Addr} {ps : List Str} {sp : Sp} {t : TA} {e : Expr} {es : List Expr} {p pos : Pos} {E : L2.St → XK} (c : CalX X.prog X.w X.K X.mg X.base x k f ps sp) (hr : Room k X.A) (hg : Gl X x) (hx : ∀ σ, L2.PassesAt (L2.CX X.prog X.w) X σ (E σ))
    (ha : PA X (e :: es) t) (hdb : (x == ("__debug__" : Str)) = false := by decide) (he : starEach (e :: es) X.env = (false, eval e X.env) :: starEach es X.env := by rfl) (hpl : (backTo pos (starEach es X.env)).any (·.1) = false := by rfl) :
    PE X (.Call (.Name x p) (e :: es) [] pos) (L2.tCallS sp E t) := by
  obtain ⟨fd, F, b⟩ := c.ex
  exact L2.pe_callS F hr hg c.g c.kp b hx ha hdb he hpl
/-- the making of an error with one field -/
def spEI1 (C : Addr) (f : Str) : Sp := fun vs H Q _ => ∃ a v, vs = [.ref a, v] ∧ H a = some (L2.exo a C none) ∧ ∀ dx, H dx = none → dx ≠ a → Q .non (upd (upd H dx (L2.exd dx [(f, v)])) a (L2.exo a C (some dx)))
theorem raise1 {C : Addr} {f : Str} {v : V} {H : Hp} {Q E : XK} (k : ∀ d H', H' d = some (.xd [(f, v)]) → Same H H' → Q (.ref C) (some d) H') : ∀ a, H a = none → spEI1 C f [.ref a, v] (upd H a (L2.exo a C none))
    (fun u H2 => u = .non ∧ ∃ (d : Addr) (fs : List (Str × V)), H2 a = some (L2.exo a C (some d)) ∧ H2 d = some (L2.exd d fs) ∧ H d = none ∧ Q (.ref C) (some d) (upd (L2.del H2 a) d (.xd fs))) E := fun a na => by
  refine ⟨a, v, rfl, upd_same, fun dx nx ne => ⟨rfl, dx, [(f, v)], upd_same, by rw [upd_ne ne, upd_same], by rwa [upd_ne ne] at nx, k dx _ upd_same fun b o e => ?_⟩⟩
  rw [upd_ne ne] at nx
  have ba : b ≠ a := ne_of_none e na
  have bd : b ≠ dx := ne_of_none e nx
  rw [upd_ne bd, L2.del_ne ba, upd_ne ba, upd_ne bd, upd_ne ba]
  exact e
/-- in a suite the term may not speak of the suite's own context -/
theorem ix_listK {X : Cx} {K : PySem.W.Frag} (hK : X.K = K) : IxR X (rIxL K) := by
  subst hK
  exact ix_list
theorem mt_dcountK {X : Cx} {K : PySem.W.Frag} (hK : X.K = K) (hu : X.A.units + 64 < cLine) : MtR X "list.count" (rCntD K) := by
  subst hK
  exact mt_dcount hu
/-! ### a suite that is told of any error of the text -/
def rIsZ (K : PySem.W.Frag) (a : Addr) (cls : Value) (d : Option Addr) : List V → Hp → VK → Prop := fun xs H Q => ∃ D dd : Addr, cls = .ref D ∧ d = some dd ∧ IsC K D ∧ rIsX K D a dd xs H Q
theorem call_isZ {X : Cx} {K : PySem.W.Frag} {a : Addr} {cls : Value} {d : Option Addr} {oe : Obj} {pn : List (Addr × Obj)} (hK : X.K = K) (hz : L2.Zc cls d oe) (hf : ∃ vs, oe.data = .fields vs) : CallR (X.suite a ((a, oe) :: pn)) (.builtin "isinstance") (rIsZ K a cls d) := by
  subst hK
  rintro pins s σ H xs us Q I r ⟨D, dd, rfl, rfl, T, h⟩
  exact call_isX T hz hf pins s σ H xs us Q I r h
def rIsTZ (K : PySem.W.Frag) (a : Addr) (cls : Value) (d : Option Addr) : List V → Hp → VK → Prop := fun xs H Q => ∃ D : Addr, IsC K D ∧ rIsT K D a cls d xs H Q
theorem call_isTZ {X : Cx} {K : PySem.W.Frag} {a : Addr} {cls : Value} {d : Option Addr} {oe : Obj} {pn : List (Addr × Obj)} (hK : X.K = K) (hz : L2.Zc cls d oe) (hf : ∃ vs, oe.data = .fields vs) : CallR (X.suite a ((a, oe) :: pn)) (.builtin "isinstance") (rIsTZ K a cls d) := by
  subst hK
  rintro pins s σ H xs us Q I r ⟨D, T, h⟩
  exact call_isT T hz hf pins s σ H xs us Q I r h
def tXfZ (K : PySem.W.Frag) (a : Addr) (cls : Value) (d : Option Addr) (f : Str) (te : TE) : TE := fun σ H Q => ∃ C : Addr, L2.XfC K C ∧ PySem.W.findIn K (.ref C) f = some none ∧ L2.tXf a cls d C f te σ H Q
theorem pe_xfZ {X : Cx} {K : PySem.W.Frag} {a : Addr} {oe : Obj} {cls : Value} {d : Option Addr} {pn : List (Addr × Obj)} {e : Expr} {te : TE} {pos : Pos} {n : Str} (hK : X.K = K) (hz : L2.Zc cls d oe) (hf : ∃ vs, oe.data = .fields vs) (he : PE (X.suite a ((a, oe) :: pn)) e te) (hb : attributeBase e n X.env (eval e X.env) = eval e X.env := by rfl) :
    PE (X.suite a ((a, oe) :: pn)) (.Attribute e n pos) (tXfZ K a cls d n te) := by
  subst hK
  refine ⟨fun pins s σ H Q I ⟨C, T, no, h⟩ => ?_⟩
  exact (L2.pe_xf T no hz hf he hb).run pins s σ H Q I h
/-- a method of a builtin, the term over a K of its own -/
theorem pe_bmK {X : Cx} {K : PySem.W.Frag} {o e : Expr} {es : List Expr} {to : TE} {t : TA} {name : Str} {apos cpos : Pos} {T id : String} {r : V → List V → Hp → VK → Prop} (hK : X.K = K) (pa : PlainAttrs T) (slot : Slot T name id) (hty : typeOf (.builtin id) = pure (.type "method_descriptor")) (hm : L2.MtR X id r) (ho : PE X o to) (ha : PA X (e :: es) t)
    (hbase : attributeBase o name X.env (eval o X.env) = eval o X.env := by rfl)
    (hfew : ((backTo cpos (starEach (e :: es) X.env)).all (fun x => !x.1) && (backToKw cpos (keywordEach [] X.env)).all (fun x => x.1.isSome) && decide ((e :: es).length + ([] : List Keyword).length + (if ([] : List Keyword).isEmpty then 0 else 1) < 30)) = true := by rfl)
    (hline : (apos.endLine == cpos.line) = true := by rfl) (hs : starEach (e :: es) X.env = (false, eval e X.env) :: starEach es X.env := by rfl) (hplain : (backTo cpos (starEach es X.env)).any (·.1) = false := by rfl) :
    PE X (.Call (.Attribute o name apos) (e :: es) [] cpos) (L2.tBM K T r to t) := by
  subst hK
  exact pe_bm pa slot hty hm ho ha hbase hfew hline hs hplain
theorem clsIn_of {K : PySem.W.Frag} {B : Addr} (h : PySem.W.hasDictIn K B = true) : (PySem.W.clsIn K B).isSome = true := by
  obtain ⟨cd, hc, _⟩ := PySem.W.any_some h
  rw [hc] <;> rfl
/-- whether the error D is a B -/
theorem kit_of {K : PySem.W.Frag} {D B : Addr} {b : Bool} (xB : L2.XfC K B) (tB : PySem.W.typeIn K (.ref B) = some (.type "type")) (sd : PySem.W.subIn K (.ref D) (.ref D) = some true) (s : PySem.W.subIn K (.ref D) (.ref B) = some b) : PySem.W.kitOne K (.ref D) (.ref B) = some b := by
  unfold PySem.W.kitOne
  by_cases e : D = B
  · subst e
    rw [sd] at s
    rw [if_pos (beq_self_eq_true _)]
    exact s
  · rw [if_neg (by simpa using e)]
    have e2 : ((PySem.W.clsIn K B).isSome && PySem.W.typeIn K (.ref B) == some (.type "type")) = true := by rw [clsIn_of xB.hdC, tB] <;> rfl
    show (if ((PySem.W.clsIn K B).isSome && PySem.W.typeIn K (.ref B) == some (.type "type")) = true then PySem.W.subIn K (.ref D) (.ref B) else none) = some b
    rw [if_pos e2]
    exact s
theorem kit_ar {K : PySem.W.Frag} {D : Addr} {b : Bool} {x : String} (hm : PySem.W.kitMeta x = true) (s : PySem.W.subIn K (.ref D) (.type x) = some b) : PySem.W.kitOne K (.ref D) (.type x) = some b := by
  unfold PySem.W.kitOne
  rw [if_neg (by intro z; exact absurd (beq_iff_eq.mp z) (by intro q; cases q))]
  show (if PySem.W.kitMeta x = true then PySem.W.subIn K (.ref D) (.type x) else none) = some b
  rw [if_pos hm]
  exact s
/-- the text of repr, of what has a plain one -/
inductive ReprV : V → Str → Prop
  | int (i : Int) (h : i.natAbs.log2 < 1920) : ReprV (.int i) (toString i : String)
  | non : ReprV .non "None"
  | bl (b : Bool) : ReprV (.bl b) (if b then "True" else "False")
  | str (x : Str) (h : (reprText x).length ≤ sizeLine) : ReprV (.str x) (reprText x)
theorem call_reprP {X : Cx} : CallR X (.builtin "repr") (fun xs H Q => ∃ v s, xs = [v] ∧ ReprV v s ∧ Q (.str s) H) := by
  rintro pins s σ H xs us Q I r ⟨v, x, rfl, h, q⟩
  match us, r with
  | [_], .cons rx .nil =>
    cases h with
    | int i h =>
      obtain ⟨t, rfl⟩ := rx
      exact PySem.P.repr_of_int h ⟨.str _, H, I.tok _, ⟨_, rfl⟩, q⟩
    | non =>
      cases rx
      exact PySem.P.repr_of_none ⟨.str _, H, I.tok _, ⟨_, rfl⟩, q⟩
    | bl b =>
      cases rx
      cases b <;> exact PySem.P.repr_of_bool ⟨.str _, H, I.tok _, ⟨_, rfl⟩, q⟩
    | str x h =>
      obtain ⟨t, rfl⟩ := rx
      exact PySem.P.repr_of_str ⟨.str _, H, I.tok _, ⟨_, rfl⟩, q⟩ h
theorem exm_of {K : PySem.W.Frag} {D B : Addr} {b : Bool} (xB : L2.XfC K B) (tB : PySem.W.typeIn K (.ref B) = some (.type "type")) (s : PySem.W.subIn K (.ref D) (.ref B) = some b) : PySem.W.exmOne K (.ref D) (.ref B) = some b := by
  unfold PySem.W.exmOne
  rw [if_pos (by rw [xB.exC] <;> rfl)]
  have e2 : ((PySem.W.clsIn K B).isSome && PySem.W.typeIn K (.ref B) == some (.type "type")) = true := by rw [clsIn_of xB.hdC, tB] <;> rfl
  show (if ((PySem.W.clsIn K B).isSome && PySem.W.typeIn K (.ref B) == some (.type "type")) = true then PySem.W.subIn K (.ref D) (.ref B) else none) = some b
  rw [if_pos e2]
  exact s
/-! ### defs in which lambdas are made -/
theorem DfnT.cal {P : Program} {w : World} {K : PySem.W.Frag} {mg : Str → Option Value} {base : Heap} {x : Str} {st : Stmt} {f c : Addr} {ps : List Str} {k : Nat} {sp : Sp} (D : DfnT K mg x st f c ps) (h : ∀ fd, FunT K x x st f c fd → FnOk P w K mg base CX0 k f fd ps sp) : Cal P w K mg base x k f ps sp := by
  obtain ⟨fd, F, b⟩ := D.ex
  exact ⟨⟨fd, h fd F, b⟩, D.g, F.kp⟩
/-- x(lambda: body), x a def of the text -/
theorem pe_lamc {X : Cx} {T : List (Addr × Str)} {TT : (XK → Hp → VK → Prop) → Hp → VK → Prop} {x a : Str} {g c P : Addr} {k : Nat} {st : Stmt} {Ng : List Str} {params : Arguments} {body : Expr} {scope : Scope} {t : XK → TE} {p lpos pos : Pos} (D : Dfn X.K X.mg x st g [a]) (Sg : FnScope Ng [a] (defScope st)) (hNg : Ng[0]? = some a) (hva : L2.Vis (defScope st) a)
    (hG : ∀ cdv : Value, LamX.GivesTo X Ng x (defScope st) g cdv (defBody st) a (X.env.qual ++ "<lambda>") TT) (TB : LamX.TabB X.base X.mg c P) (hcode : X.env.code = .ref c) (hmT : (P, X.env.qual ++ "<lambda>") ∈ T) (hu : ∀ p ∈ T, p.1 = P → p.2 = X.env.qual ++ "<lambda>") (hr : Room (k + 2) X.A) (Ls : LamX.LamS X.env.scope scope) (hdef : defaultsOf params X.env = ([], []))
    (hbind : ∀ (q : Str) (cl : List (Str × Addr)) (pm cv ctv : Value), bindArgs (PySem.W.kla_fn "<lambda>" q params body scope cl pm cv ctv) ⟨[], []⟩ = pure [])
    (hbody : ∀ (A : Around) (outer : List Env) (s : Shared) (H : Hp) (E : XK) (f c' : Addr), Room k (A.deeper (LamX.lamEnv X scope s.heap.objs.size f c')) → PE (LamX.lamCx X A outer s H E scope f c') body (t E))
    (hg : Gl X x := by rfl) (hdb : (x == ("__debug__" : Str)) = false := by decide) (hd : (a == ("__debug__" : Str)) = false := by decide) (hcd : (a == ("__classdict__" : Str)) = false := by decide) :
    PE X (.Call (.Name x p) [.Lambda params body scope lpos] [] pos) (LamX.tLam T TT t) := by
  obtain ⟨fd, F, b⟩ := D.ex
  obtain ⟨oc, od, kV, doc, pm, an, cdv, ct, osl, rfl, lk, hc⟩ := F.ex
  exact LamX.pe_lamcall hg D.g F.kp lk hc b Sg hNg hva (hG cdv) TB hcode hmT hu hr Ls hdef hbind hbody hdb hd hcd
/-- what stays of a heap over calls that make lambdas -/
theorem ExtN.lst {H H' : Hp} (e : LamX.ExtN H H') {a : Addr} {xs : List V} (h : H a = some (.lst xs)) : H' a = some (.lst xs) := e _ _ h fun _ z => nomatch z
theorem mk_dfnT {K : PySem.W.Frag} {h : Heap} {mg : Str → Option Value} {x : Str} {st : Stmt} {f c : Addr} {oc : Value} {od an : Option Addr} {osl : Array (Option Value)} {kV doc pm ct : Value} {ps : List Str} (X : K.In h) (G : h.Ns mainGlobals mg) (g : PySem.W.nsIn K mainGlobals x = some (some (.ref f)))
    (l : K.lookup f = some ⟨oc, od, .func (PySem.W.fnOf x x (defArgs st) (defBody st) (defScope st) .none kV doc pm an (.ref c) ct), osl⟩) (cd : PySem.W.codeIn K (.ref c) x = true) (k : PySem.W.keepIn K (.ref f) = true)
    (hb : ∀ (kV doc pm : Value) (an : Option Addr) (cdv ct : Value) (us : List Value), us.length = ps.length → bindArgs (PySem.W.fnOf x x (defArgs st) (defBody st) (defScope st) .none kV doc pm an cdv ct) ⟨us, []⟩ = pure (ps.zip us)) : DfnT K mg x st f c ps :=
  ⟨⟨_, ⟨⟨oc, od, kV, doc, pm, an, ct, osl, rfl, l, cd⟩, k⟩, .all (hb kV doc pm an (.ref c) ct)⟩, PySem.W.mg_of X G g⟩
/-- what the end knows of a table and its code object -/
def TabE (K : PySem.W.Frag) (h : Heap) (c P : Addr) : Prop := h.get? P = some { cls := .none, data := .fields #[] } ∧ PySem.W.codeHdIn K c P = true ∧ K.lookup P = none
theorem tabE_of {K : PySem.W.Frag} {h : Heap} {c P : Addr} (h1 : h.get? P = some (PySem.W.tabObj #[])) (h2 : PySem.W.codeHdIn K c P = true) (h3 : K.lookup P = none) : TabE K h c P := ⟨h1, h2, h3⟩
/-! ### the making of errors -/
def spEI2 (C : Addr) (f g : Str) : Sp := fun vs H Q _ => ∃ a v u, vs = [.ref a, v, u] ∧ H a = some (L2.exo a C none) ∧ ∀ dx, H dx = none → dx ≠ a → Q .non (upd (upd (upd H dx (L2.exd dx [(f, v)])) a (L2.exo a C (some dx))) dx (L2.exd dx [(g, u), (f, v)]))
section
variable {P : Program} {w : World} {K : PySem.W.Frag} {mg : Str → Option Value} {base : Heap} {L : LA}
abbrev N_InvalidRowinit : List Str := ["self", "part", "at"]
theorem sc_InvalidRowinit : FnScope N_InvalidRowinit ["self", "part", "at"] (defScope st_InvalidRow_init) := ⟨rfl, rfl, rfl, by decide +kernel, rfl, by decide +kernel, by decide +kernel⟩
theorem fn_InvalidRowinit (T : LX K mg L) {fd : FuncData} (F : Fun K "__init__" "InvalidRow.__init__" st_InvalidRow_init L.i_InvalidRow fd) : FnOk P w K mg base CX0 1 L.i_InvalidRow fd ["self", "part", "at"] (spEI2 L.e_InvalidRow "part" "at") := by
  have nd := sc_InvalidRowinit.nd
  refine F.ok sc_InvalidRowinit (fun vs H Q E h => ?_) (fun cdv A outer S H vs Q E hr h => ?_)
  · obtain ⟨a, v, v2, rfl, _⟩ := h
    rfl
  · obtain ⟨a, v, v2, rfl, ha, k⟩ := h
    refine ⟨_, (pss_cons (ps_ae (pv 0) (pv 1))
       (pss_one (ps_ae (pv 0) (pv 2)))), ?_⟩
    exact ⟨_, rfl, _, rfl, a, L.e_InvalidRow, rfl, T.ae_InvalidRow, T.ne_InvalidRow_part, .inl ⟨ha, fun dx nx ne => ⟨_, rfl, _, rfl, a, L.e_InvalidRow, rfl, T.ae_InvalidRow, T.ne_InvalidRow_at, .inr ⟨dx, _, upd_same, by rw [upd_ne ne, upd_same], (by show 1 ≤ 900; decide), k dx nx ne⟩⟩⟩⟩
end
theorem mk_InvalidRow {X : Cx} {L : LA} (T : LX X.K X.mg L) (hr : Room 2 X.A) {e e2 : Expr} {ta : TA} {p pos : Pos} (hg : Gl X "InvalidRow") (ha : PA X [e, e2] ta)
    (he : starEach (e :: [e2]) X.env = (false, eval e X.env) :: starEach [e2] X.env := by rfl) (hpl : (backTo pos (starEach [e2] X.env)).any (·.1) = false := by rfl) :
    L2.PMk X (.Call (.Name "InvalidRow" p) [e, e2] [] pos) (L2.tMkO L.e_InvalidRow (spEI2 L.e_InvalidRow "part" "at") [] ta) := by
  obtain ⟨fd, F, b⟩ := T.in_InvalidRow
  exact pmk_ae T.ae_InvalidRow T.hi_InvalidRow T.ti_InvalidRow (fn_InvalidRowinit T F) hr b .nil pass0 hg T.ge_InvalidRow ha (by decide) he hpl
section
variable {P : Program} {w : World} {K : PySem.W.Frag} {mg : Str → Option Value} {base : Heap} {L : LA}
abbrev N_InvalidBoundinit : List Str := ["self", "part"]
theorem sc_InvalidBoundinit : FnScope N_InvalidBoundinit ["self", "part"] (defScope st_InvalidBound_init) := ⟨rfl, rfl, rfl, by decide +kernel, rfl, by decide +kernel, by decide +kernel⟩
theorem fn_InvalidBoundinit (T : LX K mg L) {fd : FuncData} (F : Fun K "__init__" "InvalidBound.__init__" st_InvalidBound_init L.i_InvalidBound fd) : FnOk P w K mg base CX0 1 L.i_InvalidBound fd ["self", "part"] (spEI1 L.e_InvalidBound "part") := by
  have nd := sc_InvalidBoundinit.nd
  refine F.ok sc_InvalidBoundinit (fun vs H Q E h => ?_) (fun cdv A outer S H vs Q E hr h => ?_)
  · obtain ⟨a, v, rfl, _⟩ := h
    rfl
  · obtain ⟨a, v, rfl, ha, k⟩ := h
    refine ⟨_, (pss_one (ps_ae (pv 0) (pv 1))), ?_⟩
    exact ⟨_, rfl, _, rfl, a, L.e_InvalidBound, rfl, T.ae_InvalidBound, T.ne_InvalidBound_part, .inl ⟨ha, fun dx nx ne => k dx nx ne⟩⟩
end
theorem mk_InvalidBound {X : Cx} {L : LA} (T : LX X.K X.mg L) (hr : Room 2 X.A) {e : Expr} {ta : TA} {p pos : Pos} (hg : Gl X "InvalidBound") (ha : PA X [e] ta)
    (he : starEach (e :: []) X.env = (false, eval e X.env) :: starEach [] X.env := by rfl) (hpl : (backTo pos (starEach [] X.env)).any (·.1) = false := by rfl) :
    L2.PMk X (.Call (.Name "InvalidBound" p) [e] [] pos) (L2.tMkO L.e_InvalidBound (spEI1 L.e_InvalidBound "part") [] ta) := by
  obtain ⟨fd, F, b⟩ := T.in_InvalidBound
  exact pmk_ae T.ae_InvalidBound T.hi_InvalidBound T.ti_InvalidBound (fn_InvalidBoundinit T F) hr b .nil pass0 hg T.ge_InvalidBound ha (by decide) he hpl
section
variable {P : Program} {w : World} {K : PySem.W.Frag} {mg : Str → Option Value} {base : Heap} {L : LA}
abbrev N_InvalidCallinit : List Str := ["self", "call"]
theorem sc_InvalidCallinit : FnScope N_InvalidCallinit ["self", "call"] (defScope st_InvalidCall_init) := ⟨rfl, rfl, rfl, by decide +kernel, rfl, by decide +kernel, by decide +kernel⟩
theorem fn_InvalidCallinit (T : LX K mg L) {fd : FuncData} (F : Fun K "__init__" "InvalidCall.__init__" st_InvalidCall_init L.i_InvalidCall fd) : FnOk P w K mg base CX0 1 L.i_InvalidCall fd ["self", "call"] (spEI1 L.e_InvalidCall "call") := by
  have nd := sc_InvalidCallinit.nd
  refine F.ok sc_InvalidCallinit (fun vs H Q E h => ?_) (fun cdv A outer S H vs Q E hr h => ?_)
  · obtain ⟨a, v, rfl, _⟩ := h
    rfl
  · obtain ⟨a, v, rfl, ha, k⟩ := h
    refine ⟨_, (pss_one (ps_ae (pv 0) (pv 1))), ?_⟩
    exact ⟨_, rfl, _, rfl, a, L.e_InvalidCall, rfl, T.ae_InvalidCall, T.ne_InvalidCall_call, .inl ⟨ha, fun dx nx ne => k dx nx ne⟩⟩
end
theorem mk_InvalidCall {X : Cx} {L : LA} (T : LX X.K X.mg L) (hr : Room 2 X.A) {e : Expr} {ta : TA} {p pos : Pos} (hg : Gl X "InvalidCall") (ha : PA X [e] ta)
    (he : starEach (e :: []) X.env = (false, eval e X.env) :: starEach [] X.env := by rfl) (hpl : (backTo pos (starEach [] X.env)).any (·.1) = false := by rfl) :
    L2.PMk X (.Call (.Name "InvalidCall" p) [e] [] pos) (L2.tMkO L.e_InvalidCall (spEI1 L.e_InvalidCall "call") [] ta) := by
  obtain ⟨fd, F, b⟩ := T.in_InvalidCall
  exact pmk_ae T.ae_InvalidCall T.hi_InvalidCall T.ti_InvalidCall (fn_InvalidCallinit T F) hr b .nil pass0 hg T.ge_InvalidCall ha (by decide) he hpl
section
variable {P : Program} {w : World} {K : PySem.W.Frag} {mg : Str → Option Value} {base : Heap} {L : LA}
abbrev N_LimitExceededinit : List Str := ["self", "limit"]
theorem sc_LimitExceededinit : FnScope N_LimitExceededinit ["self", "limit"] (defScope st_LimitExceeded_init) := ⟨rfl, rfl, rfl, by decide +kernel, rfl, by decide +kernel, by decide +kernel⟩
theorem fn_LimitExceededinit (T : LX K mg L) {fd : FuncData} (F : Fun K "__init__" "LimitExceeded.__init__" st_LimitExceeded_init L.i_LimitExceeded fd) : FnOk P w K mg base CX0 1 L.i_LimitExceeded fd ["self", "limit"] (spEI1 L.e_LimitExceeded "limit") := by
  have nd := sc_LimitExceededinit.nd
  refine F.ok sc_LimitExceededinit (fun vs H Q E h => ?_) (fun cdv A outer S H vs Q E hr h => ?_)
  · obtain ⟨a, v, rfl, _⟩ := h
    rfl
  · obtain ⟨a, v, rfl, ha, k⟩ := h
    refine ⟨_, (pss_one (ps_ae (pv 0) (pv 1))), ?_⟩
    exact ⟨_, rfl, _, rfl, a, L.e_LimitExceeded, rfl, T.ae_LimitExceeded, T.ne_LimitExceeded_limit, .inl ⟨ha, fun dx nx ne => k dx nx ne⟩⟩
end
theorem mk_LimitExceeded {X : Cx} {L : LA} (T : LX X.K X.mg L) (hr : Room 2 X.A) {e : Expr} {ta : TA} {p pos : Pos} (hg : Gl X "LimitExceeded") (ha : PA X [e] ta)
    (he : starEach (e :: []) X.env = (false, eval e X.env) :: starEach [] X.env := by rfl) (hpl : (backTo pos (starEach [] X.env)).any (·.1) = false := by rfl) :
    L2.PMk X (.Call (.Name "LimitExceeded" p) [e] [] pos) (L2.tMkO L.e_LimitExceeded (spEI1 L.e_LimitExceeded "limit") [] ta) := by
  obtain ⟨fd, F, b⟩ := T.in_LimitExceeded
  exact pmk_ae T.ae_LimitExceeded T.hi_LimitExceeded T.ti_LimitExceeded (fn_LimitExceededinit T F) hr b .nil pass0 hg T.ge_LimitExceeded ha (by decide) he hpl

/-! ### repr of plain lists, tuples and of the empty dict, whatever the guards are -/
theorem codeAny_guards {M : Model} {A : Around} {c : Code} {R : Result → Shared → Prop} {s : Shared} (h : ∀ g, codeAny M { A with guards := some g } c R s) : codeAny M A c R s := fun Γ p hc hb =>
  h (guardsOf Γ.below) Γ p hc ⟨hb.1, hb.2.1, hb.2.2.1, fun g' e => by cases e; rfl, hb.2.2.2.2⟩
def listGF (self : Value) : Code × Pos → Bool := fun
  | (.builtin "list.__repr__.loop" ⟨v :: _, _⟩, _) => Builtin.List.listSameRef v self
  | _ => false
theorem listGF_cons (self : Value) (id : String) (v : Value) (rest : List Value) (kw : List (Str × Value)) (p : Pos) : listGF self (.builtin id ⟨v :: rest, kw⟩, p) = (decide (id = "list.__repr__.loop") && Builtin.List.listSameRef v self) := by
  by_cases h : id = "list.__repr__.loop"
  · subst h
    simp [listGF]
  · unfold listGF
    split
    · simp_all
    · simp [h]
theorem listGF_nil (self : Value) (id : String) (kw : List (Str × Value)) (p : Pos) : listGF self (.builtin id ⟨[], kw⟩, p) = false := by
  unfold listGF
  split <;> simp_all
theorem listGF_pos (self : Value) (c : Code) (p : Pos) : listGF self (c, p) = listGF self (c, default) := by
  cases c with
  | builtin id args =>
    obtain ⟨pos, kw⟩ := args
    cases pos with
    | nil => rw [listGF_nil, listGF_nil]
    | cons v rest => rw [listGF_cons, listGF_cons]
  | _ => rfl
theorem listGF_off (self : Value) (c : Code) (p : Pos) (hc : c.isGuard = false) : listGF self (c, p) = false := by
  cases c with
  | builtin id args =>
    obtain ⟨pos, kw⟩ := args
    cases pos with
    | nil => exact listGF_nil _ _ _ _
    | cons v rest =>
      simp [Code.isGuard, guardIds] at hc
      rw [listGF_cons]
      simp [hc]
  | _ => rfl
def listHit (g : List Code) (a : Addr) : Bool := g.any fun c => listGF (.ref a) (c, default)
def tupHit (g : List Code) (a : Addr) : Bool := g.any fun c => tupGuardF (.ref a) (c, default)
def dictHit (g : List Code) (a : Addr) : Bool := g.any fun c => dictGuardF (.ref a) (c, default)
section
variable {prog : Program} {w : World} {A : Around} {E : Value → Shared → Prop} {s : Shared} {a : Addr} {g : List Code}
theorem own_list_repr {Q : Fin → Shared → Prop} {o : Obj} {x : Value} {l : List Value} {n : Nat} {c : Code} {b : Nat} (hg : A.guards = some g) (hget : s.heap.get? a = some o) (hd : o.data = .seq (x :: l).toArray n)
    (h1 : listHit g a = true → Q (.done (.ret (.str "[...]" s.toks))) { s with toks := s.toks + 1 })
    (h2 : listHit g a = false → wpAny (model prog w) (A.under c) (do again (.builtin "list.__repr__.loop" ⟨[.ref a, rawInt 0, ← newList [], rawInt b], []⟩)) Q E s) :
    wpOwn (model prog w) A c (Builtin.listReprAt b ⟨[.ref a], []⟩) Q E s := by
  intro Γ p hc hb
  have e : Γ.below.any (listGF (.ref a)) = listHit g a := by
    rw [any_eq_guards (listGF_off _) (listGF_pos _), hb.2.2.2.1 g hg]
    rfl
  unfold Builtin.listReprAt
  simp [slotArgs, Builtin.List.listItems, seqItems?, Sem.wp_load_of (h := hget), hd, stack]
  show Sem.wp (model prog w) Γ (if (Γ.below.any (listGF (.ref a))) = true then _ else _) _ _ p s
  rw [e]
  cases q : listHit g a with
  | true =>
    rw [if_pos rfl]
    simp [rule, retStr, ret]
    exact h1 q
  | false =>
    rw [if_neg Bool.false_ne_true]
    exact h2 q Γ p (hc ▸ hb.in)
theorem call_list_flat {Q : Value → Shared → Prop} {oa : Obj} {x : Value} {l : List Value} {na : Nat} {ts : List Str} (hTy : s.TypeIs (.ref a) "list") (hg : A.guards = some g)
    (ha : s.heap.get? a = some oa) (hda : oa.data = .seq (x :: l).toArray na) (hlen : ts.length = (x :: l).toArray.size)
    (hT : ∀ (i : Nat) (y : Value), (x :: l).toArray[i]? = some y → ∃ t, ts[i]? = some t ∧ ReprIs prog w y t)
    (hQ : ∀ h' u tk, (∀ b o, s.heap.get? b = some o → h'.get? b = some o) → Q (.str (if listHit g a then "[...]" else listText ts) u) { s with heap := h', toks := tk })
    (hsz : (listText ts).length ≤ sizeLine) : wpAny (model prog w) A (call (.builtin "list.__repr__") [.ref a]) Q E s := by
  refine wpAny_call (codeAny_call_builtin_own (Code.quiet_builtin _ (by decide +kernel)) F.entry_list_repr (F.slot_list_repr.check _ _ _ _ _ _ _ _ hTy (F.args_list_repr_1 _) (own_list_repr (b := 0) hg ha hda (fun q => ?_) fun q => ?_)))
  · have := hQ s.heap s.toks (s.toks + 1) fun _ _ z => z
    rw [q, if_pos rfl] at this
    exact this
  · have hQ : ∀ h' u tk, (∀ b o, s.heap.get? b = some o → h'.get? b = some o) → Q (.str (listText ts) u) { s with heap := h', toks := tk } := fun h' u tk k => by
      have := hQ h' u tk k
      rw [q, if_neg Bool.false_ne_true] at this
      exact this
    refine wpAny_bind (m := newList []) (wpAny_newObj_type ?_)
    refine wpAny_pure ⟨F.quiet_list_repr_loop _, ?_⟩
    exact codeAny_list_repr_start (P := s.heap.objs.size) (Nat.ne_of_lt (Heap.lt_size ha)) hlen hT (Heap.get?_push_of_some _ ha) hda (Heap.get?_push_size _ rfl) (fun h' u tk k => hQ h' u tk fun b o z => k b o (Nat.ne_of_lt (Heap.lt_size z)) (Heap.get?_push_of_some _ z)) (by omega)
theorem call_tup_flat {Q : Value → Shared → Prop} {o : Obj} {items : Array Value} {n : Nat} {ts : List Str} (hTy : s.TypeIs (.ref a) "tuple") (hg : A.guards = some g) (ha : s.heap.get? a = some o) (hd : o.data = .seq items n) (hT : ReprAll prog w items.toList ts)
    (hQ : ∀ u tk, Q (.str (if tupHit g a then "(...)" else tupleText ts) u) { s with toks := tk }) (hsz : (tupleText ts).length ≤ sizeLine) : wpAny (model prog w) A (call (.builtin "tuple.__repr__") [.ref a]) Q E s := by
  refine wpAny_call (codeAny_call_builtin_own (Code.quiet_builtin _ (by decide +kernel)) F.entry_tuple_repr (F.slot_tuple_repr.check _ _ _ _ _ _ _ _ hTy (F.args_tuple_repr_1 _) ?_))
  show wpOwn _ _ _ (Builtin.tupleReprAt 0 ⟨[.ref a], []⟩) _ _ _
  rw [tuple_repr_tree, tupleReprUnderWay_eq]
  refine wpOwn_bind (wpOwn_stackTailAny hg (tupGuardF_off _) (tupGuardF_pos _) ?_)
  cases q : (g.any fun c => tupGuardF (.ref a) (c, default)) with
  | true =>
    have q : tupHit g a = true := q
    rw [if_pos rfl]
    refine wpOwn_of_wpAny ?_
    have := hQ s.toks (s.toks + 1)
    rw [q, if_pos rfl] at this
    intro Γ p hΓ
    simp [rule, retStr, ret]
    exact this
  | false =>
    have q : tupHit g a = false := q
    rw [if_neg Bool.false_ne_true]
    refine wpOwn_of_wpAny (wpAny_tupleReprRest ha hd hT (fun u tk => ?_) (by omega))
    have := hQ u tk
    rw [q, if_neg Bool.false_ne_true] at this
    exact this
end
theorem call_dict_flat {prog : Program} {w : World} {A : Around} {E : Value → Shared → Prop} {s : Shared} {a : Addr} {g : List Code} {Q : Value → Shared → Prop} {o : Obj} {n : Nat} (hTy : s.TypeIs (.ref a) "dict") (hg : A.guards = some g) (ha : s.heap.get? a = some o) (hd : o.data = .dict #[] n) (hsys : (a == sysModules) = false)
    (hQ : ∀ u tk, Q (.str (if dictHit g a then "{...}" else "{}") u) { s with toks := tk }) : wpAny (model prog w) A (call (.builtin "dict.__repr__") [.ref a]) Q E s := by
  refine wpAny_call (codeAny_call_builtin_own (Code.quiet_builtin _ (by decide +kernel)) F.entry_dict_repr (F.slot_dict_repr.check _ _ _ _ _ _ _ _ hTy (F.args_dict_repr_1 _) ?_))
  show wpOwn _ _ _ (Builtin.dictReprAt 0 ⟨[.ref a], []⟩) _ _ _
  unfold Builtin.dictReprAt
  refine wpOwn_bind (wpOwn_of_wpAny ?_)
  unfold Builtin.Dict.dictSlotNone
  refine wpAny_bind (wpAny_notOrdered_dict hTy ?_)
  show wpAny _ _ (pure (Value.ref a)) _ _ s
  refine wpAny_pure ?_
  rw [dictReprRunning_eq]
  refine wpOwn_bind (wpOwn_stackTailAny hg (dictGuardF_off _) (dictGuardF_pos _) ?_)
  cases q : (g.any fun c => dictGuardF (.ref a) (c, default)) with
  | true =>
    have q : dictHit g a = true := q
    rw [if_pos rfl]
    refine wpOwn_of_wpAny ?_
    have := hQ s.toks (s.toks + 1)
    rw [q, if_pos rfl] at this
    intro Γ p hΓ
    simp [rule, retStr, ret]
    exact this
  | false =>
    have q : dictHit g a = false := q
    rw [if_neg Bool.false_ne_true]
    refine wpOwn_of_wpAny ?_
    show wpAny _ _ (Builtin.Dict.addrOf (.ref a) >>= _) _ _ s
    refine wpAny_bind (wpAny_pure ?_)
    show wpAny _ _ (Builtin.Dict.showsAll a >>= _) _ _ s
    unfold Builtin.Dict.showsAll
    rw [if_neg (by rw [hsys]; exact Bool.false_ne_true)]
    refine wpAny_bind (wpAny_pure ?_)
    refine wpAny_bind (wpAny_dictEpoch ha hd ?_)
    refine wpAny_bind (wpAny_dictEntries ha hd ?_)
    have := hQ s.toks (s.toks + 1)
    rw [q, if_neg Bool.false_ne_true] at this
    intro Γ p hΓ
    simp [rule, retStr, ret]
    exact this
/-! ### repr as a rule of the hand layer -/
inductive ReprG (g : List Code) (H : Hp) : V → Str → Prop
  | plain {v : V} {s : Str} (h : ReprV v s) : ReprG g H v s
  | lst {a : Addr} {x : V} {xs : List V} {ts : List Str} (e : H a = some (.lst (x :: xs))) (h : Paired ReprV (x :: xs) ts) (z : (listText ts).length ≤ sizeLine) : ReprG g H (.ref a) (if listHit g a then "[...]" else listText ts)
  | tup {a : Addr} {xs : List V} {ts : List Str} (e : H a = some (.tup xs)) (h : Paired ReprV xs ts) (z : (tupleText ts).length ≤ sizeLine) : ReprG g H (.ref a) (if tupHit g a then "(...)" else tupleText ts)
  | dic {a : Addr} (e : H a = some (.dK [])) : ReprG g H (.ref a) (if dictHit g a then "{...}" else "{}")
theorem ReprV.one {v : V} {s s' : Str} (h : ReprV v s) (h' : ReprV v s') : s = s' := by
  cases h <;> cases h' <;> rfl
theorem reprs_one {xs : List V} {ts us : List Str} (h : Paired ReprV xs ts) : Paired ReprV xs us → ts = us := by
  induction h generalizing us with
  | nil => intro h'; cases h'; rfl
  | cons a _ ih => intro h'; cases h' with | cons b t => rw [a.one b, ih t]
theorem ReprG.one {g : List Code} {H : Hp} {v : V} {s s' : Str} (h : ReprG g H v s) (h' : ReprG g H v s') : s = s' := by
  cases h with
  | plain h =>
    cases h' with
    | plain h' => exact h.one h'
    | _ => cases h
  | lst e h z =>
    cases h' with
    | plain h' => cases h'
    | lst e' h' z' =>
      rw [e] at e'
      cases e'
      rw [reprs_one h h']
    | tup e' => rw [e] at e'; cases e'
    | dic e' => rw [e] at e'; cases e'
  | tup e h z =>
    cases h' with
    | plain h' => cases h'
    | lst e' => rw [e] at e'; cases e'
    | tup e' h' z' =>
      rw [e] at e'
      cases e'
      rw [reprs_one h h']
    | dic e' => rw [e] at e'; cases e'
  | dic e =>
    cases h' with
    | plain h' => cases h'
    | lst e' => rw [e] at e'; cases e'
    | tup e' => rw [e] at e'; cases e'
    | dic e' => rfl
theorem ReprG.mv {g : List Code} {H H' : Hp} {v : V} {s : Str} (h : ReprG g H v s) (k : ∀ a o, v = .ref a → H a = some o → (∀ ps, o ≠ .tbl ps) → H' a = some o) : ReprG g H' v s := by
  cases h with
  | plain h => exact .plain h
  | lst e h z => exact .lst (k _ _ rfl e fun _ q => nomatch q) h z
  | tup e h z => exact .tup (k _ _ rfl e fun _ q => nomatch q) h z
  | dic e => exact .dic (k _ _ rfl e fun _ q => nomatch q)
theorem ReprV.is {prog : Program} {w : World} {v : V} {s : Str} {u : Value} (h : ReprV v s) (r : RelV v u) : ReprIs prog w u s := by
  cases h with
  | int i h =>
    obtain ⟨t, rfl⟩ := r
    exact ReprIs.int t h
  | non =>
    cases r
    exact ReprIs.none
  | bl b =>
    cases r
    cases b
    · exact ReprIs.bool false
    · exact ReprIs.bool true
  | str x h =>
    obtain ⟨t, rfl⟩ := r
    exact ReprIs.str x t h
theorem reprs_is {prog : Program} {w : World} : ∀ {xs : List V} {ts : List Str} {us : List Value}, Paired ReprV xs ts → Vals xs us → ReprAll prog w us ts
  | _, _, _, .nil, .nil => .nil
  | _, _, _, .cons h t, .cons r rs => .cons (h.is r) (reprs_is t rs)
theorem reprs_len {xs : List V} {ts : List Str} (h : Paired ReprV xs ts) : xs.length = ts.length := by
  induction h with
  | nil => rfl
  | cons _ _ ih => rw [List.length_cons, List.length_cons, ih]
theorem reprs_at {prog : Program} {w : World} : ∀ {us : List Value} {ts : List Str}, ReprAll prog w us ts → ∀ (i : Nat) (y : Value), us[i]? = some y → ∃ t, ts[i]? = some t ∧ ReprIs prog w y t
  | _, _, .nil, i, y, h => by simp at h
  | _, _, .cons h _, 0, y, e => by
    cases e
    exact ⟨_, rfl, h⟩
  | _, _, .cons _ t, i + 1, y, e => reprs_at t i y e
theorem call_reprG {X : Cx} {g : List Code} (hg : X.A.guards = some g) (hu : X.A.units + 64 < cLine) : CallR X (.builtin "repr") (fun xs H Q => ∃ v s, xs = [v] ∧ ReprG g H v s ∧ Q (.str s) H) := by
  rintro pins s σ H xs us Q I r ⟨v, x, rfl, h, q⟩
  cases h with
  | plain h => exact call_reprP pins s σ H [v] us Q I r ⟨v, x, rfl, h, q⟩
  | @lst a y ys ts e h z =>
    match us, r with
    | [_], .cons rx .nil =>
      cases rx
      obtain ⟨_, its, n, rv, ho⟩ := I.hok a _ e
      have hTy : s.TypeIs (.ref a) "list" := ⟨_, ho, rfl⟩
      cases rv with
      | cons r1 rs =>
        have ra := reprs_is (prog := X.prog) (w := X.w) h (.cons r1 rs)
        refine PySem.call_repr_slot (by omega) hTy F.slot_list_repr.toG (call_list_flat hTy hg ho rfl (by rw [← reprs_len h]; simp [rs.length]) (fun i y' hy => reprs_at ra i y' (by simpa using hy)) (fun h' u tk k => ⟨_, _, rfl, ⟨.str _, H, I.kept k, ⟨_, rfl⟩, q⟩⟩) z)
  | @tup a ys ts e h z =>
    match us, r with
    | [_], .cons rx .nil =>
      cases rx
      obtain ⟨_, its, rv, p⟩ := I.hok a _ e
      obtain ⟨⟨tc, tdd, tda, tsl⟩, hto, htc, n, htd⟩ := p
      dsimp only at htc htd
      subst htc htd
      have hTy : s.TypeIs (.ref a) "tuple" := ⟨_, hto, rfl⟩
      exact PySem.call_repr_slot (by omega) hTy F.slot_tuple_repr (call_tup_flat hTy hg hto rfl (by simpa using reprs_is h rv) (fun u tk => ⟨_, _, rfl, ⟨.str _, H, I.kept (t' := tk) fun _ _ z => z, ⟨_, rfl⟩, q⟩⟩) z)
  | @dic a e =>
    match us, r with
    | [_], .cons rx .nil =>
      cases rx
      obtain ⟨_, hsys, kvs, kv, o, es, ep, ho, ex, hd, kk, pr, _⟩ := I.hok a _ e
      cases kv
      have e0 : es = #[] := by
        have : es.toList = [] := by cases hh : es.toList with
          | nil => rfl
          | cons _ _ => rw [hh] at pr; cases pr
        exact Array.toList_eq_nil_iff.mp this
      subst e0
      have hTy : s.TypeIs (.ref a) "dict" := ⟨o, ho, ex.1⟩
      exact PySem.call_repr_slot (by omega) hTy F.slot_dict_repr (call_dict_flat hTy hg ho hd hsys fun u tk => ⟨_, _, rfl, ⟨.str _, H, I.kept (t' := tk) fun _ _ z => z, ⟨_, rfl⟩, q⟩⟩)
/-! ### try with several clauses, some of them naming their error -/
/-- a clause: what it names (a class), the slot of its name if it has one, its suite's reading -/
abbrev ClauseT := Value × Option Nat × (Addr → Value → Option Addr → TS)
def endsX (i : Nat) (D : Ends) : Ends := { nx := fun σ H => D.nx (σ.set i none) H, rt := D.rt, bk := fun σ H => D.bk (σ.set i none) H, ct := fun σ H => D.ct (σ.set i none) H }
/-- what the clauses, one behind another, ask of an error of the body -/
def wMix (K : PySem.W.Frag) (Wout : L2.WX) (D : Ends) : List ClauseT → L2.WX
  | [] => Wout
  | (c, none, ts) :: r => fun cls d σ H => ∃ b, PySem.W.exmOne K cls c = some b ∧ (b = true → ∀ a, H a = none → ts a cls d D σ H) ∧ (b = false → wMix K Wout D r cls d σ H)
  | (c, some i, ts) :: r => fun cls d σ H => ∃ b, PySem.W.exmOne K cls c = some b ∧ (b = true → ∀ a, H a = none → ts a cls d (endsX i D) (σ.set i (some (.ref a))) H) ∧ (b = false → wMix K Wout D r cls d σ H)
inductive ClsOk (X : Cx) : List ExceptHandler → List ClauseT → Prop
  | nil : ClsOk X [] []
  | plain {x : Str} {c : Value} {ts : Addr → Value → Option Addr → TS} {b₀ : Stmt} {suite : List Stmt} {np p2 : Pos} {hds : List ExceptHandler} {l : List ClauseT} (hc : L2.Names X x c)
      (hsu : ∀ (a : Addr) (oe : Obj) (cls : Value) (d : Option Addr) (pn : List (Addr × Obj)), L2.Zc cls d oe → (∃ vs, oe.data = .fields vs) → PSs (X.suite a ((a, oe) :: pn)) (b₀ :: suite) (ts a cls d)) (r : ClsOk X hds l) : ClsOk X (.ExceptHandler (some (.Name x np)) none (b₀ :: suite) p2 :: hds) ((c, none, ts) :: l)
  | named {x n : Str} {c : Value} {i : Nat} {ts : Addr → Value → Option Addr → TS} {b₀ : Stmt} {suite : List Stmt} {np p2 : Pos} {hds : List ExceptHandler} {l : List ClauseT} (hc : L2.Names X x c) (hi : X.N[i]? = some n) (hln : X.env.kindOf n = some .local)
      (hsu : ∀ (a : Addr) (oe : Obj) (cls : Value) (d : Option Addr) (pn : List (Addr × Obj)), L2.Zc cls d oe → (∃ vs, oe.data = .fields vs) → PSs (X.suite a ((a, oe) :: pn)) (b₀ :: suite) (ts a cls d)) (r : ClsOk X hds l) : ClsOk X (.ExceptHandler (some (.Name x np)) (some n) (b₀ :: suite) p2 :: hds) ((c, some i, ts) :: l)
section
variable {X : Cx} {body : List Stmt} {h₀ : ExceptHandler} {hds : List ExceptHandler} {l : List ClauseT} {pos : Pos} {tb : L2.WX → TS} {Wout : L2.WX}
theorem ps_try_mix (stk : X.stack = X.env :: X.outer) (frm : X.env.frame = some X.env.locals) (nd : X.N.Nodup) (tk : L2.Takes X Wout)
    (hbody : ∀ (W : L2.WX) (pn : List (Addr × Obj)) (xe : Value → Shared → Prop), L2.Takes (X.tr pn xe) W → PassesOwn (model X.prog X.w) X.A X.env xe → PSs (X.tr pn xe) body (tb W)) (hcl : ClsOk X (h₀ :: hds) l) :
    PS X (.Try body (h₀ :: hds) [] [] pos) (fun D σ H => tb (wMix X.K Wout D l) D σ H) := by
  refine ⟨fun pins s σ H D I start => ?_⟩
  have good := I.ok
  have frames : X.A.frames = some (X.env :: X.outer) := by rw [good.frames, stk]
  refine wpAny_Try_except ?_
  refine wpAny_mono ((hbody (wMix X.K Wout D l) (X.pn ++ pins) (fun er sA => wpAny (model X.prog X.w) X.A (noteFrame er X.env) (fun _ sB => wpAny (model X.prog X.w) X.A (setFlight er none) (fun _ sC => wpAny (model X.prog X.w) X.A (handleBy er X.env (h₀ :: hds)) (SP X pins D) X.xe sC) X.xe sB) X.xe sA) (fun u sX flying => ?_) PassesOwn.looking).run [] s σ H D (I.toTry _) start) (fun fl sN ended => ?_) (fun er sE out => out)
  rotate_left
  · match fl, ended with
    | .next, ⟨_, _, JN, q⟩ => exact wpAny_execs_nil ⟨_, _, JN.ofTry good, q⟩
    | .brk, ⟨_, _, JN, q⟩ => exact ⟨_, _, JN.ofTry good, q⟩
    | .cont, ⟨_, _, JN, q⟩ => exact ⟨_, _, JN.ofTry good, q⟩
    | .ret _, ⟨_, _, _, JN, r, q⟩ => exact ⟨_, _, _, JN.ofTry good, r, q⟩
  obtain ⟨ea, Bs, sI, pinsI, σI, HI, cls, d, rfl, JI, nbase, upS, skyS, fresh, osE, bareE, wished⟩ := flying
  have J := JI.ofTry good
  have skyX : L2.Sky Bs (X.env :: X.outer) ea (L2.Zc cls d) X.env.locals sX.heap := stk ▸ skyS
  show wpAny (model X.prog X.w) X.A (noteFrame (.ref ea) X.env) _ _ _
  refine L2.Sky.land L2.Zc.steady frames frm skyX fun hL flL upL => ?_
  have JL : Inv X pins σI HI { sX with heap := hL } := J.landed nbase flL.1 (upS.trans upL) osE bareE
  obtain ⟨oL, vL, getL, zL, dataL⟩ := flL.there
  have noFrame : ea ∉ frs (X.env :: X.outer) := fun mem => by
    obtain ⟨_, oM, getM, notFields⟩ := flL.2.2.1.mem mem
    rw [getL] at getM
    exact notFields _ (by cases getM; exact dataL)
  have notLocals : ea ≠ X.env.locals := fun eq => noFrame (List.mem_filterMap.mpr ⟨X.env, List.mem_cons_self, by rw [frm, eq]⟩)
  have notOuter : ea ∉ X.fs := fun mem => let ⟨en, inO, fr⟩ := List.mem_filterMap.mp mem; noFrame (List.mem_filterMap.mpr ⟨en, List.mem_cons_of_mem _ inO, fr⟩)
  have SL := JL.suite getL dataL fresh notLocals notOuter
  have named : ∀ {x : Str} {c : Value} {np : Pos} {Q E : Value → Shared → Prop}, L2.Names X x c → Q c { sX with heap := hL } → wpAny (model X.prog X.w) (X.A.mark (some (.ref ea))) (eval (.Name x np) X.env) Q E { sX with heap := hL } := by
    rintro x c np Q E ⟨glob, dbg, own | ⟨free, boot, notNone⟩⟩ goal
    · exact L2.ld_glob (X := X.suite ea ((ea, oL) :: (X.pn ++ pins))) SL glob own goal dbg
    · exact L2.ld_blt (X := X.suite ea ((ea, oL) :: (X.pn ++ pins))) SL glob free boot goal notNone dbg
  have typed : PySem.W.Looks (model X.prog X.w) hL (typeOf (.ref ea)) cls := fun _ _ _ _ more res => wpAny_typeOf_ref (more _ _ getL) (by rw [zL.1]; exact res)
  have walk : ∀ {hs2 : List ExceptHandler} {l2 : List ClauseT}, ClsOk X hs2 l2 → wMix X.K Wout D l2 cls d σI HI → wpAny (model X.prog X.w) X.A (handleBy (.ref ea) X.env hs2) (SP X pins D) X.xe { sX with heap := hL } := by
    intro hs2 l2 ok2
    induction ok2 with
    | nil =>
      intro wish
      refine wpAny_handleBy_nil ?_
      have flown := flL
      obtain ⟨_, _, _, oF, vF, TF, oT, _, getF, zF, dataF, tbF, _⟩ := flown
      unfold PySem.passOn
      refine wpAny_bind (wpAny_field getF dataF tbF ?_)
      rw [if_neg (by simp : ¬ ((Value.ref TF == Value.none) = true))]
      have up : wpAny (model X.prog X.w) X.A (setFlight (.ref ea) X.env.frame) (fun _ sU => wpAny (model X.prog X.w) X.A (throw (.ref ea) : Sem Flow) (SP X pins D) X.xe sU) X.xe { sX with heap := hL } := by
        rw [frm]
        exact HandSPX.setFlight_upZ flL fun hU heldU upU => wpAny_throw (tk _ _ ⟨ea, Bs, sI, pins, σI, HI, cls, d, rfl, J, nbase, (upS.trans upL).trans upU, .inr (.inr (stk ▸ heldU)), fresh, osE, bareE, wish⟩)
      first
        | exact wpAny_bind up
        | exact wpAny_bind (wpAny_pure (wpAny_bind up))
    | @plain x c ts b₀ suite np p2 hds3 l3 hc hsu r ih =>
      rintro ⟨b, look, yes, no⟩
      refine wpAny_handleBy_cons (codeAny_handlers_test ?_) (fun q => nomatch q)
      refine named hc ((PySem.W.exm_one (M := model X.prog X.w) JL.kIn typed look).here ?_)
      cases b with
      | false => exact ih (no rfl)
      | true =>
        refine codeAny_handlers_suite (HandSPX.lands_againZ flL fun hM flM upM => ?_)
        obtain ⟨oM, vM, getM, zM, dataM⟩ := flM.there
        have JM : Inv X pins σI HI { sX with heap := hM } := J.landed nbase flM.1 ((upS.trans upL).trans upM) osE bareE
        have SM := JM.suite getM dataM fresh notLocals notOuter
        refine wpAny_mono ((hsu ea oM cls d (X.pn ++ pins) zM ⟨_, dataM⟩).run [] _ _ HI _ SM (yes rfl ea fresh)) (fun fl sE done_ => ?_) (fun _ _ z => z.elim)
        match fl, done_ with
        | .next, ⟨_, _, SE, q⟩ => exact ⟨_, _, SE.unsuite good, q⟩
        | .brk, ⟨_, _, SE, q⟩ => exact ⟨_, _, SE.unsuite good, q⟩
        | .cont, ⟨_, _, SE, q⟩ => exact ⟨_, _, SE.unsuite good, q⟩
        | .ret _, ⟨_, _, _, SE, rv, q⟩ => exact ⟨_, _, _, SE.unsuite good, rv, q⟩
    | @named x n c i ts b₀ suite np p2 hds3 l3 hc hi hln hsu r ih =>
      rintro ⟨b, look, yes, no⟩
      refine wpAny_handleBy_cons (codeAny_handlers_test ?_) (fun q => nomatch q)
      refine named hc ((PySem.W.exm_one (M := model X.prog X.w) JL.kIn typed look).here ?_)
      cases b with
      | false => exact ih (no rfl)
      | true =>
        refine codeAny_handlers_suite_as (HandSPX.lands_againZ flL fun hM flM upM => ?_)
        obtain ⟨oM, vM, getM, zM, dataM⟩ := flM.there
        have JM : Inv X pins σI HI { sX with heap := hM } := J.landed nbase flM.1 ((upS.trans upL).trans upM) osE bareE
        have SM := JM.suite getM dataM fresh notLocals notOuter
        refine L2.store_ok (X := X.suite ea ((ea, oM) :: (X.pn ++ pins))) (v := .ref ea) SM nd hi (.inl hln) rfl (fun sB SB => ?_) (.inr hln)
        refine wpAny_mono ((hsu ea oM cls d (X.pn ++ pins) zM ⟨_, dataM⟩).run [] sB _ HI _ SB (yes rfl ea fresh)) (fun fl sE done_ => ?_) (fun _ _ z => z.elim)
        have gone : ∀ {σ6 : L2.St} {H6 : Hp} {Q : Shared → Prop}, Inv (X.suite ea ((ea, oM) :: (X.pn ++ pins))) [] σ6 H6 sE → (∀ sG, Inv X pins (σ6.set i none) H6 sG → Q sG) → wpAny (model X.prog X.w) X.A (do bindName X.env n .none; unbindBehindTheSuite X.env n p2) (fun _ sG => Q sG) X.xe sE :=
          fun SE more => L2.gone_ok (SE.unsuite good) nd hi hln more
        match fl, done_ with
        | .next, ⟨_, _, SE, q⟩ => exact gone SE fun _ JG => ⟨_, _, JG, q⟩
        | .brk, ⟨_, _, SE, q⟩ => exact gone SE fun _ JG => ⟨_, _, JG, q⟩
        | .cont, ⟨_, _, SE, q⟩ => exact gone SE fun _ JG => ⟨_, _, JG, q⟩
        | .ret _, ⟨_, _, _, SE, rv, q⟩ => exact gone SE fun _ JG => ⟨_, _, _, JG, rv, q⟩
  exact walk hcl wished
end
/-! ### defs whose bodies know of the guards around them -/
theorem FunT.okG {P : Program} {w : World} {K : PySem.W.Frag} {mg : Str → Option Value} {base : Heap} {x q : Str} {st : Stmt} {f c : Addr} {fd : FuncData} {N ps : List Str} {k : Nat} {sp : Sp} (F : FunT K x q st f c fd) (S : FnScope N ps (defScope st)) (len : ∀ vs H Q E, sp vs H Q E → vs.length = ps.length)
    (hbody : ∀ (g : List Code) (A : Around) (outer : List Env) (s : Shared) (H : Hp) (vs : List V) (Q : VK) (E : XK), A.guards = some g → Room k (A.deeper (PyProof.Rows.envOfC q (defScope st) s.heap.objs.size f (.ref c))) → sp vs H Q E →
      ∃ t, PSs (cxOf CX0 P w K mg base N q (defScope st) f (.ref c) A outer s H E).nox (defBody st) t ∧ t { nx := fun _ H' => Q .non H', rt := Q } (start N vs) H) : FnOk P w K mg base CX0 (k + 1) f fd ps sp := by
  obtain ⟨oc, od, kV, doc, pm, an, ct, osl, rfl, lk, hcd⟩ := F.ex
  refine ⟨len, fun A outer s H args us vs Q E hr e0 hb r hsp => codeAny_guards fun g => ?_⟩
  refine LamX.run_ofS (A := { A with guards := some g }) lk hcd S (N := N) ⟨hr.hd, hr.dp, hr.un⟩ ⟨e0.frames, e0.mod, e0.bs, e0.bsz, e0.funs, e0.frf, e0.hok, e0.bare⟩ hb r (len _ _ _ _ hsp) fun hr2 => ?_
  obtain ⟨t, h, z⟩ := hbody g { A with guards := some g } outer s H vs Q E rfl hr2 hsp
  exact ⟨t, h.nox, z⟩
theorem deeper_guards {A : Around} {env : Env} {g : List Code} (h : A.guards = some g) : (A.deeper env).guards = some g := h
/-! ### methods and makings that may raise -/
structure MetX (P : Program) (w : World) (K : PySem.W.Frag) (mg : Str → Option Value) (base : Heap) (C : Addr) (m : Str) (k : Nat) (f : Addr) (ps : List Str) (sp : Sp) : Prop where
  ex : ∃ fd, FnOk P w K mg base (L2.CX P w) k f fd ps sp ∧ Binds K fd ps []
  me : Meth K C m f
theorem Mth.metX {P : Program} {w : World} {K : PySem.W.Frag} {mg : Str → Option Value} {base : Heap} {C : Addr} {m q : Str} {st : Stmt} {f : Addr} {ps : List Str} {k : Nat} {sp : Sp} (D : Mth K C m q st f ps) (h : ∀ fd, Fun K m q st f fd → FnOk P w K mg base (L2.CX P w) k f fd ps sp) : MetX P w K mg base C m k f ps sp := by
  obtain ⟨fd, F, b⟩ := D.ex
  exact ⟨⟨fd, h fd F, b⟩, ⟨D.at_, D.fn, F.kp⟩⟩
theorem pass1 {X : Cx} {E : XK} (tk : L2.Takes X fun cls d _ H => E cls d H) : Passes (L2.CX X.prog X.w) X E := fun pins σ H s e s' I c => L2.passAt tk σ pins H s e s' I c
theorem MetX.p_m1 {X : Cx} {C : Addr} {k : Nat} {f : Addr} {ps : List Str} {sp : Sp} {E : XK} {m : Str} {o e : Expr} {es : List Expr} {ta : TE} {t : TA} {apos pos : Pos} {pl : Sem Bool} (c : MetX X.prog X.w X.K X.mg X.base C m k f ps sp) (tk : L2.Takes X fun cls d _ H => E cls d H) (cl : Cls X.K C) (hr : Room k X.A) (he : PE X o ta) (ha : PA X (e :: es) t)
    (hst : starEach (e :: es) X.env = (false, eval e X.env) :: starEach es X.env := by rfl) (hpl : (backTo pos (starEach es X.env)).any (·.1) = false := by rfl)
    (ht : eval (.Call (.Attribute o m apos) (e :: es) [] pos) X.env = (do let ov ← eval o X.env; standAt apos.atName; let (f, first) ← holding [ov] (getMethod ov m pl); callWith pos f first (backTo pos (starEach (e :: es) X.env)) (backToKw pos (keywordEach [] X.env))) := by rfl) :
    PE X (.Call (.Attribute o m apos) (e :: es) [] pos) (tMeth C m sp [] E ta t) := by
  obtain ⟨fd, F, b⟩ := c.ex
  exact pe_meth he cl c.me F hr b .nil (pass1 tk) ha hst hpl ht
theorem raise2 {C : Addr} {f g : Str} {v u : V} {H : Hp} {Q E : XK} (k : ∀ d H', H' d = some (.xd [(g, u), (f, v)]) → Same H H' → Q (.ref C) (some d) H') : ∀ a, H a = none → spEI2 C f g [.ref a, v, u] (upd H a (L2.exo a C none))
    (fun x H2 => x = .non ∧ ∃ (d : Addr) (fs : List (Str × V)), H2 a = some (L2.exo a C (some d)) ∧ H2 d = some (L2.exd d fs) ∧ H d = none ∧ Q (.ref C) (some d) (upd (L2.del H2 a) d (.xd fs))) E := fun a na => by
  refine ⟨a, v, u, rfl, upd_same, fun dx nx ne => ⟨rfl, dx, [(g, u), (f, v)], ?_, upd_same, by rwa [upd_ne ne] at nx, k dx _ upd_same fun b o e => ?_⟩⟩
  · rw [upd_ne (Ne.symm ne), upd_same]
  · rw [upd_ne ne] at nx
    have ba : b ≠ a := ne_of_none e na
    have bd : b ≠ dx := ne_of_none e nx
    rw [upd_ne bd, L2.del_ne ba, upd_ne bd, upd_ne ba, upd_ne bd, upd_ne ba]
    exact e
/-! ### one request, by the law -/
def mixE (bs : List Tri) (ss : List StD) (t : Int) (f : Bool) (j k i : Nat) : StD := match bs[i]?, ss[i]? with
  | some b, some s => if i < j then (if f = true then okS b s else badS b s t) else if i < k then hfS s else s
  | _, _ => ("closed", 0)
def mixS (bs : List Tri) (ss : List StD) (t : Int) (f : Bool) (j k : Nat) : List StD := (List.range bs.length).map (mixE bs ss t f j k)
theorem mixE_is {bs : List Tri} {ss : List StD} {t : Int} {f : Bool} {j k i : Nat} {b : Tri} {s : StD} (hb : bs[i]? = some b) (hs : ss[i]? = some s) : mixE bs ss t f j k i = if i < j then (if f = true then okS b s else badS b s t) else if i < k then hfS s else s := by
  unfold mixE
  rw [hb, hs]
theorem mixS_get {bs : List Tri} {ss : List StD} {t : Int} {f : Bool} {j k i : Nat} (h : i < bs.length) : (mixS bs ss t f j k)[i]? = some (mixE bs ss t f j k i) := by
  unfold mixS
  rw [List.getElem?_map, List.getElem?_range h]
  rfl
theorem mixS_len {bs : List Tri} {ss : List StD} {t : Int} {f : Bool} {j k : Nat} : (mixS bs ss t f j k).length = bs.length := by
  unfold mixS
  rw [List.length_map, List.length_range]
theorem map_set {α : Type} {n : Nat} {f g : Nat → α} {i : Nat} {v : α} (hi : i < n) (h1 : v = g i) (h2 : ∀ j, j ≠ i → j < n → f j = g j) : ((List.range n).map f).set i v = (List.range n).map g := by
  refine List.ext_getElem? fun j => ?_
  rw [List.getElem?_set, List.length_map, List.length_range, List.getElem?_map, List.getElem?_map]
  by_cases c : i = j
  · subst c
    rw [if_pos rfl, if_pos hi, List.getElem?_range hi, h1]
    rfl
  · rw [if_neg c]
    by_cases d : j < n
    · rw [List.getElem?_range d]
      exact congrArg some (h2 j (fun e => c e.symm) d)
    · rw [List.getElem?_eq_none (by rw [List.length_range]; omega)]
      rfl
theorem mixS_0 {bs : List Tri} {ss : List StD} {t : Int} {f : Bool} (h : ss.length = bs.length) : mixS bs ss t f 0 0 = ss := by
  refine List.ext_getElem? fun j => ?_
  by_cases c : j < bs.length
  · have hb : bs[j]? = some bs[j] := List.getElem?_eq_getElem c
    have hs : ss[j]? = some (ss[j]'(by omega)) := List.getElem?_eq_getElem (by omega)
    rw [mixS_get c, mixE_is hb hs, hs, if_neg (Nat.not_lt_zero j), if_neg (Nat.not_lt_zero j)]
  · rw [List.getElem?_eq_none (by rw [mixS_len]; omega), List.getElem?_eq_none (by omega)]
theorem mixS_half {bs : List Tri} {ss : List StD} {t : Int} {f : Bool} {i : Nat} {b : Tri} {s : StD} (hb : bs[i]? = some b) (hs : ss[i]? = some s) : (mixS bs ss t f 0 i).set i (hfS s) = mixS bs ss t f 0 (i + 1) := by
  refine map_set (List.getElem?_eq_some_iff.mp hb).1 ?_ fun j ne hj => ?_
  · rw [mixE_is hb hs, if_neg (Nat.not_lt_zero i), if_pos (Nat.lt_succ_self i)]
  · unfold mixE
    cases bs[j]? with
    | none => rfl
    | some b' =>
      cases ss[j]? with
      | none => rfl
      | some s' =>
        show (if j < 0 then _ else if j < i then _ else _) = (if j < 0 then _ else if j < i + 1 then _ else _)
        rw [if_neg (Nat.not_lt_zero j), if_neg (Nat.not_lt_zero j)]
        by_cases c : j < i
        · rw [if_pos c, if_pos (show j < i + 1 by omega)]
        · rw [if_neg c, if_neg (show ¬ j < i + 1 by omega)]
theorem mixS_fin {bs : List Tri} {ss : List StD} {t : Int} {f : Bool} {j k : Nat} {b : Tri} {s : StD} (hb : bs[j]? = some b) (hs : ss[j]? = some s) : (mixS bs ss t f j k).set j (if f = true then okS b s else badS b s t) = mixS bs ss t f (j + 1) k := by
  refine map_set (List.getElem?_eq_some_iff.mp hb).1 ?_ fun i ne hi => ?_
  · rw [mixE_is hb hs, if_pos (Nat.lt_succ_self j)]
  · unfold mixE
    cases bs[i]? with
    | none => rfl
    | some b' =>
      cases ss[i]? with
      | none => rfl
      | some s' =>
        show (if i < j then _ else _) = (if i < j + 1 then _ else _)
        by_cases c : i < j
        · rw [if_pos c, if_pos (show i < j + 1 by omega)]
        · rw [if_neg c, if_neg (show ¬ i < j + 1 by omega)]
theorem mixS_same {bs : List Tri} {ss : List StD} {t : Int} {f g : Bool} {k : Nat} : mixS bs ss t f 0 k = mixS bs ss t g 0 k := by
  refine List.map_congr_left fun i _ => ?_
  unfold mixE
  cases bs[i]? with
  | none => rfl
  | some b' =>
    cases ss[i]? with
    | none => rfl
    | some s' => rfl
theorem mixS_keep {bs : List Tri} {ss : List StD} {t : Int} {f : Bool} {i : Nat} {b : Tri} {s : StD} (hb : bs[i]? = some b) (hs : ss[i]? = some s) (h : hfS s = s) : mixS bs ss t f 0 i = mixS bs ss t f 0 (i + 1) := by
  have hi := (List.getElem?_eq_some_iff.mp hb).1
  rw [← mixS_half hb hs, h]
  refine (List.ext_getElem? fun j => ?_)
  rw [List.getElem?_set, mixS_len]
  by_cases c : i = j
  · subst c
    rw [if_pos rfl, if_pos hi, mixS_get hi, mixE_is hb hs, if_neg (Nat.not_lt_zero i), if_neg (Nat.lt_irrefl i)]
  · rw [if_neg c]
theorem paired_set {α β : Type} {F : α → β → Prop} : ∀ {xs : List α} {ys : List β} (i : Nat) {x : α} {y : β}, Paired F xs ys → F x y → Paired F (xs.set i x) (ys.set i y)
  | _, _, _, _, _, .nil, _ => .nil
  | _, _, 0, _, _, .cons _ t, h => .cons h t
  | _, _, i + 1, _, _, .cons r t, h => .cons r (paired_set i t h)
theorem sts_kp {H H' : Hp} (k : ∀ b xs, H b = some (.tup xs) → H' b = some (.tup xs)) {xs : List V} {ss : List StD} (h : Sts H xs ss) : Sts H' xs ss := L2.Paired.mapP h fun _ _ ⟨a, e, h⟩ => ⟨a, e, k _ _ h⟩
theorem ixN_of {n j : Nat} (h : j < n) : ixN n (j : Int) = some j := by
  unfold ixN
  rw [if_pos (show (0 : Int) ≤ j by omega), if_pos (show (j : Int) < n by omega)]
  congr 1
theorem outV_n (n : Nat) (b : Bool) : outV n n b = if b = true then [.str "failed"] else [.str "served"] := by
  unfold outV
  rw [if_neg (Nat.lt_irrefl n)]
theorem outV_k {n k : Nat} (h : k < n) (b : Bool) : outV n k b = [.str "rejected", .int k] := if_pos h
def outD (n k : Nat) (inS : Bool) : PyData := if k < n then .tuple [.str "rejected", .int k] else if inS then .tuple [.str "failed"] else .tuple [.str "served"]
theorem outV_dp {K : PySem.W.Frag} {H : Hp} {p : Addr} {n k : Nat} {b : Bool} (h : H p = some (.tup (outV n k b))) : Dp K H (.ref p) (outD n k b) := by
  unfold outV at h
  unfold outD
  split
  · rename_i c
    rw [if_pos c] at h
    exact .tup (SqT.of h) (.cons (.str _) (.cons (.int _) .nil))
  · rename_i c
    rw [if_neg c] at h
    cases b with
    | true => exact .tup (SqT.of h) (.cons (.str _) .nil)
    | false => exact .tup (SqT.of h) (.cons (.str _) .nil)
theorem tup_sh {ds : List PyData} (h1 : PyData.canLayAll0 ds = true) (h2 : PyData.depthAll ds ≤ 10) : SeqAt.shaped (.tuple ds) = true := by
  refine Bool.and_eq_true_iff.mpr ⟨?_, decide_eq_true ?_⟩
  · rw [PyData.canLay0]
    exact h1
  · rw [PyData.depth]
    omega
theorem sok_R : PyData.strOk "rejected" = true := by decide +kernel
theorem sok_S : PyData.strOk "served" = true := by decide +kernel
theorem sok_F : PyData.strOk "failed" = true := by decide +kernel
theorem outD_sh (n k : Nat) (b : Bool) : SeqAt.shaped (outD n k b) = true := by
  unfold outD
  split
  · exact tup_sh (by simp [PyData.canLayAll0, PyData.canLay0, sok_R]) (by simp [PyData.depthAll, PyData.depth])
  · cases b <;> exact tup_sh (by simp [PyData.canLayAll0, PyData.canLay0, sok_S, sok_F]) (by simp [PyData.depthAll, PyData.depth])
theorem served_sh : SeqAt.shaped (.tuple [.str "served"]) = true := tup_sh (by simp [PyData.canLayAll0, PyData.canLay0, sok_S]) (by simp [PyData.depthAll, PyData.depth])
theorem outD_served (n k : Nat) (b : Bool) (h : k ≤ n) : PyData.eqv (outD n k b) (.tuple [.str "served"]) = (decide (k = n) && !b) := by
  unfold outD
  split
  · rename_i c
    rw [decide_eq_false (show ¬ k = n by omega)]
    rfl
  · rw [decide_eq_true (show k = n by omega)]
    cases b <;> rfl
theorem outD_eq (n k : Nat) (b : Bool) : PyData.eqv (outD n k b) (outD n k b) = true := by
  unfold outD
  split
  · simp [PyData.eqv, PyData.eqvAll]
  · cases b <;> simp [PyData.eqv, PyData.eqvAll]
def spOne1 : Sp := fun vs H Q _ => ∃ a l xs ys bs ss t good, vs = [.ref a, .ref l, .int t, .bl good] ∧ H a = some (.lst xs) ∧ Brs H xs bs ∧ H l = some (.lst ys) ∧ Sts H ys ss ∧ a ≠ l ∧ ss.length = bs.length ∧ bs.length ≤ 12 ∧ ∀ (k : Nat) td H' ys', k ≤ bs.length → (∀ (i : Nat) (b : Tri) (s : StD), i < k → bs[i]? = some b → ss[i]? = some s → psB b s t) → (∀ (b : Tri) (s : StD), bs[k]? = some b → ss[k]? = some s → ¬ psB b s t) →
  H' td = some (.tup (outV bs.length k (!good))) → H' l = some (.lst ys') → Sts H' ys' (mixS bs ss t (decide (k = bs.length) && good) k k) → Kp l H H' → H td = none → Q (.ref td) H'
/-! ### a request at one breaker -/
instance psDec (b : Tri) (s : StD) (t : Int) : Decidable (psB b s t) := by
  unfold psB
  infer_instance
def stpS (b : Tri) (s : StD) (t : Int) (g : Bool) : StD := if g = true then okS b s else badS b s t
theorem okS_closed {b : Tri} {s : StD} (h : s.1 = "closed") : okS b s = (("closed", 0) : StD) := by
  have e : hfS s = s := if_neg (by rw [h]; exact sC_O)
  unfold okS
  rw [e]
  exact if_neg fun q => sC_H (h.symm.trans q.1)
theorem okS_half {b : Tri} {s : StD} (h : s.1 = "half") : okS b s = if s.2 + 1 < b.2.2 then (("half", s.2 + 1) : StD) else ("closed", 0) := by
  have e : hfS s = s := if_neg (by rw [h]; exact sH_O)
  unfold okS
  rw [e]
  by_cases c : s.2 + 1 < b.2.2
  · rw [if_pos c, if_pos ⟨h, c⟩]
  · rw [if_neg c, if_neg fun q => c q.2]
theorem okS_open {b : Tri} {s : StD} (h : s.1 = "open") : okS b s = if 1 < b.2.2 then (("half", 1) : StD) else ("closed", 0) := by
  have e : hfS s = (("half", 0) : StD) := if_pos h
  unfold okS
  rw [e]
  by_cases c : (1 : Int) < b.2.2
  · rw [if_pos c, if_pos ⟨rfl, by show (0 : Int) + 1 < b.2.2; omega⟩]
    rfl
  · rw [if_neg c, if_neg fun q => c (by have q2 : (0 : Int) + 1 < b.2.2 := q.2; omega)]
theorem badS_closed {b : Tri} {s : StD} {t : Int} (h : s.1 = "closed") : badS b s t = if s.2 + 1 < b.1 then (("closed", s.2 + 1) : StD) else ("open", t) := by
  have e : hfS s = s := if_neg (by rw [h]; exact sC_O)
  unfold badS
  rw [e]
  by_cases c : s.2 + 1 < b.1
  · rw [if_pos c, if_pos ⟨h, c⟩]
  · rw [if_neg c, if_neg fun q => c q.2]
theorem badS_other {b : Tri} {s : StD} {t : Int} (h : ¬ s.1 = "closed") : badS b s t = (("open", t) : StD) := by
  unfold badS
  refine if_neg fun q => ?_
  have q1 := q.1
  unfold hfS at q1
  split at q1
  · exact sH_C q1
  · exact h q1
def spPasses : Sp := fun vs H Q _ => ∃ x y b s t, vs = [x, y, .int t] ∧ BrAt H x b ∧ StAt H y s ∧ Q (.bl (decide (psB b s t))) H
def spBehind : Sp := fun vs H Q _ => ∃ x y b s t g, vs = [x, y, .int t, .bl g] ∧ BrAt H x b ∧ StAt H y s ∧ okW s ∧ ∀ c H', H' c = some (.tup [.str (stpS b s t g).1, .int (stpS b s t g).2]) → Same H H' → H c = none → Q (.ref c) H'
section
variable {P : Program} {w : World} {K : PySem.W.Frag} {mg : Str → Option Value} {base : Heap} {L : LA}
abbrev N_passes : List Str := ["breaker", "state", "time"]
theorem sc_passes : FnScope N_passes ["breaker", "state", "time"] (defScope st_passes) := ⟨rfl, rfl, rfl, by decide +kernel, rfl, by decide +kernel, by decide +kernel⟩
theorem fn_passes (T : LX K mg L) {fd : FuncData} (F : Fun K "passes" "passes" st_passes L.f_passes fd) : FnOk P w K mg base CX0 1 L.f_passes fd ["breaker", "state", "time"] (spPasses) := by
  have nd := sc_passes.nd
  refine F.ok sc_passes (fun vs H Q E h => ?_) (fun cdv A outer S H vs Q E hr h => ?_)
  · obtain ⟨x, y, b, s, t, rfl, _⟩ := h
    rfl
  · obtain ⟨x, y, b, s, t, rfl, ⟨ab, rfl, hb⟩, ⟨as, rfl, hs⟩, k⟩ := h
    refine ⟨_, (pss_one (ps_ret (pe_or (pe_cmpR op_ne (pe_ix (r := rIxT K) ix_tup (pv 1) pe_int (fun _ _ => rfl)) pe_str (nomark _)) (pe_one (pe_cmpR op_ge (pe_op op_sub (pv 2) (pe_ix (r := rIxT K) ix_tup (pv 1) pe_int (fun _ _ => rfl))) (pe_ix (r := rIxT K) ix_tup (pv 0) pe_int (fun _ _ => rfl)) (nomark _)))))), ?_⟩
    refine ⟨_, rfl, as, _, 0, .str s.1, rfl, rfl, SqT.of hs, rfl, rfl, _, rfl, ite2 (fun c => ?_) (fun c => ?_)⟩
    · have c' : ¬ s.1 = "open" := fun e => by simp [e] at c
      rw [decide_eq_true (show psB b s t from fun e => absurd e c')] at k
      exact k
    · have c' : s.1 = "open" := by simpa using c
      have e : decide (psB b s t) = decide (b.2.1 ≤ t - s.2) := by
        rw [Bool.eq_iff_iff, decide_eq_true_iff, decide_eq_true_iff]
        exact ⟨fun h => h c', fun h _ => h⟩
      rw [e] at k
      exact ⟨_, rfl, _, rfl, as, _, 1, .int s.2, rfl, rfl, SqT.of hs, rfl, _, _, rfl, rfl, _, rfl, ab, _, 1, .int b.2.1, rfl, rfl, SqT.of hb, rfl, _, _, rfl, rfl, k⟩
theorem ok_passes (T : LX K mg L) : Cal P w K mg base "passes" 1 L.f_passes ["breaker", "state", "time"] (spPasses) := T.d_passes.cal fun fd F => fn_passes T F
abbrev N_statebehind : List Str := ["breaker", "state", "time", "succeeded", "failures", "wait", "successes", "kind", "number", "reached"]
theorem sc_statebehind : FnScope N_statebehind ["breaker", "state", "time", "succeeded"] (defScope st_state_behind) := ⟨rfl, rfl, rfl, by decide +kernel, rfl, by decide +kernel, by decide +kernel⟩
theorem fn_statebehind (T : LX K mg L) {fd : FuncData} (F : Fun K "state_behind" "state_behind" st_state_behind L.f_state_behind fd) : FnOk P w K mg base CX0 1 L.f_state_behind fd ["breaker", "state", "time", "succeeded"] (spBehind) := by
  have nd := sc_statebehind.nd
  refine F.ok sc_statebehind (fun vs H Q E h => ?_) (fun cdv A outer S H vs Q E hr h => ?_)
  · obtain ⟨x, y, b, s, t, g, rfl, _⟩ := h
    rfl
  · obtain ⟨x, y, b, s, t, g, rfl, ⟨ab, rfl, hb⟩, ⟨as, rfl, hs⟩, ok, k⟩ := h
    refine ⟨_, (pss_cons (ps_asg (pv 0) (pg_tup rfl (pgs_cons (pg_name (i := 4) nd rfl (Or.inl rfl)) (pgs_cons (pg_name (i := 5) nd rfl (Or.inl rfl)) (pgs_cons (pg_name (i := 6) nd rfl (Or.inl rfl)) pgs_nil)))))
       (pss_cons (ps_asg (pv 1) (pg_tup rfl (pgs_cons (pg_name (i := 7) nd rfl (Or.inl rfl)) (pgs_cons (pg_name (i := 8) nd rfl (Or.inl rfl)) pgs_nil))))
       (pss_cons (ps_if (PW.pt (pw_and (pt_val (pv 3)) (pw_and1 (pt_cmpR op_ne (pv 7) pe_str (nomark _))))) (pss_cons (ps_set (i := 9) nd rfl (Or.inl rfl) (pe_ifExp (pt_cmpR op_eq (pv 7) pe_str (nomark _)) (pe_op op_add (pv 8) pe_int) pe_int))
       (pss_one (ps_ret (pe_ifExp (pt_cmpR op_lt (pv 9) (pv 6) (nomark _)) (pe_tup (pa_cons pe_str (pa_cons (pv 9) pa_nil))) (pe_tup (pa_cons pe_str (pa_cons pe_int pa_nil))))))) pss_nil)
       (pss_cons (ps_if (pt_val (pv 3)) (pss_one (ps_ret (pe_tup (pa_cons pe_str (pa_cons pe_int pa_nil))))) pss_nil)
       (pss_cons (ps_if (PW.pt (pw_and (pt_cmpR op_eq (pv 7) pe_str (nomark _)) (pw_and1 (pt_cmpR op_lt (pe_op op_add (pv 8) pe_int) (pv 4) (nomark _))))) (pss_one (ps_ret (pe_tup (pa_cons pe_str (pa_cons (pe_op op_add (pv 8) pe_int) pa_nil))))) pss_nil)
       (pss_one (ps_ret (pe_tup (pa_cons pe_str (pa_cons (pv 2) pa_nil)))))))))), ?_⟩
    refine ⟨_, rfl, ab, _, rfl, SqT.of hb, rfl, _, _, rfl, _, _, rfl, _, _, rfl, rfl, ?_⟩
    refine ⟨_, rfl, as, _, rfl, SqT.of hs, rfl, _, _, rfl, _, _, rfl, rfl, ?_⟩
    have fin : ∀ (d : StD), stpS b s t g = d → ∀ p, H p = none → Q (.ref p) (upd H p (.tup [.str d.1, .int d.2])) := fun d e p hp => by
      subst e
      exact k p _ upd_same (Same.upd hp) hp
    clear k
    cases g with
    | true =>
      refine ⟨_, rfl, _, rfl, iteT ⟨_, rfl, rfl, _, rfl, ite2 (fun c => ?_) (fun c => ?_)⟩⟩
      · have c' : ¬ s.1 = "closed" := fun e => by simp [e] at c
        refine ⟨_, rfl, rfl, _, rfl, ite2 (fun h => ?_) (fun h => ?_)⟩
        · have h' : s.1 = "half" := V.str.inj (of_decide_eq_true h)
          refine ⟨_, rfl, _, _, rfl, rfl, _, rfl, _, rfl, _, _, rfl, rfl, _, rfl, ite2 (fun l => ?_) (fun l => ?_)⟩
          · exact ⟨_, rfl, (by show 2 ≤ sizeLine; decide), fin ("half", s.2 + 1) ((okS_half h').trans (if_pos (of_decide_eq_true l)))⟩
          · exact ⟨(by show 2 ≤ sizeLine; decide), fin ("closed", 0) ((okS_half h').trans (if_neg fun q => l (decide_eq_true q)))⟩
        · have h' : ¬ s.1 = "half" := fun e => h (decide_eq_true (congrArg V.str e))
          have o : s.1 = "open" := by
            rcases ok with e | e | e
            · exact absurd e c'
            · exact e
            · exact absurd e h'
          refine ⟨_, rfl, _, rfl, _, _, rfl, rfl, _, rfl, ite2 (fun l => ?_) (fun l => ?_)⟩
          · exact ⟨_, rfl, (by show 2 ≤ sizeLine; decide), fin ("half", 1) ((okS_open o).trans (if_pos (of_decide_eq_true l)))⟩
          · exact ⟨(by show 2 ≤ sizeLine; decide), fin ("closed", 0) ((okS_open o).trans (if_neg fun q => l (decide_eq_true q)))⟩
      · have c' : s.1 = "closed" := by simpa using c
        exact ⟨_, rfl, _, rfl, iteT ⟨(by show 2 ≤ sizeLine; decide), fin ("closed", 0) (okS_closed c')⟩⟩
    | false =>
      refine ⟨_, rfl, _, rfl, iteF ⟨_, rfl, _, rfl, iteF ⟨_, rfl, rfl, _, rfl, ite2 (fun c => ?_) (fun c => ?_)⟩⟩⟩
      · have c' : s.1 = "closed" := V.str.inj (of_decide_eq_true c)
        refine ⟨_, rfl, _, _, rfl, rfl, _, rfl, _, _, rfl, rfl, _, rfl, ite2 (fun l => ?_) (fun l => ?_)⟩
        · exact ⟨_, rfl, _, _, rfl, rfl, (by show 2 ≤ sizeLine; decide), fin ("closed", s.2 + 1) ((badS_closed c').trans (if_pos (of_decide_eq_true l)))⟩
        · exact ⟨_, rfl, (by show 2 ≤ sizeLine; decide), fin ("open", t) ((badS_closed c').trans (if_neg fun q => l (decide_eq_true q)))⟩
      · have c' : ¬ s.1 = "closed" := fun e => c (decide_eq_true (congrArg V.str e))
        refine iteF ⟨_, rfl, (by show 2 ≤ sizeLine; decide), fin ("open", t) (badS_other c')⟩
theorem ok_statebehind (T : LX K mg L) : Cal P w K mg base "state_behind" 1 L.f_state_behind ["breaker", "state", "time", "succeeded"] (spBehind) := T.d_state_behind.cal fun fd F => fn_statebehind T F
end
/-! ### one request sent by the program -/
/-- how many breakers a request reaches and is passed by -/
def kOf : List Tri → List StD → Int → Nat
  | b :: bs, s :: ss, t => if psB b s t then kOf bs ss t + 1 else 0
  | [], _, _ => 0
  | _ :: _, [], _ => 0
theorem kOf_le : ∀ (bs : List Tri) (ss : List StD) (t : Int), kOf bs ss t ≤ bs.length
  | [], _, _ => Nat.le_refl _
  | _ :: _, [], _ => Nat.zero_le _
  | b :: bs, s :: ss, t => by
    unfold kOf
    split
    · exact Nat.succ_le_succ (kOf_le bs ss t)
    · exact Nat.zero_le _
theorem kOf_ps : ∀ {bs : List Tri} {ss : List StD} {t : Int} {i : Nat} {b : Tri} {s : StD}, i < kOf bs ss t → bs[i]? = some b → ss[i]? = some s → psB b s t
  | [], _, _, _, _, _, h, _, _ => absurd h (Nat.not_lt_zero _)
  | _ :: _, [], _, _, _, _, h, _, _ => absurd h (Nat.not_lt_zero _)
  | b :: bs, s :: ss, t, i, b', s', h, e1, e2 => by
    unfold kOf at h
    split at h
    · rename_i c
      cases i with
      | zero => cases e1; cases e2; exact c
      | succ i => exact kOf_ps (i := i) (Nat.lt_of_succ_lt_succ h) e1 e2
    · exact absurd h (Nat.not_lt_zero _)
theorem kOf_rj : ∀ {bs : List Tri} {ss : List StD} {t : Int} {b : Tri} {s : StD}, bs[kOf bs ss t]? = some b → ss[kOf bs ss t]? = some s → ¬ psB b s t
  | [], _, _, _, _, e1, _ => by cases e1
  | _ :: _, [], _, _, _, _, e2 => by cases e2
  | b :: bs, s :: ss, t, b', s', e1, e2 => by
    unfold kOf at e1 e2
    by_cases c : psB b s t
    · rw [if_pos c] at e1 e2
      exact kOf_rj (bs := bs) (ss := ss) e1 e2
    · rw [if_neg c] at e1 e2
      cases e1
      cases e2
      exact c
theorem kOf_is {bs : List Tri} {ss : List StD} {t : Int} (sl : ss.length = bs.length) {k : Nat} (hk : k ≤ bs.length) (h1 : ∀ (i : Nat) (b : Tri) (s : StD), i < k → bs[i]? = some b → ss[i]? = some s → psB b s t) (h2 : ∀ (b : Tri) (s : StD), bs[k]? = some b → ss[k]? = some s → ¬ psB b s t) : k = kOf bs ss t := by
  have kl := kOf_le bs ss t
  have get : ∀ {j : Nat}, j < bs.length → ∃ b s, bs[j]? = some b ∧ ss[j]? = some s := fun {j} l => ⟨_, _, List.getElem?_eq_getElem l, List.getElem?_eq_getElem (by omega)⟩
  rcases Nat.lt_trichotomy k (kOf bs ss t) with c | c | c
  · obtain ⟨b, s, e1, e2⟩ := get (j := k) (by omega)
    exact absurd (kOf_ps c e1 e2) (h2 b s e1 e2)
  · exact c
  · obtain ⟨b, s, e1, e2⟩ := get (j := kOf bs ss t) (by omega)
    exact absurd (h1 _ b s c e1 e2) (kOf_rj e1 e2)
/-- the states behind a request -/
def sntS (bs : List Tri) (ss : List StD) (t : Int) (up : Bool) : List StD := mixS bs ss t (decide (kOf bs ss t = bs.length) && up) (kOf bs ss t) (kOf bs ss t)
theorem okS_W (b : Tri) (s : StD) : okW (okS b s) := by
  unfold okS
  split
  · exact .inr (.inr rfl)
  · exact .inl rfl
theorem badS_W (b : Tri) (s : StD) (t : Int) : okW (badS b s t) := by
  unfold badS
  split
  · exact .inl rfl
  · exact .inr (.inl rfl)
theorem stpS_W (b : Tri) (s : StD) (t : Int) (g : Bool) : okW (stpS b s t g) := by
  unfold stpS
  split
  · exact okS_W b s
  · exact badS_W b s t
theorem sntS_len {bs : List Tri} {ss : List StD} {t : Int} {up : Bool} : (sntS bs ss t up).length = bs.length := mixS_len
theorem sntS_get {bs : List Tri} {ss : List StD} {t : Int} {up : Bool} {i : Nat} {b : Tri} {s : StD} (hb : bs[i]? = some b) (hs : ss[i]? = some s) :
    (sntS bs ss t up)[i]? = some (if i < kOf bs ss t then stpS b s t (decide (kOf bs ss t = bs.length) && up) else s) := by
  have hi := (List.getElem?_eq_some_iff.mp hb).1
  unfold sntS
  rw [mixS_get hi, mixE_is hb hs]
  congr 1
  by_cases c : i < kOf bs ss t
  · rw [if_pos c, if_pos c]
    rfl
  · rw [if_neg c, if_neg c, if_neg c]
theorem sntS_W {bs : List Tri} {ss : List StD} {t : Int} {up : Bool} (sl : ss.length = bs.length) (h : ∀ s ∈ ss, okW s) : ∀ s ∈ sntS bs ss t up, okW s := by
  intro s hs
  obtain ⟨i, hi⟩ := List.mem_iff_getElem?.mp hs
  have l := (List.getElem?_eq_some_iff.mp hi).1
  rw [sntS_len] at l
  have e1 : bs[i]? = some bs[i] := List.getElem?_eq_getElem l
  have e2 : ss[i]? = some ss[i] := List.getElem?_eq_getElem (by omega)
  rw [sntS_get e1 e2] at hi
  cases hi
  split
  · exact stpS_W _ _ _ _
  · exact h _ (List.getElem_mem _)
theorem sntS_cut {bs : List Tri} {ss : List StD} {t : Int} {up : Bool} (sl : ss.length = bs.length) : sntS bs ss t up = (List.zipWith (fun b s => stpS b s t (decide (kOf bs ss t = bs.length) && up)) (bs.take (kOf bs ss t)) ss) ++ ss.drop (kOf bs ss t) := by
  have kl := kOf_le bs ss t
  apply List.ext_getElem?
  intro i
  by_cases c : i < bs.length
  · have e1 : bs[i]? = some bs[i] := List.getElem?_eq_getElem c
    have e2 : ss[i]? = some ss[i] := List.getElem?_eq_getElem (by omega)
    rw [sntS_get e1 e2]
    by_cases q : i < kOf bs ss t
    · rw [if_pos q, List.getElem?_append_left (by rw [List.length_zipWith, List.length_take]; omega), List.getElem?_zipWith, List.getElem?_take, if_pos q, e1, e2]
    · rw [if_neg q, List.getElem?_append_right (by rw [List.length_zipWith, List.length_take]; omega), List.length_zipWith, List.length_take, List.getElem?_drop, show kOf bs ss t + (i - min (min (kOf bs ss t) bs.length) ss.length) = i by omega, e2]
  · rw [List.getElem?_eq_none (by rw [sntS_len]; omega), List.getElem?_eq_none (by rw [List.length_append, List.length_zipWith, List.length_take, List.length_drop]; omega)]
/-- what is told of a request -/
def TldAt (K : PySem.W.Frag) (H : Hp) (x : V) (n k : Nat) (up : Bool) : Prop := ∃ a, x = .ref a ∧ SqT K H a (outV n k (!up))
theorem TldAt.same {K : PySem.W.Frag} {H H' : Hp} {x : V} {n k : Nat} {up : Bool} (h : TldAt K H x n k up) (s : Same H H') : TldAt K H' x n k up := by
  obtain ⟨a, e, q⟩ := h
  exact ⟨a, e, q.ext fun b o e => s b o e⟩
theorem TldAt.dp {K : PySem.W.Frag} {H : Hp} {x : V} {n k : Nat} {up : Bool} (h : TldAt K H x n k up) : Dp K H x (outD n k (!up)) := by
  obtain ⟨a, rfl, h⟩ := h
  unfold outV at h
  unfold outD
  split
  · rename_i c
    rw [if_pos c] at h
    exact .tup h (.cons (.str _) (.cons (.int _) .nil))
  · rename_i c
    rw [if_neg c] at h
    cases up with
    | true => exact .tup h (.cons (.str _) .nil)
    | false => exact .tup h (.cons (.str _) .nil)
theorem cut_take0 (xs : List V) (k : Nat) (h : k ≤ xs.length) : cutV xs none (some (k : Int)) = xs.take k := by
  unfold cutV
  rw [HT.sIx_nat, HT.sIx_none, List.drop_zero, Nat.sub_zero, Nat.min_eq_left h]
theorem cut_drop0 (xs : List V) (k : Nat) (h : k ≤ xs.length) : cutV xs (some (k : Int)) none = xs.drop k := by
  unfold cutV
  rw [HT.sIx_nat, HT.sIx_none, Nat.min_eq_left h, List.take_of_length_le (by rw [List.length_drop]; exact Nat.le_refl _)]
theorem slA_by {K : PySem.W.Frag} {a : Addr} {xs : List V} {lo hi : Option Int} {H : Hp} {Q : VK} (h : SqT K H a xs) (k : ∀ p H', SqT K H' p (cutV xs lo hi) → Same H H' → Q (.ref p) H') : rSlA K (.ref a) lo hi H Q := by
  refine ⟨a, xs, rfl, h, fun c => k a H ?_ (Same.refl H), fun _ p np => k p _ (SqT.of upd_same) (Same.upd np)⟩
  have e : cutV xs lo hi = xs := by
    unfold cutV
    rw [c.1, c.2, List.drop_zero, Nat.sub_zero, List.take_length]
  rw [e]
  exact h
theorem paired_drop {α β : Type} {F : α → β → Prop} : ∀ {xs : List α} {ys : List β} (n : Nat), Paired F xs ys → Paired F (xs.drop n) (ys.drop n)
  | _, _, 0, h => h
  | _, _, n + 1, .nil => .nil
  | _, _, n + 1, .cons _ p => paired_drop n p
def spSent (K : PySem.W.Frag) : Sp := fun vs H Q _ => ∃ B l xs ys bs ss t up, vs = [.ref B, .ref l, .int t, .bl up] ∧ SqT K H B xs ∧ Brs H xs bs ∧ H l = some (.lst ys) ∧ Sts H ys ss ∧ ss.length = bs.length ∧ bs.length ≤ 100 ∧ (∀ s ∈ ss, okW s) ∧
  ∀ q x l2 ys2 H', H' q = some (.tup [x, .ref l2]) → TldAt K H' x bs.length (kOf bs ss t) up → H' l2 = some (.lst ys2) → Sts H' ys2 (sntS bs ss t up) → Same H H' → H q = none → H l2 = none → Q (.ref q) H'
section
variable {P : Program} {w : World} {K : PySem.W.Frag} {mg : Str → Option Value} {base : Heap} {L : LA}
abbrev N_sent : List Str := ["breakers", "states", "time", "up", "reached", "told", "behind", "breaker", "state"]
theorem sc_sent : FnScope N_sent ["breakers", "states", "time", "up"] (defScope st_sent) := ⟨rfl, rfl, rfl, by decide +kernel, rfl, by decide +kernel, by decide +kernel⟩
theorem fn_sent (T : LX K mg L) {fd : FuncData} (F : Fun K "sent" "sent" st_sent L.f_sent fd) : FnOk P w K mg base CX0 3 L.f_sent fd ["breakers", "states", "time", "up"] (spSent K) := by
  obtain ⟨a_SERVED, c_SERVED, t_SERVED⟩ := T.n_SERVED
  obtain ⟨a_FAILED, c_FAILED, t_FAILED⟩ := T.n_FAILED
  have G_passes := ok_passes (P := P) (w := w) (base := base) T
  have G_statebehind := ok_statebehind (P := P) (w := w) (base := base) T
  have nd := sc_sent.nd
  refine F.ok sc_sent (fun vs H Q E h => ?_) (fun cdv A outer S H vs Q E hr h => ?_)
  · obtain ⟨B, l, xs, ys, bs, ss, t, up, rfl, _⟩ := h
    rfl
  · obtain ⟨B, l, xs, ys, bs, ss, t, up, rfl, hB, hb, hl, hs, sl, bl, ok, k⟩ := h
    refine ⟨_, (pss_cons (ps_set (i := 4) nd rfl (Or.inl rfl) pe_int)
       (C8.pss_cut (ps_while PassesOwn.never (PW.pt (pw_and (pt_cmpR op_lt (pv 4) (pe_callB call_len_seq (by rfl) T.b_len PySem.boot_len (pa_cons (pv 0) pa_nil)) (nomark _)) (pw_and1 (pt_val (pe_c G_passes (hr.mono (by decide)) rfl (pa_cons (pe_ix (r := rIxT K) ix_tup (pv 0) (pv 4) (fun _ _ => rfl)) (pa_cons (pe_ix (r := rIxL K) ix_list (pv 1) (pv 4) (fun _ _ => rfl)) (pa_cons (pv 2) pa_nil)))))))) (pss_one (ps_aug (i := 4) nd rfl (Or.inl rfl) pe_int ip_add)))
       (C8.pss_cut (ps_set (i := 5) nd rfl (Or.inr rfl) (pe_ifExp (pt_val (pv 3)) (pe_glob (by rfl) c_SERVED rr) (pe_glob (by rfl) c_FAILED rr)))
       (C8.pss_cut (ps_if (pt_cmpR op_lt (pv 4) (pe_callB call_len_seq (by rfl) T.b_len PySem.boot_len (pa_cons (pv 0) pa_nil)) (nomark _)) (pss_one (ps_set (i := 5) nd rfl (Or.inr rfl) (pe_tup (pa_cons pe_str (pa_cons (pv 4) pa_nil))))) pss_nil)
       (pss_cons (ps_setLc (i := 6) (own := [("breaker", 7), ("state", 8)]) (g := gTup K 2 (gCons (gName 7) (gCons (gName 8) (gNil)))) (tt := tYes) rfl nd rfl rfl (sw_true rfl rfl rfl (by decide +kernel)) (pi_zipM (by rfl) T.b_zip (pa_cons (pe_slice (r := rSlA K) sl_tupA (pv 0) po_none (po_some (pv 4))) (pa_cons (pv 1) pa_nil))) (blkOk_by (own := [("breaker", 7), ("state", 8)]) (N := N_sent) (sc := defScope st_sent) (by decide +kernel)) (fun _ _ _ _ _ => pg_tup rfl (pgs_cons (pg_name (i := 7) nd rfl (Or.inl rfl)) (pgs_cons (pg_name (i := 8) nd rfl (Or.inl rfl)) pgs_nil))) (fun _ _ _ _ _ => pts_nil) (fun _ _ _ _ _ => (pe_c G_statebehind (hr.mono (by decide)) rfl (pa_cons (pv 7) (pa_cons (pv 8) (pa_cons (pv 2) (pa_cons (pe_cmpR (op_eqDK (K := K) rfl hr.units) (pv 5) (pe_glob (by rfl) c_SERVED rr) (nomark _)) pa_nil)))))))
       (pss_one (ps_ret (pe_tup (pa_cons (pv 5) (pa_cons (pe_op op_cat (pv 6) (pe_slice (r := rSlL K) sl_list (pv 1) (po_some (pv 4)) po_none)) pa_nil)))))))))), ?_⟩
    have xl := hb.len
    have yl := paired_len hs
    refine ⟨fun σ' H' => σ' = [some (.ref B), some (.ref l), some (.int t), some (.bl up), some (.int (kOf bs ss t : Nat)), none, none, none, none] ∧ H' = H, ?_, ?_⟩
    · refine while_by (fun σ H2 => ∃ j : Nat, σ = [some (.ref B), some (.ref l), some (.int t), some (.bl up), some (.int (j : Nat)), none, none, none, none] ∧ j ≤ bs.length ∧ (∀ (i : Nat) (b : Tri) (s : StD), i < j → bs[i]? = some b → ss[i]? = some s → psB b s t) ∧ H2 = H)
        (fun σ _ => match σ with | [_, _, _, _, some (.int r), _, _, _, _] => ((bs.length : Int) - r).toNat | _ => 0)
        ⟨0, rfl, Nat.zero_le _, fun i b s h => absurd h (Nat.not_lt_zero _), rfl⟩ ?_ ?_
      · rintro σ H2 ⟨j, rfl, jl, hj, rfl⟩
        refine ⟨_, rfl, _, rfl, B, _, rfl, .inr hB, _, _, rfl, rfl, _, rfl, ite2 (fun c => ?_) (fun c => ?_)⟩
        · have c' : (j : Int) < xs.length := of_decide_eq_true c
          have jb : j < bs.length := by omega
          obtain ⟨x, hx⟩ : ∃ x, xs[j]? = some x := ⟨_, List.getElem?_eq_getElem (by omega)⟩
          obtain ⟨y, hy⟩ : ∃ y, ys[j]? = some y := ⟨_, List.getElem?_eq_getElem (by omega)⟩
          obtain ⟨b, eb, hbx⟩ := hb.get hx
          obtain ⟨s, es, hsy⟩ := paired_get hs hy
          refine ⟨_, rfl, _, rfl, B, xs, (j : Int), x, rfl, rfl, hB, atI_nat hx, _, rfl, _, rfl, l, ys, (j : Int), y, rfl, rfl, SqL.of hl, atI_nat hy, _, rfl, x, y, b, s, t, rfl, hbx, hsy, _, rfl, ite2 (fun p => ?_) (fun p => ?_)⟩
          · have p' : psB b s t := of_decide_eq_true p
            refine ⟨_, rfl, _, _, rfl, rfl, ⟨j + 1, rfl, jb, fun i b' s' hi e1 e2 => ?_, rfl⟩, ?_⟩
            · by_cases q : i < j
              · exact hj i b' s' q e1 e2
              · have : i = j := by omega
                subst this
                rw [eb] at e1
                rw [es] at e2
                cases e1
                cases e2
                exact p'
            · show ((bs.length : Int) - ((j : Int) + 1)).toNat < ((bs.length : Int) - (j : Int)).toNat
              omega
          · have e := kOf_is sl jl hj fun b' s' e1 e2 => by
              rw [eb] at e1
              rw [es] at e2
              cases e1
              cases e2
              exact fun h => p (decide_eq_true h)
            rw [← e]
            exact ⟨rfl, rfl⟩
        · have c' : ¬ (j : Int) < xs.length := fun h => c (decide_eq_true h)
          have e := kOf_is sl jl hj fun b' s' e1 e2 => absurd (List.getElem?_eq_some_iff.mp e1).1 (by omega)
          rw [← e]
          exact ⟨rfl, rfl⟩
      · rintro σ H Q Q' m ⟨a1, a2, a3, a4, a5, a6, a7, a8, a9, a10, a11, a12, bb, a13, q⟩
        refine ⟨a1, a2, a3, a4, a5, a6, a7, a8, a9, a10, a11, a12, bb, a13, ?_⟩
        cases bb with
        | false => exact iteF (m _ _ (by rwa [if_neg Bool.false_ne_true] at q))
        | true =>
          rw [if_pos rfl] at q
          obtain ⟨b1, b2, b3, b4, b5, b6, b7, b8, b9, b10, b11, b12, b13, b14, b15, b16, b17, b18, b19, b20, b21, b22, b23, b24, b25, b26, b27, b28, b29, b30, b31, b32, b33, b34, b35, b36, q⟩ := q
          exact iteT ⟨b1, b2, b3, b4, b5, b6, b7, b8, b9, b10, b11, b12, b13, b14, b15, b16, b17, b18, b19, b20, b21, b22, b23, b24, b25, b26, b27, b28, b29, b30, b31, b32, b33, b34, b35, b36, m _ _ q⟩
    rintro σ' H' ⟨rfl, rfl⟩
    have kl := kOf_le bs ss t
    obtain ⟨n, hn⟩ : ∃ n, n = kOf bs ss t := ⟨_, rfl⟩
    refine ⟨fun σ2 H2 => ∃ a, σ2 = [some (.ref B), some (.ref l), some (.int t), some (.bl up), some (.int (kOf bs ss t : Nat)), some (.ref a), none, none, none] ∧ SqT K H2 a (outV bs.length bs.length (!up)) ∧ H2 = H', ?_, ?_⟩
    · rw [outV_n]
      cases up with
      | true => exact ⟨_, rfl, _, rfl, iteT ⟨a_SERVED, rfl, t_SERVED _, rfl⟩⟩
      | false => exact ⟨_, rfl, _, rfl, iteF ⟨a_FAILED, rfl, t_FAILED _, rfl⟩⟩
    rintro σ2 H2 ⟨a, rfl, ha, rfl⟩
    refine ⟨fun σ3 H3 => ∃ a, σ3 = [some (.ref B), some (.ref l), some (.int t), some (.bl up), some (.int (kOf bs ss t : Nat)), some (.ref a), none, none, none] ∧ SqT K H3 a (outV bs.length (kOf bs ss t) (!up)) ∧ Same H2 H3, ?_, ?_⟩
    · refine ⟨_, rfl, _, rfl, B, _, rfl, .inr hB, _, _, rfl, rfl, _, rfl, ite2 (fun c => ?_) (fun c => ?_)⟩
      · have c' : (kOf bs ss t : Int) < xs.length := of_decide_eq_true c
        refine ⟨_, rfl, (by show 2 ≤ sizeLine; decide), fun p np => ⟨p, rfl, ?_, Same.upd np⟩⟩
        rw [outV_k (show kOf bs ss t < bs.length by omega)]
        exact SqT.of upd_same
      · have c' : ¬ (kOf bs ss t : Int) < xs.length := fun h => c (decide_eq_true h)
        have e : kOf bs ss t = bs.length := by omega
        rw [e]
        exact ⟨a, rfl, ha, Same.refl _⟩
    rintro σ3 H3 ⟨a, rfl, ha, s3⟩
    -- the comprehension
    refine ⟨_, rfl, _, rfl, (kOf bs ss t : Int), rfl, slA_by (hB.ext fun b o e => s3 b o e) fun Bq H4 hBq s4 => ?_⟩
    rw [cut_take0 xs (kOf bs ss t) (by omega)] at hBq
    have s34 := s3.trans s4
    refine ⟨_, rfl, Bq, l, xs.take (kOf bs ss t), ys, rfl, hBq, SqL.of (s34 _ _ hl), fun D nD => ?_⟩
    have hxn : (xs.take (kOf bs ss t)).length = kOf bs ss t := by rw [List.length_take]; omega
    refine lc_zipM (K := K) (a := Bq) (b := l) (xs := xs.take (kOf bs ss t)) (ys := ys) (by omega) (fun j Hy => ∃ ws, Hy D = some (.lst ws) ∧ Sts Hy ws ((List.zipWith (fun b s => stpS b s t (decide (kOf bs ss t = bs.length) && up)) (bs.take (kOf bs ss t)) ss).take j) ∧ Same H4 Hy)
      ⟨[], upd_same, .nil, Same.upd nD⟩ (fun j Hy ⟨_, _, _, sy⟩ => ⟨hBq.ext fun b o e => sy b o e, SqL.of (sy _ _ (s34 _ _ hl))⟩) ?_ ?_
    · rintro j x y T' Hy hxj hyj ⟨ws, hws, hz, sy⟩ hT
      have jn : j < kOf bs ss t := by have := (List.getElem?_eq_some_iff.mp hxj).1; omega
      rw [List.getElem?_take, if_pos jn] at hxj
      obtain ⟨b, eb, hbx⟩ := hb.get hxj
      obtain ⟨s, es, hsy⟩ := paired_get hs hyj
      have wl := paired_len hz
      rw [List.length_take, List.length_zipWith, List.length_take] at wl
      have sT := Same.upd (o := .tup [x, y]) hT
      have s5 := (s34.trans sy).trans sT
      refine ⟨T', _, rfl, SqT.of upd_same, rfl, _, _, rfl, _, _, rfl, rfl, rfl, tYes_of ?_⟩
      have hd : Dp K (upd Hy T' (.tup [x, y])) (.ref a) (outD bs.length (kOf bs ss t) (!up)) := TldAt.dp ⟨a, rfl, ha.ext fun b o e => ((s4.trans sy).trans sT) b o e⟩
      refine ⟨_, rfl, _, rfl, _, rfl, _, rfl, _, _, hd, .tup (t_SERVED _) (.cons (.str _) .nil), outD_sh _ _ _, served_sh, ?_⟩
      rw [outD_served _ _ _ kl, Bool.not_not]
      refine ⟨x, y, b, s, t, _, rfl, hbx.nl (NL.of s5), hsy.same s5, ok s (List.mem_of_getElem? es), fun c H6 hc s6 nc => ?_⟩
      have hw6 := s6 _ _ (sT _ _ hws)
      have n7 := NL.upd (o := .lst (ws ++ [.ref c])) hw6
      refine ⟨ws, hw6, small1 (by omega), ws ++ [.ref c], upd_same, ?_, fun u o e => ?_⟩
      · have ez : (List.zipWith (fun b s => stpS b s t (decide (kOf bs ss t = bs.length) && up)) (bs.take (kOf bs ss t)) ss)[j]? = some (stpS b s t (decide (kOf bs ss t = bs.length) && up)) := by
          rw [List.getElem?_zipWith, List.getElem?_take, if_pos jn, eb, es]
        rw [List.take_add_one, ez]
        exact paired_app (((hz.same sT).same s6).nl n7) (.cons ⟨c, rfl, n7 _ _ hc fun _ z => nomatch z⟩ .nil)
      · rw [upd_ne (ne_of_none e nD)]
        exact s6 _ _ (sT _ _ (sy _ _ e))
    rintro Hy ⟨ws, hws, hz, sy⟩
    rw [List.take_of_length_le (by rw [List.length_zipWith, List.length_take]; omega)] at hz
    have s4y := s34.trans sy
    refine ⟨_, rfl, _, rfl, _, rfl, _, rfl, (kOf bs ss t : Int), rfl, l, ys, rfl, SqL.of (s4y _ _ hl), fun lt nlt => ?_⟩
    rw [cut_drop0 ys (kOf bs ss t) (by omega)]
    have s6 := Same.upd (o := .lst (ys.drop (kOf bs ss t))) nlt
    have wl := paired_len hz
    rw [List.length_zipWith, List.length_take] at wl
    refine ⟨D, lt, ws, ys.drop (kOf bs ss t), rfl, rfl, s6 _ _ hws, upd_same, small2 (by rw [List.length_drop]; omega), fun l2 nl2 => ?_⟩
    have s7 := Same.upd (o := .lst (ws ++ ys.drop (kOf bs ss t))) nl2
    refine ⟨(by show 2 ≤ sizeLine; decide), fun q nq => ?_⟩
    have s8 := Same.upd (o := .tup [.ref a, .ref l2]) nq
    have s48 := (((s4y.trans s6).trans s7).trans s8)
    have sA : Same H3 _ := (((s4.trans sy).trans s6).trans s7).trans s8
    refine k q (.ref a) l2 (ws ++ ys.drop (kOf bs ss t)) _ upd_same ⟨a, rfl, ha.ext fun b o e => sA b o e⟩ (s8 _ _ upd_same) ?_ s48 (none_of ((s4y.trans s6).trans s7) nq) (none_of (s4y.trans s6) nl2)
    rw [sntS_cut sl]
    exact paired_app ((((hz.same s6).same s7).same s8)) (paired_drop _ (hs.same s48))
theorem ok_sent (T : LX K mg L) : Cal P w K mg base "sent" 3 L.f_sent ["breakers", "states", "time", "up"] (spSent K) := T.d_sent.cal fun fd F => fn_sent T F
end
/-! ### == of rows -/
def spEqR (C : Addr) : Sp := fun vs H Q _ => ∃ p B xs ts st ph v b, vs = [.ref p, v] ∧ RowAt C H p B xs ts st ph ∧ EqOf C H (ts, st, ph) v b ∧ Q (.bl b) H
section
variable {P : Program} {w : World} {K : PySem.W.Frag} {mg : Str → Option Value} {base : Heap} {L : LA}
abbrev N_Roweq : List Str := ["self", "other"]
theorem sc_Roweq : FnScope N_Roweq ["self", "other"] (defScope st_Row_eq) := ⟨rfl, rfl, rfl, by decide +kernel, rfl, by decide +kernel, by decide +kernel⟩
theorem fn_Roweq (T : LX K mg L) {fd : FuncData} (F : Fun K "__eq__" "Row.__eq__" st_Row_eq L.m_Row_eq fd) : FnOk P w K mg base CX0 1 L.m_Row_eq fd ["self", "other"] (spEqR L.c_Row) := by
  have M_Row := T.gc_Row
  have nd := sc_Roweq.nd
  refine F.ok sc_Roweq (fun vs H Q E h => ?_) (fun cdv A outer S H vs Q E hr h => ?_)
  · obtain ⟨p, B, xs, ts, st, ph, v, b, rfl, _⟩ := h
    rfl
  · obtain ⟨p, B, xs, ts, st, ph, v, b, rfl, R, h, k⟩ := h
    refine ⟨_, (pss_one (ps_ret (pe_and (pe_callB call_isi (by rfl) T.b_isinstance (by decide +kernel) (pa_cons (pv 1) (pa_cons (pe_glob rfl M_Row rr) pa_nil))) (pe_and (pe_cmpR (op_eqD hr.units) (pe_fld (pv 0) rfl) (pe_fld (pv 1) rfl) (nomark _)) (pe_and (pe_cmpR op_eq (pe_fld (pv 0) rfl) (pe_fld (pv 1) rfl) (nomark _)) (pe_one (pe_cmpR op_eq (pe_fld (pv 0) rfl) (pe_fld (pv 1) rfl) (nomark _)))))))), ?_⟩
    obtain ⟨dx, hp⟩ := R.ob
    cases h with
    | non => exact ⟨_, rfl, _, .ref L.c_Row, _, _, _, rfl, .own L.c_Row, Kd.non.ty, T.cf_Row.kitT (H := H) .non, _, rfl, iteF k⟩
    | lst e => exact ⟨_, rfl, _, .ref L.c_Row, _, _, _, rfl, .own L.c_Row, (Kd.lst e).ty, T.cf_Row.kitT (.lst e), _, rfl, iteF k⟩
    | tup e => exact ⟨_, rfl, _, .ref L.c_Row, _, _, _, rfl, .own L.c_Row, (Kd.tup e).ty, T.cf_Row.kitT (.tup e), _, rfl, iteF k⟩
    | @row q U ys us st' ph' R' =>
      obtain ⟨dy, hq⟩ := R'.ob
      refine ⟨_, rfl, _, .ref L.c_Row, _, _, _, rfl, .own L.c_Row, T.cf_Row.tyR hq, if_pos (beq_self_eq_true _), _, rfl, iteT ?_⟩
      refine ⟨_, rfl, p, L.c_Row, dx, _, _, rfl, hp, T.cf_Row.cl, T.nf_Row_breakers, rowF_b _ _ _, _, rfl, q, L.c_Row, dy, _, _, rfl, hq, T.cf_Row.cl, T.nf_Row_breakers, rowF_b _ _ _, .tuple (ts.map triD), .tuple (us.map triD), .tup (SqT.of R.tp) R.br.dp, .tup (SqT.of R'.tp) R'.br.dp, shT _, shT _, _, rfl, ?_⟩
      have e0 : PyData.eqv (.tuple (ts.map triD)) (.tuple (us.map triD)) = decide (ts = us) := by rw [PyData.eqv]; exact triDs_eq ts us
      rw [e0]
      have fin : ∀ c : Bool, decide ((ts, st, ph) = (us, st', ph')) = c → Q (.bl c) H := fun c e => by rw [← e]; exact k
      refine ite2 (fun c1 => ?_) (fun c1 => ?_)
      · have c1' : ts = us := of_decide_eq_true c1
        refine ⟨_, rfl, p, L.c_Row, dx, _, _, rfl, hp, T.cf_Row.cl, T.nf_Row_step, rowF_s _ _ _, _, rfl, q, L.c_Row, dy, _, _, rfl, hq, T.cf_Row.cl, T.nf_Row_step, rowF_s _ _ _, rfl, _, rfl, ?_⟩
        refine ite2 (fun c2 => ?_) (fun c2 => ?_)
        · have c2' : st = st' := V.int.inj (of_decide_eq_true c2)
          refine ⟨_, rfl, p, L.c_Row, dx, _, _, rfl, hp, T.cf_Row.cl, T.nf_Row_phase, rowF_p _ _ _, _, rfl, q, L.c_Row, dy, _, _, rfl, hq, T.cf_Row.cl, T.nf_Row_phase, rowF_p _ _ _, rfl, fin _ ?_⟩
          subst c1' c2'
          rw [Bool.eq_iff_iff]
          simp
        · refine fin false (decide_eq_false fun e => c2 (decide_eq_true ?_))
          have e' : st = st' := congrArg (fun z : RDat => z.2.1) e
          rw [e']
      · refine fin false (decide_eq_false fun e => c1 (decide_eq_true ?_))
        exact congrArg (fun z : RDat => z.1) e
theorem ok_Roweq (T : LX K mg L) : Met P w K mg base L.c_Row "__eq__" 1 L.m_Row_eq ["self", "other"] (spEqR L.c_Row) := T.mm_Row_eq.met fun fd F => fn_Roweq T F
end
theorem EqOf.tyN {C : Addr} {H : Hp} {d : RDat} {v : V} {b : Bool} (h : EqOf C H d v b) : ∃ t, TyN H C v t := by
  cases h with
  | row R => obtain ⟨dx, h⟩ := R.ob; exact ⟨_, .ins h⟩
  | non => exact ⟨_, .non⟩
  | lst e => exact ⟨_, .lst e⟩
  | tup e => exact ⟨_, .tup e⟩
theorem ne_row {C : Addr} {H : Hp} {z W : Addr} {xs : List V} {ts : List Tri} {st ph : Int} {v : V} {b : Bool} {Q : VK} (R : RowAt C H z W xs ts st ph) (h : EqOf C H (ts, st, ph) v b) (k : Q (.bl (!b)) H) : rOwnEq C (spEqR C) E0 Bool.not (.ref z) v H Q := by
  obtain ⟨dx, hz⟩ := R.ob
  obtain ⟨t, ty⟩ := h.tyN
  exact ⟨z, dx, _, t, rfl, hz, ty, z, W, xs, ts, st, ph, v, b, rfl, R, h, b, rfl, k⟩
theorem eq_row {C : Addr} {H : Hp} {z W : Addr} {xs : List V} {ts : List Tri} {st ph : Int} {v : V} {b : Bool} {Q : VK} (R : RowAt C H z W xs ts st ph) (h : EqOf C H (ts, st, ph) v b) (k : Q (.bl b) H) : rOwnEq C (spEqR C) E0 _root_.id (.ref z) v H Q := by
  obtain ⟨dx, hz⟩ := R.ob
  obtain ⟨t, ty⟩ := h.tyN
  exact ⟨z, dx, _, t, rfl, hz, ty, z, W, xs, ts, st, ph, v, b, rfl, R, h, b, rfl, k⟩
/-! ### rows played -/
theorem Met.p_m1 {X : Cx} {C : Addr} {k : Nat} {f : Addr} {ps : List Str} {sp : Sp} {m : Str} {o e : Expr} {es : List Expr} {ta : TE} {t : TA} {apos pos : Pos} {pl : Sem Bool} (c : Met X.prog X.w X.K X.mg X.base C m k f ps sp) (cl : Cls X.K C) (hr : Room k X.A) (he : PE X o ta) (ha : PA X (e :: es) t)
    (hst : starEach (e :: es) X.env = (false, eval e X.env) :: starEach es X.env := by rfl) (hpl : (backTo pos (starEach es X.env)).any (·.1) = false := by rfl)
    (ht : eval (.Call (.Attribute o m apos) (e :: es) [] pos) X.env = (do let ov ← eval o X.env; standAt apos.atName; let (f, first) ← holding [ov] (getMethod ov m pl); callWith pos f first (backTo pos (starEach (e :: es) X.env)) (backToKw pos (keywordEach [] X.env))) := by rfl) :
    PE X (.Call (.Attribute o m apos) (e :: es) [] pos) (tMeth C m sp [] E0 ta t) := by
  obtain ⟨fd, F, b⟩ := c.ex
  exact pe_meth he cl c.me F hr b .nil pass0 ha hst hpl ht
theorem TldAt.nl {K : PySem.W.Frag} {H H' : Hp} {x : V} {n k : Nat} {up : Bool} (h : TldAt K H x n k up) (s : NL H H') : TldAt K H' x n k up := by
  obtain ⟨a, e, hq⟩ := h
  refine ⟨a, e, ?_⟩
  rcases hq with hq | hq
  · rcases hq with hq | hq
    · exact SqT.of (s _ _ hq fun _ z => nomatch z)
    · exact .inl (.inr (by obtain ⟨u, hq⟩ := hq; exact ⟨u, s _ _ hq fun _ z => nomatch z⟩))
  · exact .inr hq
def wS (up : Bool) : Str := if up = true then "up" else "down"
def wV (up : Bool) : V := .str (wS up)
theorem wS_up : wS true = "up" := rfl
theorem wS_down : wS false = "down" := rfl
theorem up_ne : ¬ (("down" : Str) = "up") := by decide +kernel
/-- the states behind words, from so many requests on -/
def plS (ts : List Tri) (st ph : Int) : Nat → List StD → List Bool → List StD
  | _, ss, [] => ss
  | n, ss, w :: r => plS ts st ph (n + 1) (sntS ts ss (ph + (n : Int) * st) w) r
theorem plS_app (ts : List Tri) (st ph : Int) : ∀ (ws : List Bool) (n : Nat) (ss : List StD) (w : Bool), plS ts st ph n ss (ws ++ [w]) = sntS ts (plS ts st ph n ss ws) (ph + ((n + ws.length : Nat) : Int) * st) w
  | [], _, _, _ => rfl
  | v :: r, n, ss, w => by
    show plS ts st ph (n + 1) (sntS ts ss (ph + (n : Int) * st) v) (r ++ [w]) = _
    rw [plS_app ts st ph r]
    show _ = sntS ts (plS ts st ph (n + 1) (sntS ts ss (ph + (n : Int) * st) v) r) (ph + ((n + (r.length + 1) : Nat) : Int) * st) w
    rw [show n + 1 + r.length = n + (r.length + 1) by omega]
def plA (ts : List Tri) (st ph : Int) (ws : List Bool) : List StD := plS ts st ph 0 (List.replicate ts.length ("closed", 0)) ws
theorem plA_nil (ts : List Tri) (st ph : Int) : plA ts st ph [] = List.replicate ts.length (("closed", 0) : StD) := rfl
theorem plA_app (ts : List Tri) (st ph : Int) (ws : List Bool) (w : Bool) : plA ts st ph (ws ++ [w]) = sntS ts (plA ts st ph ws) (ph + (ws.length : Int) * st) w := by
  unfold plA
  rw [plS_app, Nat.zero_add]
theorem plS_ok (ts : List Tri) (st ph : Int) : ∀ (ws : List Bool) (n : Nat) (ss : List StD), ss.length = ts.length → (∀ s ∈ ss, okW s) → (plS ts st ph n ss ws).length = ts.length ∧ ∀ s ∈ plS ts st ph n ss ws, okW s
  | [], _, _, h1, h2 => ⟨h1, h2⟩
  | _ :: r, n, _, h1, h2 => plS_ok ts st ph r (n + 1) _ sntS_len (sntS_W h1 h2)
theorem plA_ok (ts : List Tri) (st ph : Int) (ws : List Bool) : (plA ts st ph ws).length = ts.length ∧ ∀ s ∈ plA ts st ph ws, okW s :=
  plS_ok ts st ph ws 0 _ List.length_replicate fun s hs => by rw [List.eq_of_mem_replicate hs]; exact .inl rfl
theorem q1 : ¬ (("row" : Str) = "words") := by decide +kernel
theorem q2 : ¬ (("row" : Str) = "history") := by decide +kernel
theorem q3 : ¬ (("words" : Str) = "history") := by decide +kernel
def plF (r aw ah : Addr) : List (Str × V) := putF "history" (.ref ah) (putF "words" (.ref aw) (putF "row" (.ref r) []))
theorem plF_r (r aw ah : Addr) : (plF r aw ah).lookup ("row" : Str) = some (.ref r) := by
  unfold plF
  rw [lookup_putF, if_neg q2, lookup_putF, if_neg q1, lookup_putF, if_pos rfl]
theorem plF_w (r aw ah : Addr) : (plF r aw ah).lookup ("words" : Str) = some (.ref aw) := by
  unfold plF
  rw [lookup_putF, if_neg q3, lookup_putF, if_pos rfl]
theorem plF_h (r aw ah : Addr) : (plF r aw ah).lookup ("history" : Str) = some (.ref ah) := by
  unfold plF
  rw [lookup_putF, if_pos rfl]
theorem plF_no (r aw ah : Addr) {m : Str} (h1 : ¬ m = "history") (h2 : ¬ m = "words") (h3 : ¬ m = "row") : (plF r aw ah).lookup m = none := by
  unfold plF
  rw [lookup_putF, if_neg h1, lookup_putF, if_neg h2, lookup_putF, if_neg h3]
  all_goals rfl
/-- a Playing stands at p -/
structure PlAt (CR C : Addr) (H : Hp) (p r B aw ah : Addr) (xs : List V) (ts : List Tri) (st ph : Int) (ws : List Bool) (ls : List Addr) : Prop where
  ob : ∃ dx, H p = some (.ins C dx (plF r aw ah))
  row : RowAt CR H r B xs ts st ph
  hw : H aw = some (.lst (ws.map wV))
  hh : H ah = some (.lst (ls.map V.ref))
  ln : ls.length = ws.length + 1
  hs : ∀ (k : Nat) (l : Addr), ls[k]? = some l → ∃ ys, H l = some (.lst ys) ∧ Sts H ys (plA ts st ph (ws.take k))
  n1 : aw ≠ ah
  n2 : aw ∉ ls
  n3 : ah ∉ ls
/-- .. whose own lists are none of these -/
def PlV (CR C : Addr) (av : List Addr) (H : Hp) (p : Addr) (ts : List Tri) (st ph : Int) (ws : List Bool) : Prop := ∃ r B aw ah xs ls, PlAt CR C H p r B aw ah xs ts st ph ws ls ∧ ∀ b ∈ av, b ≠ aw ∧ b ≠ ah ∧ b ∉ ls
/-- what stays but for the lists of a list -/
def KeB (av : List Addr) (H H' : Hp) : Prop := ∀ b o, H b = some o → (b ∉ av ∨ ∀ xs, o ≠ .lst xs) → H' b = some o
/-- what stays of the lists of a list -/
def KeV (av : List Addr) (H H' : Hp) : Prop := ∀ b o, H b = some o → (b ∈ av ∨ ∀ xs, o ≠ .lst xs) → H' b = some o
theorem KeB.nl {av : List Addr} {H H' : Hp} (k : KeB av H H') : NL H H' := fun b o e n => k b o e (.inr n)
theorem KeV.nl {av : List Addr} {H H' : Hp} (k : KeV av H H') : NL H H' := fun b o e n => k b o e (.inr n)
theorem KeB.same {av : List Addr} {H H' : Hp} (s : Same H H') : KeB av H H' := fun b o e _ => s b o e
theorem KeV.same {av : List Addr} {H H' : Hp} (s : Same H H') : KeV av H H' := fun b o e _ => s b o e
theorem KeV.trans {av : List Addr} {H H1 H2 : Hp} (h : KeV av H H1) (h' : KeV av H1 H2) : KeV av H H2 := fun b o e q => h' b o (h b o e q) q
theorem KeB.kp {av : List Addr} {a : Addr} {xs : List V} {H H' : Hp} (k : Kp a H H') (m : a ∈ av) (h : H a = some (.lst xs)) : KeB av H H' := fun b o e q => by
  by_cases c : b = a
  · subst c
    rw [h] at e
    cases e
    rcases q with q | q
    · exact absurd m q
    · exact absurd rfl (q _)
  · exact k b o c e
theorem PlAt.keB {CR C : Addr} {H H' : Hp} {p r B aw ah : Addr} {xs : List V} {ts : List Tri} {st ph : Int} {ws : List Bool} {ls av : List Addr} (Y : PlAt CR C H p r B aw ah xs ts st ph ws ls) (n : ∀ b ∈ av, b ≠ aw ∧ b ≠ ah ∧ b ∉ ls) (k : KeB av H H') : PlAt CR C H' p r B aw ah xs ts st ph ws ls := by
  obtain ⟨dx, ob⟩ := Y.ob
  refine ⟨⟨dx, k _ _ ob (.inr fun _ z => nomatch z)⟩, Y.row.nl k.nl, k _ _ Y.hw (.inl fun m => (n _ m).1 rfl), k _ _ Y.hh (.inl fun m => (n _ m).2.1 rfl), Y.ln, fun j l e => ?_, Y.n1, Y.n2, Y.n3⟩
  obtain ⟨ys, h1, h2⟩ := Y.hs j l e
  exact ⟨ys, k _ _ h1 (.inl fun m => (n _ m).2.2 (List.mem_of_getElem? e)), h2.nl k.nl⟩
theorem PlV.keB {CR C : Addr} {H H' : Hp} {p : Addr} {ts : List Tri} {st ph : Int} {ws : List Bool} {av : List Addr} (Y : PlV CR C av H p ts st ph ws) (k : KeB av H H') : PlV CR C av H' p ts st ph ws := by
  obtain ⟨r, B, aw, ah, xs, ls, Y, n⟩ := Y
  exact ⟨r, B, aw, ah, xs, ls, Y.keB n k, n⟩
theorem PlV.same {CR C : Addr} {H H' : Hp} {p : Addr} {ts : List Tri} {st ph : Int} {ws : List Bool} {av : List Addr} (Y : PlV CR C av H p ts st ph ws) (s : Same H H') : PlV CR C av H' p ts st ph ws := Y.keB (.same s)
/-- one list more that is none of its own -/
theorem PlV.more {CR C : Addr} {H H' : Hp} {p a : Addr} {ts : List Tri} {st ph : Int} {ws : List Bool} {av : List Addr} (Y : PlV CR C av H p ts st ph ws) (s : Same H H') (h : H a = none) : PlV CR C (a :: av) H' p ts st ph ws := by
  obtain ⟨r, B, aw, ah, xs, ls, Y, n⟩ := Y
  refine ⟨r, B, aw, ah, xs, ls, Y.keB n (.same s), fun b hb => ?_⟩
  rcases List.mem_cons.mp hb with rfl | hb
  · refine ⟨fun e => ?_, fun e => ?_, fun m => ?_⟩
    · rw [e, Y.hw] at h; cases h
    · rw [e, Y.hh] at h; cases h
    · obtain ⟨j, hj⟩ := List.mem_iff_getElem?.mp m
      obtain ⟨ys, h1, _⟩ := Y.hs j b hj
      rw [h1] at h; cases h
  · exact n b hb
theorem PlV.less {CR C : Addr} {H : Hp} {p : Addr} {ts : List Tri} {st ph : Int} {ws : List Bool} {av aw : List Addr} (Y : PlV CR C av H p ts st ph ws) (h : ∀ b ∈ aw, b ∈ av) : PlV CR C aw H p ts st ph ws := by
  obtain ⟨r, B, a1, ah, xs, ls, Y, n⟩ := Y
  exact ⟨r, B, a1, ah, xs, ls, Y, fun b hb => n b (h b hb)⟩
theorem PlV.ob {CR C : Addr} {H : Hp} {p : Addr} {ts : List Tri} {st ph : Int} {ws : List Bool} {av : List Addr} (Y : PlV CR C av H p ts st ph ws) : ∃ dx r aw ah, H p = some (.ins C dx (plF r aw ah)) := by
  obtain ⟨r, B, a1, ah, xs, ls, Y, n⟩ := Y
  obtain ⟨dx, h⟩ := Y.ob
  exact ⟨dx, r, a1, ah, h⟩
theorem PlV.rowD {CR C : Addr} {H : Hp} {p : Addr} {ts : List Tri} {st ph : Int} {ws : List Bool} {av : List Addr} (Y : PlV CR C av H p ts st ph ws) : ts.length ≤ 12 := by
  obtain ⟨r, B, aw, ah, xs, ls, Y, n⟩ := Y
  exact Y.row.ln
theorem RowAt.kpn {C : Addr} {H H' : Hp} {p r B : Addr} {xs : List V} {ts : List Tri} {st ph : Int} (R : RowAt C H r B xs ts st ph) (k : Kp p H H') (n : r ≠ p) (hp : ∃ D dx fs, H p = some (.ins D dx fs)) : RowAt C H' r B xs ts st ph := by
  obtain ⟨dx, ob⟩ := R.ob
  obtain ⟨D, dy, fs, hp⟩ := hp
  have tp : ∀ b us, H b = some (.tup us) → H' b = some (.tup us) := fun b us e => k _ _ (ne_of e hp (by intro z; cases z)) e
  exact ⟨⟨dx, k _ _ n ob⟩, tp _ _ R.tp, L2.Paired.mapP R.br fun _ _ ⟨a, e, h⟩ => ⟨a, e, tp _ _ h⟩, R.ok, R.ln, R.s0, R.s1, R.p0, R.p1⟩
/-- words as data -/
def wD (up : Bool) : PyData := .str (wS up)
theorem ws_dp {K : PySem.W.Frag} {H : Hp} : ∀ ws : List Bool, DpAll K H (ws.map wV) (ws.map wD)
  | [] => .nil
  | w :: r => .cons (.str _) (ws_dp r)
theorem ws_can : ∀ ws : List Bool, PyData.canLayAll0 (ws.map wD) = true ∧ PyData.depthAll (ws.map wD) ≤ 10
  | [] => ⟨by simp [PyData.canLayAll0], by simp [PyData.depthAll]⟩
  | w :: r => by
    obtain ⟨h1, h2⟩ := ws_can r
    have ok : PyData.strOk (wS w) = true := by cases w <;> decide +kernel
    refine ⟨?_, ?_⟩
    · rw [List.map_cons, PyData.canLayAll0, h1]
      simp [wD, PyData.canLay0, ok]
    · rw [List.map_cons, PyData.depthAll]
      have h3 : (wD w).depth ≤ 10 := by simp [wD, PyData.depth]
      omega
theorem ws_sh (ws : List Bool) : SeqAt.shaped (.list (ws.map wD)) = true := by
  obtain ⟨h1, h2⟩ := ws_can ws
  refine Bool.and_eq_true_iff.mpr ⟨?_, decide_eq_true ?_⟩
  · rw [PyData.canLay0]
    exact h1
  · rw [PyData.depth]
    omega
theorem wS_inj {a b : Bool} : wS a = wS b ↔ a = b := by
  cases a <;> cases b <;> decide +kernel
theorem ws_eqA : ∀ ws vs : List Bool, PyData.eqvAll (ws.map wD) (vs.map wD) = decide (ws = vs)
  | [], [] => by simp [PyData.eqvAll]
  | [], _ :: _ => by simp [PyData.eqvAll]
  | _ :: _, [] => by simp [PyData.eqvAll]
  | a :: ws, b :: vs => by
    rw [List.map_cons, List.map_cons, PyData.eqvAll, ws_eqA ws vs, Bool.eq_iff_iff]
    simp [wD, PyData.eqv, wS_inj]
theorem ws_eq (ws vs : List Bool) : PyData.eqv (.list (ws.map wD)) (.list (vs.map wD)) = decide (ws = vs) := by
  rw [PyData.eqv]
  exact ws_eqA ws vs
theorem Dp.ws {K : PySem.W.Frag} {H : Hp} {a : Addr} {ws : List Bool} (h : H a = some (.lst (ws.map wV))) : Dp K H (.ref a) (.list (ws.map wD)) := .lst (SqL.of h) (ws_dp ws)
theorem word_up (up : Bool) : decide (wV up = V.str "up") = up := by
  cases up with
  | true => exact decide_eq_true rfl
  | false => exact decide_eq_false fun e => up_ne (V.str.inj e)
/-! promises -/
def spIsWord : Sp := fun vs H Q _ => ∃ up, vs = [wV up] ∧ ∀ H', Same H H' → Q (.bl true) H'
def spPInit (CR C : Addr) : Sp := fun vs H Q _ => ∃ p dx r B xs ts st ph, vs = [.ref p, .ref r] ∧ H p = some (.ins C dx []) ∧ RowAt CR H r B xs ts st ph ∧
  ∀ aw ah l H', PlAt CR C H' p r B aw ah xs ts st ph [] [l] → H aw = none → H ah = none → H l = none → Kp p H H' → Q .non H'
def spPBase (CR C : Addr) : Sp := fun vs H Q _ => ∃ p av ts st ph ws, vs = [.ref p] ∧ PlV CR C av H p ts st ph ws ∧ ∀ r B xs, RowAt CR H r B xs ts st ph → Q (.ref r) H
def spPNext (CR C : Addr) : Sp := fun vs H Q _ => ∃ p av ts st ph ws, vs = [.ref p] ∧ PlV CR C av H p ts st ph ws ∧ ws.length ≤ 10000 ∧ Q (.int (ph + (ws.length : Int) * st)) H
def spPReq (K : PySem.W.Frag) (CR C : Addr) : Sp := fun vs H Q _ => ∃ p av ts st ph ws up, vs = [.ref p, wV up] ∧ PlV CR C av H p ts st ph ws ∧ ws.length < 10000 ∧ (∀ b ∈ av, H b ≠ none) ∧
  ∀ x H', TldAt K H' x ts.length (kOf ts (plA ts st ph ws) (ph + (ws.length : Int) * st)) up → PlV CR C av H' p ts st ph (ws ++ [up]) → KeV av H H' → Q x H'
def spPStates (CR C : Addr) : Sp := fun vs H Q _ => ∃ p av ts st ph ws, vs = [.ref p] ∧ PlV CR C av H p ts st ph ws ∧ ∀ l ys H', H' l = some (.lst ys) → Sts H' ys (plA ts st ph ws) → Same H H' → H l = none → Q (.ref l) H'
def spPWhole (CR C : Addr) : Sp := fun vs H Q _ => ∃ p av ts st ph ws, vs = [.ref p] ∧ PlV CR C av H p ts st ph ws ∧ ∀ H', Same H H' → Q (.bl (decide (plA ts st ph ws = List.replicate ts.length (("closed", 0) : StD)))) H'
def spPLog (CR C : Addr) : Sp := fun vs H Q _ => ∃ p av ts st ph ws, vs = [.ref p] ∧ PlV CR C av H p ts st ph ws ∧ ∀ l H', H' l = some (.lst (ws.map wV)) → Same H H' → H l = none → Q (.ref l) H'
theorem playing_made {CR C : Addr} {H : Hp} {Q : Addr → Hp → Prop} {r B : Addr} {xs : List V} {ts : List Tri} {st ph : Int} (R : RowAt CR H r B xs ts st ph) (k : ∀ p H', PlV CR C [] H' p ts st ph [] → (∀ av, (∀ b ∈ av, H b ≠ none) → PlV CR C av H' p ts st ph []) → Same H H' → H p = none → Q p H') :
    ∀ x dx, H x = none → H dx = none → dx ≠ x → spPInit CR C [.ref x, .ref r] (upd (upd H dx (.own x)) x (.ins C dx [])) (fun v H3 => v = .non ∧ Q x H3) E0 := by
  intro x dx hx hd hne
  have s0 : Same H (upd (upd H dx (.own x)) x (.ins C dx [])) := fun b o e => by
    rw [upd_ne (ne_of_none e hx), upd_ne (ne_of_none e hd)]
    exact e
  refine ⟨x, dx, r, B, xs, ts, st, ph, rfl, upd_same, R.nl (NL.of s0), fun aw ah l H' Y nw nh nl kp => ⟨rfl, k x H' ⟨r, B, aw, ah, xs, [l], Y, fun b hb => nomatch hb⟩ (fun av hav => ⟨r, B, aw, ah, xs, [l], Y, fun b hb => ?_⟩) (fun b o e => kp b o (ne_of_none e hx) (s0 b o e)) hx⟩⟩
  refine ⟨fun e => hav b hb ?_, fun e => hav b hb ?_, fun m => hav b hb ?_⟩
  · rw [e]; exact none_of s0 nw
  · rw [e]; exact none_of s0 nh
  · rw [List.mem_singleton.mp m]; exact none_of s0 nl
section
variable {P : Program} {w : World} {K : PySem.W.Frag} {mg : Str → Option Value} {base : Heap} {L : LA}
abbrev N_isword : List Str := ["value"]
theorem sc_isword : FnScope N_isword ["value"] (defScope st_is_word) := ⟨rfl, rfl, rfl, by decide +kernel, rfl, by decide +kernel, by decide +kernel⟩
theorem fn_isword (T : LX K mg L) {fd : FuncData} (F : Fun K "is_word" "is_word" st_is_word L.f_is_word fd) : FnOk P w K mg base CX0 1 L.f_is_word fd ["value"] (spIsWord) := by
  have nd := sc_isword.nd
  refine F.ok sc_isword (fun vs H Q E h => ?_) (fun cdv A outer S H vs Q E hr h => ?_)
  · obtain ⟨up, rfl, _⟩ := h
    rfl
  · obtain ⟨up, rfl, k⟩ := h
    refine ⟨_, (pss_one (ps_ret (pe_and (pe_callB call_isi (by rfl) T.b_isinstance (by decide +kernel) (pa_cons (pv 0) (pa_cons (pe_bltn (by rfl) T.b_str (by decide +kernel : bootBuiltins "str" = some (.type "str")) (v := .ty "str") rfl) pa_nil))) (pe_one (pe_cmpR op_in_seq (pv 0) (pe_tup (pa_cons pe_str (pa_cons pe_str pa_nil))) rfl))))), ?_⟩
    refine ⟨_, rfl, _, .ty "str", _, _, _, rfl, .ty "str", (Kd.str (wS up)).ty, if_pos (beq_self_eq_true _), _, rfl, iteT ⟨_, rfl, (by show 2 ≤ sizeLine; decide), fun p np => ?_⟩⟩
    refine ⟨p, _, rfl, .inr (SqT.of upd_same), rfl, rfl, ?_⟩
    have e : inV (.str (wS up)) [V.str "up", .str "down"] = true := by
      cases up <;> decide +kernel
    show Q (.bl (inV (.str (wS up)) [V.str "up", .str "down"])) _
    rw [e]
    exact k _ (Same.upd np)
theorem ok_isword (T : LX K mg L) : Cal P w K mg base "is_word" 1 L.f_is_word ["value"] (spIsWord) := T.d_is_word.cal fun fd F => fn_isword T F
abbrev N_Playinginit : List Str := ["self", "row"]
theorem sc_Playinginit : FnScope N_Playinginit ["self", "row"] (defScope st_Playing_init) := ⟨rfl, rfl, rfl, by decide +kernel, rfl, by decide +kernel, by decide +kernel⟩
theorem fn_Playinginit (T : LX K mg L) {fd : FuncData} (F : Fun K "__init__" "Playing.__init__" st_Playing_init L.i_Playing fd) : FnOk P w K mg base CX0 4 L.i_Playing fd ["self", "row"] (spPInit L.c_Row L.c_Playing) := by
  have M_Row := T.gc_Row
  have G_closedstates := ok_closedstates (P := P) (w := w) (base := base) T
  have G_Rowlen := ok_Rowlen (P := P) (w := w) (base := base) T
  have nd := sc_Playinginit.nd
  refine F.ok sc_Playinginit (fun vs H Q E h => ?_) (fun cdv A outer S H vs Q E hr h => ?_)
  · obtain ⟨p, dx, r, B, xs, ts, st, ph, rfl, _⟩ := h
    rfl
  · obtain ⟨p, dx, r, B, xs, ts, st, ph, rfl, hp, R, k⟩ := h
    refine ⟨_, (pss_cons (ps_if (pt_not (pt_val (pe_callB call_isi (by rfl) T.b_isinstance (by decide +kernel) (pa_cons (pv 1) (pa_cons (pe_glob rfl M_Row rr) pa_nil))))) (pss_one (ps_never)) pss_nil)
       (pss_cons (ps_fld (pv 0) (pv 1) rfl)
       (pss_cons (ps_fld (pv 0) (pe_lst pa_nil) rfl)
       (pss_one (ps_fld (pv 0) (pe_lst (pa_cons (pe_c G_closedstates (hr.mono (by decide)) rfl (pa_cons (pe_callB (G_Rowlen.c_len (hr.mono (by decide))) (by rfl) T.b_len PySem.boot_len (pa_cons (pv 1) pa_nil)) pa_nil)) pa_nil)) rfl))))), ?_⟩
    obtain ⟨dr, hr'⟩ := R.ob
    have npr : r ≠ p := (ne_of hp hr' (fun z => by
      injection z with _ _ z
      have e := rowF_s B st ph
      rw [← z] at e
      cases e)).symm
    have xl := R.br.len
    have xl12 := R.ln
    have fresh : ∀ {Hx : Hp} {b : Addr}, Kp p H Hx → Hx p ≠ none → Hx b = none → H b = none := fun {Hx b} kx np e => by
      cases q : H b with
      | none => rfl
      | some o =>
        by_cases c : b = p
        · rw [c] at e
          exact absurd e np
        · rw [kx _ _ c q] at e
          cases e
    refine ⟨_, rfl, _, .ref L.c_Row, _, _, _, rfl, .own L.c_Row, T.cf_Row.tyR hr', if_pos (beq_self_eq_true _), _, rfl, iteF ?_⟩
    refine ⟨_, rfl, _, rfl, p, L.c_Playing, dx, [], rfl, hp, T.cf_Playing.cl, T.nf_Playing_row, (by show 0 < 1000; decide), ?_⟩
    obtain ⟨H1, hH1⟩ : ∃ H1 : Hp, H1 = upd H p (.ins L.c_Playing dx (putF "row" (.ref r) [])) := ⟨_, rfl⟩
    rw [← hH1]
    have hp1 : H1 p = some (.ins L.c_Playing dx (putF "row" (.ref r) [])) := by rw [hH1]; exact upd_same
    have k1 : Kp p H H1 := by rw [hH1]; exact Kp.upd
    have R1 := R.kpn k1 npr ⟨_, _, _, hp⟩
    have z1 := putF_len "row" (.ref r) [] (Nat.le_refl 0)
    refine ⟨(by show 0 ≤ sizeLine; decide), fun aw nw => ?_⟩
    have npw : p ≠ aw := ne_of_none hp1 nw
    have hp1' := (Same.upd (o := .lst []) nw) _ _ hp1
    refine ⟨_, rfl, p, L.c_Playing, dx, _, rfl, hp1', T.cf_Playing.cl, T.nf_Playing_words, Nat.lt_of_le_of_lt z1 (by decide), ?_⟩
    obtain ⟨H3, hH3⟩ : ∃ H3 : Hp, H3 = upd (upd H1 aw (.lst [])) p (.ins L.c_Playing dx (putF "words" (.ref aw) (putF "row" (.ref r) []))) := ⟨_, rfl⟩
    rw [← hH3]
    have hp3 : H3 p = some (.ins L.c_Playing dx (putF "words" (.ref aw) (putF "row" (.ref r) []))) := by rw [hH3]; exact upd_same
    have hw3 : H3 aw = some (.lst []) := by rw [hH3, upd_ne npw.symm]; exact upd_same
    have k3 : Kp p (upd H1 aw (.lst [])) H3 := by rw [hH3]; exact Kp.upd
    have R3 := (R1.nl (NL.of (Same.upd (o := .lst []) nw))).kpn k3 npr ⟨_, _, _, hp1'⟩
    have z2 := putF_len "words" (.ref aw) _ z1
    have kA : Kp p H H3 := (k1.trans (Kp.of (Same.upd nw))).trans k3
    obtain ⟨dr3, hr3⟩ := R3.ob
    refine ⟨_, rfl, r, dr3, _, rfl, hr3, r, B, xs, ts, st, ph, rfl, R3, _, rfl, by omega, by omega, xs.length, rfl, by omega, fun l ys H4 hl hy s4 nl => ⟨(by show 1 ≤ sizeLine; decide), fun ah nh => ?_⟩⟩
    rw [xl] at hy
    have s5 := Same.upd (o := .lst [.ref l]) nh
    have hp5 := s5 _ _ (s4 _ _ hp3)
    refine ⟨_, rfl, p, L.c_Playing, dx, _, rfl, hp5, T.cf_Playing.cl, T.nf_Playing_history, Nat.lt_of_le_of_lt z2 (by decide), ?_⟩
    obtain ⟨H6, hH6⟩ : ∃ H6 : Hp, H6 = upd (upd H4 ah (.lst [.ref l])) p (.ins L.c_Playing dx (plF r aw ah)) := ⟨_, rfl⟩
    have hg : upd (upd H4 ah (.lst [.ref l])) p (.ins L.c_Playing dx (putF "history" (.ref ah) (putF "words" (.ref aw) (putF "row" (.ref r) [])))) = H6 := by rw [hH6]; rfl
    rw [hg]
    have k6 : Kp p (upd H4 ah (.lst [.ref l])) H6 := by rw [hH6]; exact Kp.upd
    have hp6 : H6 p = some (.ins L.c_Playing dx (plF r aw ah)) := by rw [hH6]; exact upd_same
    have npl : p ≠ l := ne_of_none hp3 nl
    have nph : p ≠ ah := ne_of_none (s4 _ _ hp3) nh
    have nwl : aw ≠ l := ne_of_none hw3 nl
    have nwh : aw ≠ ah := ne_of_none (s4 _ _ hw3) nh
    have nlh : l ≠ ah := ne_of_none hl nh
    have up6 : ∀ b o, b ≠ p → H4 b = some o → H6 b = some o := fun b o n e => k6 _ _ n (s5 _ _ e)
    have sts6 : Sts H6 ys (List.replicate ts.length ("closed", 0)) := L2.Paired.mapP hy fun _ _ ⟨a, e, h⟩ => ⟨a, e, up6 _ _ (ne_of h (s4 _ _ hp3) (by intro z; cases z)) h⟩
    refine k aw ah l H6 ⟨⟨dx, hp6⟩, ((R3.nl (NL.of s4)).nl (NL.of s5)).kpn k6 npr ⟨_, _, _, hp5⟩, up6 _ _ npw.symm (s4 _ _ hw3), k6 _ _ nph.symm upd_same, rfl, fun j b e => ?_, nwh, by simpa using nwl, by simpa using nlh.symm⟩
      (fresh k1 (by rw [hp1]; exact fun z => nomatch z) nw) (fresh (kA.trans (Kp.of s4)) (by rw [s4 _ _ hp3]; exact fun z => nomatch z) nh) (fresh kA (by rw [hp3]; exact fun z => nomatch z) nl) ((kA.trans (Kp.of (s4.trans s5))).trans k6)
    cases j with
    | zero =>
      cases e
      exact ⟨ys, up6 _ _ npl.symm hl, sts6⟩
    | succ j => cases e
abbrev N_Playingnextrequest : List Str := ["self"]
theorem sc_Playingnextrequest : FnScope N_Playingnextrequest ["self"] (defScope st_Playing_next_request) := ⟨rfl, rfl, rfl, by decide +kernel, rfl, by decide +kernel, by decide +kernel⟩
theorem fn_Playingnextrequest (T : LX K mg L) {fd : FuncData} (F : Fun K "next_request" "Playing.next_request" st_Playing_next_request L.m_Playing_next_request fd) : FnOk P w K mg base CX0 4 L.m_Playing_next_request fd ["self"] (spPNext L.c_Row L.c_Playing) := by
  have G_requesttime := ok_requesttime (P := P) (w := w) (base := base) T
  have nd := sc_Playingnextrequest.nd
  refine F.ok sc_Playingnextrequest (fun vs H Q E h => ?_) (fun cdv A outer S H vs Q E hr h => ?_)
  · obtain ⟨p, av, ts, st, ph, ws, rfl, _⟩ := h
    rfl
  · obtain ⟨p, av, ts, st, ph, ws, rfl, ⟨r, B, aw, ah, xs, ls, Y, n⟩, wl, k⟩ := h
    refine ⟨_, (pss_one (ps_ret (pe_c G_requesttime (hr.mono (by decide)) rfl (pa_cons (pe_fld (pv 0) rfl) (pa_cons (pe_callB call_len_seq (by rfl) T.b_len PySem.boot_len (pa_cons (pe_fld (pv 0) rfl) pa_nil)) pa_nil))))), ?_⟩
    obtain ⟨dx, hp⟩ := Y.ob
    have wb : ((ws.length : Nat) : Int) ≤ BB := Int.le_trans (show ((ws.length : Nat) : Int) ≤ 10000 by omega) (Int.le_trans (PB_of (n := 20) (by decide +kernel)) (PB_le (by decide)))
    refine ⟨_, rfl, p, L.c_Playing, dx, _, _, rfl, hp, T.cf_Playing.cl, T.nf_Playing_row, plF_r _ _ _, _, rfl, p, L.c_Playing, dx, _, _, rfl, hp, T.cf_Playing.cl, T.nf_Playing_words, plF_w _ _ _, aw, _, rfl, .inl (SqL.of Y.hw), r, B, xs, ts, st, ph, ((ws.map wV).length : Nat), rfl, Y.row, by omega, by rw [List.length_map]; exact wb, ?_⟩
    rw [List.length_map]
    exact k
theorem ok_Playingnextrequest (T : LX K mg L) : Met P w K mg base L.c_Playing "next_request" 4 L.m_Playing_next_request ["self"] (spPNext L.c_Row L.c_Playing) := T.mm_Playing_next_request.met fun fd F => fn_Playingnextrequest T F
abbrev N_Playingstatelist : List Str := ["self"]
theorem sc_Playingstatelist : FnScope N_Playingstatelist ["self"] (defScope st_Playing_state_list) := ⟨rfl, rfl, rfl, by decide +kernel, rfl, by decide +kernel, by decide +kernel⟩
theorem fn_Playingstatelist (T : LX K mg L) {fd : FuncData} (F : Fun K "state_list" "Playing.state_list" st_Playing_state_list L.m_Playing_state_list fd) : FnOk P w K mg base CX0 1 L.m_Playing_state_list fd ["self"] (spPStates L.c_Row L.c_Playing) := by
  have nd := sc_Playingstatelist.nd
  refine F.ok sc_Playingstatelist (fun vs H Q E h => ?_) (fun cdv A outer S H vs Q E hr h => ?_)
  · obtain ⟨p, av, ts, st, ph, ws, rfl, _⟩ := h
    rfl
  · obtain ⟨p, av, ts, st, ph, ws, rfl, ⟨r, B, aw, ah, xs, ls, Y, n⟩, k⟩ := h
    refine ⟨_, (pss_one (ps_ret (pe_callTy call_list_of (by rfl) T.b_list (by decide +kernel) (pa_cons (pe_ix (r := rIxL K) ix_list (pe_fld (pv 0) rfl) (pe_un un_neg pe_int) (fun _ _ => rfl)) pa_nil)))), ?_⟩
    obtain ⟨dx, hp⟩ := Y.ob
    obtain ⟨ini, l0, hl0⟩ : ∃ ini l0, ls = ini ++ [l0] := ⟨_, _, (List.dropLast_concat_getLast (by intro e; have := Y.ln; rw [e] at this; cases this)).symm⟩
    have e0 : ls[ws.length]? = some l0 := by
      have := Y.ln
      rw [hl0, List.length_append] at this
      have e : ini.length = ws.length := by have h : ini.length + 1 = ws.length + 1 := this; omega
      rw [hl0, ← e, List.getElem?_append_right (Nat.le_refl _), Nat.sub_self]
      rfl
    obtain ⟨ys, h1, h2⟩ := Y.hs _ _ e0
    rw [List.take_length] at h2
    have hh := Y.hh
    rw [hl0, List.map_append] at hh
    refine ⟨_, rfl, p, L.c_Playing, dx, _, _, rfl, hp, T.cf_Playing.cl, T.nf_Playing_history, plF_h _ _ _, 1, rfl, ah, _, -1, .ref l0, rfl, rfl, SqL.of hh, atI_last _ _, l0, ys, rfl, .inl (SqL.of h1), fun l nl => ?_⟩
    exact k l ys _ upd_same (h2.same (Same.upd nl)) (Same.upd nl) nl
theorem ok_Playingstatelist (T : LX K mg L) : Met P w K mg base L.c_Playing "state_list" 1 L.m_Playing_state_list ["self"] (spPStates L.c_Row L.c_Playing) := T.mm_Playing_state_list.met fun fd F => fn_Playingstatelist T F
abbrev N_Playinglog : List Str := ["self"]
theorem sc_Playinglog : FnScope N_Playinglog ["self"] (defScope st_Playing_log) := ⟨rfl, rfl, rfl, by decide +kernel, rfl, by decide +kernel, by decide +kernel⟩
theorem fn_Playinglog (T : LX K mg L) {fd : FuncData} (F : Fun K "log" "Playing.log" st_Playing_log L.m_Playing_log fd) : FnOk P w K mg base CX0 1 L.m_Playing_log fd ["self"] (spPLog L.c_Row L.c_Playing) := by
  have nd := sc_Playinglog.nd
  refine F.ok sc_Playinglog (fun vs H Q E h => ?_) (fun cdv A outer S H vs Q E hr h => ?_)
  · obtain ⟨p, av, ts, st, ph, ws, rfl, _⟩ := h
    rfl
  · obtain ⟨p, av, ts, st, ph, ws, rfl, ⟨r, B, aw, ah, xs, ls, Y, n⟩, k⟩ := h
    refine ⟨_, (pss_one (ps_ret (pe_callTy call_list_of (by rfl) T.b_list (by decide +kernel) (pa_cons (pe_fld (pv 0) rfl) pa_nil)))), ?_⟩
    obtain ⟨dx, hp⟩ := Y.ob
    exact ⟨_, rfl, p, L.c_Playing, dx, _, _, rfl, hp, T.cf_Playing.cl, T.nf_Playing_words, plF_w _ _ _, aw, _, rfl, .inl (SqL.of Y.hw), fun l nl => k l _ upd_same (Same.upd nl) nl⟩
theorem ok_Playinglog (T : LX K mg L) : Met P w K mg base L.c_Playing "log" 1 L.m_Playing_log ["self"] (spPLog L.c_Row L.c_Playing) := T.mm_Playing_log.met fun fd F => fn_Playinglog T F
abbrev N_Playingrequest : List Str := ["self", "word", "told", "states"]
theorem sc_Playingrequest : FnScope N_Playingrequest ["self", "word"] (defScope st_Playing_request) := ⟨rfl, rfl, rfl, by decide +kernel, rfl, by decide +kernel, by decide +kernel⟩
theorem fn_Playingrequest (T : LX K mg L) {fd : FuncData} (F : Fun K "request" "Playing.request" st_Playing_request L.m_Playing_request fd) : FnOk P w K mg base CX0 6 L.m_Playing_request fd ["self", "word"] (spPReq K L.c_Row L.c_Playing) := by
  obtain ⟨tk_MOST_REQUESTS, c_MOST_REQUESTS⟩ := T.n_MOST_REQUESTS
  have G_sent := ok_sent (P := P) (w := w) (base := base) T
  have G_Playingnextrequest := ok_Playingnextrequest (P := P) (w := w) (base := base) T
  have G_isword := ok_isword (P := P) (w := w) (base := base) T
  have nd := sc_Playingrequest.nd
  refine F.ok sc_Playingrequest (fun vs H Q E h => ?_) (fun cdv A outer S H vs Q E hr h => ?_)
  · obtain ⟨p, av, ts, st, ph, ws, up, rfl, _⟩ := h
    rfl
  · obtain ⟨p, av, ts, st, ph, ws, up, rfl, PY, wl, na, k⟩ := h
    refine ⟨_, (pss_cons (ps_if (pt_not (pt_val (pe_c G_isword (hr.mono (by decide)) rfl (pa_cons (pv 1) pa_nil)))) (pss_one (ps_never)) pss_nil)
       (pss_cons (ps_if (pt_cmpR op_ge (pe_callB call_len_seq (by rfl) T.b_len PySem.boot_len (pa_cons (pe_fld (pv 0) rfl) pa_nil)) (pe_gI c_MOST_REQUESTS) (nomark _)) (pss_one (ps_never)) pss_nil)
       (pss_cons (ps_asg (pe_c G_sent (hr.mono (by decide)) rfl (pa_cons (pe_fld (pe_fld (pv 0) rfl) rfl) (pa_cons (pe_ix (r := rIxL K) ix_list (pe_fld (pv 0) rfl) (pe_un un_neg pe_int) (fun _ _ => rfl)) (pa_cons (G_Playingnextrequest.p_m0 T.cf_Playing.cl (hr.mono (by decide)) (pv 0)) (pa_cons (pe_cmpR op_eq (pv 1) pe_str (nomark _)) pa_nil))))) (pg_tup rfl (pgs_cons (pg_name (i := 2) nd rfl (Or.inl rfl)) (pgs_cons (pg_name (i := 3) nd rfl (Or.inl rfl)) pgs_nil))))
       (pss_cons (ps_expr (pe_bm PySem.F.plainAttrs_list PySem.F.slot_list_append PySem.F.type_list_append mt_append (pe_fld (pv 0) rfl) (pa_cons (pv 1) pa_nil)))
       (pss_cons (ps_expr (pe_bm PySem.F.plainAttrs_list PySem.F.slot_list_append PySem.F.type_list_append mt_append (pe_fld (pv 0) rfl) (pa_cons (pv 3) pa_nil)))
       (pss_one (ps_ret (pv 2)))))))), ?_⟩
    have PY0 := PY
    obtain ⟨r, B, aw, ah, xs, ls, Y, n⟩ := PY
    obtain ⟨dx, hp⟩ := Y.ob
    obtain ⟨dr, hr'⟩ := Y.row.ob
    obtain ⟨al, aok⟩ := plA_ok ts st ph ws
    refine ⟨_, rfl, up, rfl, fun H1 s1 => ⟨_, rfl, iteF ?_⟩⟩
    have Y1 := Y.keB n (.same s1)
    refine ⟨_, rfl, p, L.c_Playing, dx, _, _, rfl, s1 _ _ hp, T.cf_Playing.cl, T.nf_Playing_words, plF_w _ _ _, aw, _, rfl, .inl (SqL.of Y1.hw), _, _, rfl, rfl, _, rfl, ite2 (fun c => ?_) (fun _ => ?_)⟩
    · have c' := of_decide_eq_true c
      rw [List.length_map] at c'
      omega
    obtain ⟨ini, l0, hl0⟩ : ∃ ini l0, ls = ini ++ [l0] := ⟨_, _, (List.dropLast_concat_getLast (by intro e; have := Y.ln; rw [e] at this; cases this)).symm⟩
    have il : ini.length = ws.length := by
      have := Y.ln
      rw [hl0, List.length_append] at this
      have h : ini.length + 1 = ws.length + 1 := this
      omega
    have e0 : ls[ws.length]? = some l0 := by
      rw [hl0, ← il, List.getElem?_append_right (Nat.le_refl _), Nat.sub_self]
      rfl
    obtain ⟨ys, h1, h2⟩ := Y1.hs _ _ e0
    rw [List.take_length] at h2
    have hh := Y1.hh
    rw [hl0, List.map_append] at hh
    refine ⟨_, rfl, p, L.c_Playing, dx, _, _, rfl, s1 _ _ hp, T.cf_Playing.cl, T.nf_Playing_row, plF_r _ _ _, r, L.c_Row, dr, _, _, rfl, s1 _ _ hr', T.cf_Row.cl, T.nf_Row_breakers, rowF_b _ _ _, ?_⟩
    refine ⟨_, rfl, p, L.c_Playing, dx, _, _, rfl, s1 _ _ hp, T.cf_Playing.cl, T.nf_Playing_history, plF_h _ _ _, 1, rfl, ah, _, -1, .ref l0, rfl, rfl, SqL.of hh, atI_last _ _, ?_⟩
    refine ⟨_, rfl, p, dx, _, rfl, s1 _ _ hp, plF_no _ _ _ (by decide +kernel) (by decide +kernel) (by decide +kernel), p, av, ts, st, ph, ws, rfl, PY0.same s1, Nat.le_of_lt wl, ?_⟩
    have eu : decide (wV up = V.str "up") = up := by
      cases up with
      | true => exact decide_eq_true rfl
      | false => exact decide_eq_false fun e => up_ne (V.str.inj e)
    refine ⟨_, rfl, rfl, B, l0, xs, ys, ts, plA ts st ph ws, _, _, rfl, SqT.of Y1.row.tp, Y1.row.br, h1, h2, al, by have := Y.row.ln; omega, aok, fun q x l2 ys2 H2 hq tx hl2 hs2 s2 nq nl2 => ?_⟩
    rw [eu] at tx hs2
    refine ⟨q, _, rfl, SqT.of hq, rfl, _, _, rfl, _, _, rfl, rfl, ?_⟩
    have s12 := s1.trans s2
    have Y2 := Y.keB n (.same s12)
    refine ⟨_, rfl, p, L.c_Playing, dx, _, _, rfl, s12 _ _ hp, T.cf_Playing.cl, T.nf_Playing_words, plF_w _ _ _, .inl ⟨rfl, _, SqL.of Y2.hw⟩, _, rfl, aw, _, _, rfl, rfl, Y2.hw, small1 (by rw [List.length_map]; omega), ?_⟩
    obtain ⟨H3, hH3⟩ : ∃ H3 : Hp, H3 = upd H2 aw (.lst (ws.map wV ++ [wV up])) := ⟨_, rfl⟩
    rw [← hH3]
    have k3 : Kp aw H2 H3 := by rw [hH3]; exact Kp.upd
    have n3 : NL H2 H3 := Kp.nl k3 Y2.hw
    have hw3 : H3 aw = some (.lst ((ws ++ [up]).map wV)) := by rw [hH3, upd_same, List.map_append]; rfl
    have hh3 : H3 ah = some (.lst (ls.map V.ref)) := k3 _ _ Y.n1.symm Y2.hh
    have hp3 : H3 p = some (.ins L.c_Playing dx (plF r aw ah)) := n3 _ _ (s12 _ _ hp) fun _ z => nomatch z
    refine ⟨_, rfl, p, L.c_Playing, dx, _, _, rfl, hp3, T.cf_Playing.cl, T.nf_Playing_history, plF_h _ _ _, .inl ⟨rfl, _, SqL.of hh3⟩, _, rfl, ah, _, _, rfl, rfl, hh3, small1 (by rw [List.length_map, Y.ln]; omega), ?_⟩
    obtain ⟨H4, hH4⟩ : ∃ H4 : Hp, H4 = upd H3 ah (.lst (ls.map V.ref ++ [.ref l2])) := ⟨_, rfl⟩
    rw [← hH4]
    have k4 : Kp ah H3 H4 := by rw [hH4]; exact Kp.upd
    have n4 : NL H3 H4 := Kp.nl k4 hh3
    have nl2w : l2 ≠ aw := (ne_of_none Y1.hw nl2).symm
    have nl2h : l2 ≠ ah := (ne_of_none Y1.hh nl2).symm
    have n34 := n3.trans n4
    have keep : ∀ b o, b ≠ aw → b ≠ ah → H2 b = some o → H4 b = some o := fun b o x1 x2 e => k4 _ _ x2 (k3 _ _ x1 e)
    refine ⟨_, rfl, k x H4 ?_ ⟨r, B, aw, ah, xs, ls ++ [l2], ⟨⟨dx, n4 _ _ hp3 fun _ z => nomatch z⟩, Y2.row.nl n34, k4 _ _ Y.n1 hw3, by rw [hH4, upd_same, List.map_append]; rfl, by rw [List.length_append, List.length_append, Y.ln]; rfl, fun j l e => ?_, Y.n1, ?_, ?_⟩, fun b hb => ?_⟩ fun b o e q => ?_⟩
    · obtain ⟨a, e, hq⟩ := tx
      refine ⟨a, e, ?_⟩
      rcases hq with hq | hq
      · rcases hq with hq | hq
        · exact SqT.of (n34 _ _ hq fun _ z => nomatch z)
        · exact .inl (.inr (by obtain ⟨u, hq⟩ := hq; exact ⟨u, n34 _ _ hq fun _ z => nomatch z⟩))
      · exact .inr hq
    · by_cases c : j < ls.length
      · rw [List.getElem?_append_left c] at e
        obtain ⟨zs, f1, f2⟩ := Y2.hs j l e
        have lm := List.mem_of_getElem? e
        refine ⟨zs, keep _ _ (fun z => Y.n2 (z ▸ lm)) (fun z => Y.n3 (z ▸ lm)) f1, ?_⟩
        rw [List.take_append_of_le_length (by have := Y.ln; omega)]
        exact f2.nl n34
      · have jl : j = ls.length := by
          have := (List.getElem?_eq_some_iff.mp e).1
          rw [List.length_append] at this
          have h : j < ls.length + 1 := this
          omega
        subst jl
        rw [List.getElem?_append_right (Nat.le_refl _), Nat.sub_self] at e
        cases e
        refine ⟨ys2, keep _ _ nl2w nl2h hl2, ?_⟩
        rw [List.take_of_length_le (by rw [List.length_append, Y.ln]; exact Nat.le_refl _), plA_app]
        exact hs2.nl n34
    · rw [List.mem_append, not_or]
      exact ⟨Y.n2, by simpa using nl2w.symm⟩
    · rw [List.mem_append, not_or]
      exact ⟨Y.n3, by simpa using nl2h.symm⟩
    · obtain ⟨m1, m2, m3⟩ := n b hb
      refine ⟨m1, m2, ?_⟩
      rw [List.mem_append, not_or]
      exact ⟨m3, by rw [List.mem_singleton]; exact fun z => na b hb (z ▸ none_of s1 nl2)⟩
    · have m1 : b ≠ aw := fun z => by
        subst z
        rcases q with q | q
        · exact (n _ q).1 rfl
        · rw [Y.hw] at e; cases e; exact q _ rfl
      have m2 : b ≠ ah := fun z => by
        subst z
        rcases q with q | q
        · exact (n _ q).2.1 rfl
        · rw [Y.hh] at e; cases e; exact q _ rfl
      exact keep _ _ m1 m2 (s12 _ _ e)
theorem ok_Playingrequest (T : LX K mg L) : Met P w K mg base L.c_Playing "request" 6 L.m_Playing_request ["self", "word"] (spPReq K L.c_Row L.c_Playing) := T.mm_Playing_request.met fun fd F => fn_Playingrequest T F
end
section
variable {X : Cx} {L : LA}
/-- Playing(..) -/
theorem pe_mkPlaying (T : LX X.K X.mg L) (hr : Room 5 X.A) {p pos : Pos} {e : Expr} {es : List Expr} {t : TA} (hg : Gl X "Playing") (ha : PA X (e :: es) t)
    (he : starEach (e :: es) X.env = (false, eval e X.env) :: starEach es X.env := by rfl) (hpl : (backTo pos (starEach es X.env)).any (·.1) = false := by rfl) : PE X (.Call (.Name "Playing" p) (e :: es) [] pos) (tMake L.c_Playing (spPInit L.c_Row L.c_Playing) [] E0 t) := by
  obtain ⟨fd, F, b⟩ := T.in_Playing
  exact pe_make T.mk_Playing (fn_Playinginit T F) hr hg T.gc_Playing b .nil pass0 ha (by decide) he hpl
end
/-! ### requests taken back -/
theorem cut_to {xs : List V} {k : Nat} (h : k ≤ xs.length) : cutV xs none (some (k : Int)) = xs.take k := by
  have h1 : HT.sIx xs.length 0 none = 0 := rfl
  have h2 : HT.sIx xs.length xs.length (some (k : Int)) = k := by
    rw [HT.sIx_nat]
    exact Nat.min_eq_left h
  unfold cutV
  rw [h1, h2, List.drop_zero, Nat.sub_zero]
theorem q1' : ¬ (("words" : Str) = "row") := by decide +kernel
theorem q2' : ¬ (("history" : Str) = "row") := by decide +kernel
theorem q3' : ¬ (("history" : Str) = "words") := by decide +kernel
theorem plF_set_w (r aw ah w2 : Addr) : putF "words" (.ref w2) (plF r aw ah) = plF r w2 ah := by
  unfold plF
  simp [putF, q1, q2, q3, q1', q2', q3']
theorem plF_set_h (r aw ah h2 : Addr) : putF "history" (.ref h2) (plF r aw ah) = plF r aw h2 := by
  unfold plF
  simp [putF, q1, q2, q3, q1', q2', q3']
theorem plF_len (r aw ah : Addr) : (plF r aw ah).length = 3 := by
  unfold plF
  simp [putF, q1, q2, q3, q1', q2', q3']
theorem Sts.tp {H H' : Hp} {xs : List V} {ss : List StD} (h : Sts H xs ss) (k : ∀ b us, H b = some (.tup us) → H' b = some (.tup us)) : Sts H' xs ss := L2.Paired.mapP h fun _ _ ⟨a, e, z⟩ => ⟨a, e, k _ _ z⟩
theorem plF_row {r aw ah T : Addr} {st ph : Int} : plF r aw ah ≠ rowF T st ph := fun e => by
  have a := plF_w r aw ah
  rw [e, rowF_no _ _ _ (by decide +kernel) (by decide +kernel) (by decide +kernel)] at a
  cases a
def spPUndo (CR C : Addr) : Sp := fun vs H Q _ => ∃ p av ts st ph ws, ∃ c : Nat, vs = [.ref p, .int c] ∧ PlV CR C av H p ts st ph ws ∧ c ≤ ws.length ∧ ws.length ≤ 10000 ∧ (∀ b ∈ av, H b ≠ none) ∧ ∀ H', PlV CR C av H' p ts st ph (ws.take (ws.length - c)) → Kp p H H' → Q .non H'
def spPEq (CR C : Addr) : Sp := fun vs H Q _ => ∃ p q av bv ts st ph ws vs', vs = [.ref p, .ref q] ∧ PlV CR C av H p ts st ph ws ∧ PlV CR C bv H q ts st ph vs' ∧ Q (.bl (decide (ws = vs'))) H
section
variable {P : Program} {w : World} {K : PySem.W.Frag} {mg : Str → Option Value} {base : Heap} {L : LA}
abbrev N_Playingundo : List Str := ["self", "count", "left"]
theorem sc_Playingundo : FnScope N_Playingundo ["self", "count"] (defScope st_Playing_undo) := ⟨rfl, rfl, rfl, by decide +kernel, rfl, by decide +kernel, by decide +kernel⟩
theorem fn_Playingundo (T : LX K mg L) {fd : FuncData} (F : Fun K "undo" "Playing.undo" st_Playing_undo L.m_Playing_undo fd) : FnOk P w K mg base CX0 3 L.m_Playing_undo fd ["self", "count"] (spPUndo L.c_Row L.c_Playing) := by
  have G_iswithin := ok_iswithin (P := P) (w := w) (base := base) T
  have nd := sc_Playingundo.nd
  refine F.ok sc_Playingundo (fun vs H Q E h => ?_) (fun cdv A outer S H vs Q E hr h => ?_)
  · obtain ⟨p, av, ts, st, ph, ws, c, rfl, _⟩ := h
    rfl
  · obtain ⟨p, av, ts, st, ph, ws, c, rfl, ⟨r, B, aw, ah, xs, ls, Y, n⟩, cl, wl, na, k⟩ := h
    refine ⟨_, (pss_cons (ps_if (pt_not (pt_val (pe_c G_iswithin (hr.mono (by decide)) rfl (pa_cons (pv 1) (pa_cons pe_int (pa_cons (pe_callB call_len_seq (by rfl) T.b_len PySem.boot_len (pa_cons (pe_fld (pv 0) rfl) pa_nil)) pa_nil)))))) (pss_one (ps_never)) pss_nil)
       (pss_cons (ps_set (i := 2) nd rfl (Or.inl rfl) (pe_op op_sub (pe_callB call_len_seq (by rfl) T.b_len PySem.boot_len (pa_cons (pe_fld (pv 0) rfl) pa_nil)) (pv 1)))
       (pss_cons (ps_fld (pv 0) (pe_slice (r := rSlL K) sl_list (pe_fld (pv 0) rfl) po_none (po_some (pv 2))) rfl)
       (pss_one (ps_fld (pv 0) (pe_slice (r := rSlL K) sl_list (pe_fld (pv 0) rfl) po_none (po_some (pe_op op_add (pv 2) pe_int))) rfl))))), ?_⟩
    obtain ⟨dx, hp⟩ := Y.ob
    obtain ⟨m, hm⟩ : ∃ m : Nat, m = ws.length - c := ⟨_, rfl⟩
    have lln := Y.ln
    refine ⟨_, rfl, _, rfl, p, L.c_Playing, dx, _, _, rfl, hp, T.cf_Playing.cl, T.nf_Playing_words, plF_w _ _ _, aw, _, rfl, .inl (SqL.of Y.hw), _, _, _, _, rfl, .int _, _, rfl, ?_⟩
    rw [List.length_map]
    show if (!(decide ((0 : Int) ≤ (c : Int)) && decide ((c : Int) ≤ (ws.length : Int)))) = true then _ else _
    rw [k6_pos (by omega) (by omega)]
    refine iteF ⟨_, rfl, p, L.c_Playing, dx, _, _, rfl, hp, T.cf_Playing.cl, T.nf_Playing_words, plF_w _ _ _, aw, _, rfl, .inl (SqL.of Y.hw), _, rfl, _, _, rfl, rfl, ?_⟩
    rw [List.length_map]
    show gName 2 (.int ((ws.length : Int) - (c : Int))) _ _ _
    rw [show (ws.length : Int) - (c : Int) = (m : Int) by omega]
    refine ⟨_, rfl, p, L.c_Playing, dx, _, _, rfl, hp, T.cf_Playing.cl, T.nf_Playing_words, plF_w _ _ _, _, rfl, (m : Int), rfl, aw, _, rfl, SqL.of Y.hw, fun l1 hl1 => ?_⟩
    rw [cut_to (by rw [List.length_map]; omega), ← List.map_take]
    have s1 := Same.upd (o := .lst ((ws.take m).map wV)) hl1
    obtain ⟨H1, hH1⟩ : ∃ Hx : Hp, Hx = upd H l1 (.lst ((ws.take m).map wV)) := ⟨_, rfl⟩
    rw [← hH1] at s1
    rw [← hH1]
    have hl11 : H1 l1 = some (.lst ((ws.take m).map wV)) := by rw [hH1]; exact upd_same
    refine ⟨_, rfl, p, L.c_Playing, dx, _, rfl, s1 _ _ hp, T.cf_Playing.cl, T.nf_Playing_words, (by rw [plF_len]; decide), ?_⟩
    rw [plF_set_w]
    obtain ⟨H2, hH2⟩ : ∃ Hx : Hp, Hx = upd H1 p (.ins L.c_Playing dx (plF r l1 ah)) := ⟨_, rfl⟩
    rw [← hH2]
    have hp2 : H2 p = some (.ins L.c_Playing dx (plF r l1 ah)) := by rw [hH2]; exact upd_same
    have k2 : Kp p H1 H2 := by rw [hH2]; exact Kp.upd
    have npl : ∀ b xs, H b = some (.lst xs) → b ≠ p := fun b xs e q => by rw [q, hp] at e; cases e
    have hh2 : H2 ah = some (.lst (ls.map V.ref)) := k2 _ _ (npl _ _ Y.hh) (s1 _ _ Y.hh)
    refine ⟨_, rfl, p, L.c_Playing, dx, _, _, rfl, hp2, T.cf_Playing.cl, T.nf_Playing_history, plF_h _ _ _, _, rfl, _, _, rfl, rfl, _, rfl, ah, _, rfl, SqL.of hh2, fun l2 hl2 => ?_⟩
    have ec : cutV (ls.map V.ref) none (some ((m : Int) + 1)) = (ls.take (m + 1)).map V.ref := by
      rw [show (m : Int) + 1 = ((m + 1 : Nat) : Int) by omega, cut_to (by rw [List.length_map]; omega), List.map_take]
    have s3 := Same.upd (o := .lst ((ls.take (m + 1)).map V.ref)) hl2
    obtain ⟨H3, hH3⟩ : ∃ Hx : Hp, Hx = upd H2 l2 (.lst ((ls.take (m + 1)).map V.ref)) := ⟨_, rfl⟩
    have eH : upd H2 l2 (.lst (cutV (ls.map V.ref) none (some ((m : Int) + 1)))) = H3 := by rw [ec, hH3]
    have hl23 : H3 l2 = some (.lst ((ls.take (m + 1)).map V.ref)) := by rw [hH3]; exact upd_same
    rw [← hH3] at s3
    have hp3 := s3 _ _ hp2
    refine ⟨_, rfl, p, L.c_Playing, dx, plF r l1 ah, rfl, (by rw [← hp3, ← eH]), T.cf_Playing.cl, T.nf_Playing_history, (by rw [plF_len]; decide), ?_⟩
    have e4 : ∀ Hx : Hp, Hx = H3 → upd Hx p (.ins L.c_Playing dx (putF "history" (.ref l2) (plF r l1 ah))) = upd H3 p (.ins L.c_Playing dx (plF r l1 l2)) := fun Hx e => by rw [e, plF_set_h]
    show Q .non (upd (upd H2 l2 (.lst (cutV (ls.map V.ref) none (some ((m : Int) + 1))))) p (.ins L.c_Playing dx (putF "history" (.ref l2) (plF r l1 ah))))
    rw [e4 _ eH]
    obtain ⟨H4, hH4⟩ : ∃ Hx : Hp, Hx = upd H3 p (.ins L.c_Playing dx (plF r l1 l2)) := ⟨_, rfl⟩
    rw [← hH4]
    have k4 : Kp p H3 H4 := by rw [hH4]; exact Kp.upd
    have kA : Kp p H H4 := (((Kp.of s1).trans k2).trans (Kp.of s3)).trans k4
    have tpk : ∀ b us, H b = some (.tup us) → H4 b = some (.tup us) := fun b us e => kA _ _ (fun q => by rw [q, hp] at e; cases e) e
    have l1p : l1 ≠ p := fun q => by rw [q, hp] at hl1; cases hl1
    have hl12 := k2 _ _ l1p hl11
    have l12 : l1 ≠ l2 := ne_of_none hl12 hl2
    have l2p : l2 ≠ p := fun q => by rw [q, hp2] at hl2; cases hl2
    have old : ∀ b, H b ≠ none → b ≠ l1 ∧ b ≠ l2 := fun b hb => by
      refine ⟨fun q => hb (by rw [q]; exact hl1), fun q => ?_⟩
      rw [← q] at hl2
      cases e : H b with
      | none => exact hb e
      | some o =>
        by_cases c : b = p
        · rw [c, hp2] at hl2; cases hl2
        · rw [k2 _ _ c (s1 _ _ e)] at hl2
          cases hl2
    have lsn : ∀ l ∈ ls, H l ≠ none := fun l hl => by
      obtain ⟨j, hj⟩ := List.mem_iff_getElem?.mp hl
      obtain ⟨ys, h1, _⟩ := Y.hs j l hj
      rw [h1]
      exact fun z => nomatch z
    have rp : r ≠ p := fun q => by
      obtain ⟨dr, hr⟩ := Y.row.ob
      rw [q, hp] at hr
      have := HO.ins.inj (Option.some.inj hr)
      exact plF_row this.2.2
    refine k H4 ⟨r, B, l1, l2, xs, ls.take (m + 1), ⟨⟨dx, by rw [hH4]; exact upd_same⟩, Y.row.kpn kA rp ⟨_, _, _, hp⟩, ?_, k4 _ _ l2p hl23, ?_, fun j l hj => ?_, l12, fun q => ?_, fun q => ?_⟩, fun b hb => ?_⟩ kA
    · rw [← hm]
      exact k4 _ _ l1p (s3 _ _ hl12)
    · rw [List.length_take, List.length_take]
      omega
    · have jm : j < m + 1 := by
        have := (List.getElem?_eq_some_iff.mp hj).1
        rw [List.length_take] at this
        omega
      rw [List.getElem?_take_of_lt jm] at hj
      obtain ⟨ys, h1, h2⟩ := Y.hs j l hj
      refine ⟨ys, kA _ _ (npl _ _ h1) h1, ?_⟩
      rw [List.take_take, ← hm, Nat.min_eq_left (by omega)]
      exact h2.tp tpk
    · exact (old _ (lsn _ (List.mem_of_mem_take q))).1 rfl
    · exact (old _ (lsn _ (List.mem_of_mem_take q))).2 rfl
    · have o := old b (na b hb)
      exact ⟨o.1, o.2, fun q => (n b hb).2.2 (List.mem_of_mem_take q)⟩
theorem ok_Playingundo (T : LX K mg L) : Met P w K mg base L.c_Playing "undo" 3 L.m_Playing_undo ["self", "count"] (spPUndo L.c_Row L.c_Playing) := T.mm_Playing_undo.met fun fd F => fn_Playingundo T F
abbrev N_Playingeq : List Str := ["self", "other"]
theorem sc_Playingeq : FnScope N_Playingeq ["self", "other"] (defScope st_Playing_eq) := ⟨rfl, rfl, rfl, by decide +kernel, rfl, by decide +kernel, by decide +kernel⟩
theorem fn_Playingeq (T : LX K mg L) {fd : FuncData} (F : Fun K "__eq__" "Playing.__eq__" st_Playing_eq L.m_Playing_eq fd) : FnOk P w K mg base CX0 3 L.m_Playing_eq fd ["self", "other"] (spPEq L.c_Row L.c_Playing) := by
  have G_Roweq := ok_Roweq (P := P) (w := w) (base := base) T
  have M_Playing := T.gc_Playing
  have nd := sc_Playingeq.nd
  refine F.ok sc_Playingeq (fun vs H Q E h => ?_) (fun cdv A outer S H vs Q E hr h => ?_)
  · obtain ⟨p, q, av, bv, ts, st, ph, ws, vs', rfl, _⟩ := h
    rfl
  · obtain ⟨p, q, av, bv, ts, st, ph, ws, vs', rfl, ⟨r, B, aw, ah, xs, ls, Y, n⟩, ⟨r2, B2, aw2, ah2, xs2, ls2, Y2, n2⟩, k⟩ := h
    refine ⟨_, (pss_one (ps_ret (pe_and (pe_callB call_isi (by rfl) T.b_isinstance (by decide +kernel) (pa_cons (pv 1) (pa_cons (pe_glob rfl M_Playing rr) pa_nil))) (pe_and (pe_cmpR (G_Roweq.op_eq (hr.mono (by decide))) (pe_fld (pv 0) rfl) (pe_fld (pv 1) rfl) (nomark _)) (pe_one (pe_cmpR (op_eqD hr.units) (pe_fld (pv 0) rfl) (pe_fld (pv 1) rfl) (nomark _))))))), ?_⟩
    obtain ⟨dx, hp⟩ := Y.ob
    obtain ⟨dx2, hq⟩ := Y2.ob
    refine ⟨_, rfl, _, .ref L.c_Playing, _, _, _, rfl, .own L.c_Playing, T.cf_Playing.tyR hq, if_pos (beq_self_eq_true _), _, rfl, iteT ?_⟩
    refine ⟨_, rfl, p, L.c_Playing, dx, _, _, rfl, hp, T.cf_Playing.cl, T.nf_Playing_row, plF_r _ _ _, _, rfl, q, L.c_Playing, dx2, _, _, rfl, hq, T.cf_Playing.cl, T.nf_Playing_row, plF_r _ _ _, eq_row Y.row (.row Y2.row) ⟨_, rfl, ?_⟩⟩
    rw [decide_eq_true rfl]
    refine iteT ⟨_, rfl, p, L.c_Playing, dx, _, _, rfl, hp, T.cf_Playing.cl, T.nf_Playing_words, plF_w _ _ _, _, rfl, q, L.c_Playing, dx2, _, _, rfl, hq, T.cf_Playing.cl, T.nf_Playing_words, plF_w _ _ _, _, _, Dp.ws Y.hw, Dp.ws Y2.hw, ws_sh _, ws_sh _, ?_⟩
    rw [ws_eq]
    exact k
theorem ok_Playingeq (T : LX K mg L) : Met P w K mg base L.c_Playing "__eq__" 3 L.m_Playing_eq ["self", "other"] (spPEq L.c_Row L.c_Playing) := T.mm_Playing_eq.met fun fd F => fn_Playingeq T F
end
/-! ### a Playing refuses -/
theorem Kd.kitS {K : PySem.W.Frag} {H : Hp} {v : V} {n : String} (h : Kd H v n) : PySem.W.kitOne K (.type n) (.type "str") = some (n == "str") := by
  cases h <;> exact kit_ty (by decide +kernel)
/-- whether a value is a word for a request -/
def isWd : V → Bool
  | .str x => inV (.str x) [V.str "up", V.str "down"]
  | _ => false
theorem Brs.tp {H H' : Hp} {xs : List V} {ts : List Tri} (h : Brs H xs ts) (k : ∀ b us, H b = some (.tup us) → H' b = some (.tup us)) : Brs H' xs ts := L2.Paired.mapP h fun _ _ ⟨a, e, h⟩ => ⟨a, e, k _ _ h⟩
theorem RowAt.ext {C : Addr} {H H' : Hp} {r B : Addr} {xs : List V} {ts : List Tri} {st ph : Int} (R : RowAt C H r B xs ts st ph) (k : LamX.ExtN H H') : RowAt C H' r B xs ts st ph := by
  obtain ⟨dx, ob⟩ := R.ob
  exact ⟨⟨dx, k _ _ ob fun _ z => nomatch z⟩, k _ _ R.tp fun _ z => (nomatch z), R.br.tp fun b us e => k _ _ e fun _ z => (nomatch z), R.ok, R.ln, R.s0, R.s1, R.p0, R.p1⟩
theorem PlAt.ext {CR C : Addr} {H H' : Hp} {p r B aw ah : Addr} {xs : List V} {ts : List Tri} {st ph : Int} {ws : List Bool} {ls : List Addr} (Y : PlAt CR C H p r B aw ah xs ts st ph ws ls) (k : LamX.ExtN H H') : PlAt CR C H' p r B aw ah xs ts st ph ws ls := by
  obtain ⟨dx, ob⟩ := Y.ob
  refine ⟨⟨dx, k _ _ ob fun _ z => nomatch z⟩, Y.row.ext k, k _ _ Y.hw fun _ z => (nomatch z), k _ _ Y.hh fun _ z => (nomatch z), Y.ln, fun j l e => ?_, Y.n1, Y.n2, Y.n3⟩
  obtain ⟨ys, h1, h2⟩ := Y.hs j l e
  exact ⟨ys, k _ _ h1 fun _ z => (nomatch z), h2.tp fun b us e => k _ _ e fun _ z => nomatch z⟩
theorem PlV.ext {CR C : Addr} {av : List Addr} {H H' : Hp} {p : Addr} {ts : List Tri} {st ph : Int} {ws : List Bool} (Y : PlV CR C av H p ts st ph ws) (k : LamX.ExtN H H') : PlV CR C av H' p ts st ph ws := by
  obtain ⟨r, B, aw, ah, xs, ls, Y, n⟩ := Y
  exact ⟨r, B, aw, ah, xs, ls, Y.ext k, n⟩
theorem Kd.ext {H H' : Hp} {v : V} {n : String} (h : Kd H v n) (k : LamX.ExtN H H') : Kd H' v n := by
  cases h with
  | non => exact .non
  | bl b => exact .bl b
  | int i => exact .int i
  | str x => exact .str x
  | lst e => exact .lst (k _ _ e fun _ z => nomatch z)
  | tup e => exact .tup (k _ _ e fun _ z => nomatch z)
  | dK e => exact .dK (k _ _ e fun _ z => nomatch z)
def spIsWordB : Sp := fun vs H Q _ => ∃ v n, vs = [v] ∧ Kd H v n ∧ ∀ H', Same H H' → Q (.bl (isWd v)) H'
def spPReqX (L : LA) : Sp := fun vs H _ E => ∃ p av ts st ph ws v n, vs = [.ref p, v] ∧ PlV L.c_Row L.c_Playing av H p ts st ph ws ∧ Kd H v n ∧ ((isWd v = false ∧ ∀ d H', H' d = some (.xd [("call", v)]) → Same H H' → E (.ref L.e_InvalidCall) (some d) H') ∨ (isWd v = true ∧ 10000 ≤ ws.length ∧ ∀ d H', H' d = some (.xd [("limit", .int 10000)]) → Same H H' → E (.ref L.e_LimitExceeded) (some d) H'))
def spPUndoX (L : LA) : Sp := fun vs H _ E => ∃ p av ts st ph ws v n, vs = [.ref p, v] ∧ PlV L.c_Row L.c_Playing av H p ts st ph ws ∧ Kd H v n ∧ (isI v && (decide (0 ≤ toI v) && decide (toI v ≤ (ws.length : Int)))) = false ∧ ∀ d H', H' d = some (.xd [("part", .str "count")]) → Same H H' → E (.ref L.e_InvalidBound) (some d) H'
def spPInitX (K : PySem.W.Frag) (L : LA) : Sp := fun vs H _ E => ∃ p v u, vs = [.ref p, v] ∧ TyX K H v u ∧ PySem.W.kitOne K u (.ref L.c_Row) = some false ∧ ∀ d H', H' d = some (.xd [("at", .int (-1)), ("part", .str "row")]) → Same H H' → E (.ref L.e_InvalidRow) (some d) H'
namespace EX
section
variable {P : Program} {w : World} {K : PySem.W.Frag} {mg : Str → Option Value} {base : Heap} {L : LA}
abbrev N_isword : List Str := ["value"]
theorem sc_isword : FnScope N_isword ["value"] (defScope st_is_word) := ⟨rfl, rfl, rfl, by decide +kernel, rfl, by decide +kernel, by decide +kernel⟩
theorem fn_isword (T : LX K mg L) {fd : FuncData} (F : Fun K "is_word" "is_word" st_is_word L.f_is_word fd) : FnOk P w K mg base CX0 1 L.f_is_word fd ["value"] (spIsWordB) := by
  have nd := sc_isword.nd
  refine F.ok sc_isword (fun vs H Q E h => ?_) (fun cdv A outer S H vs Q E hr h => ?_)
  · obtain ⟨v, n, rfl, _⟩ := h
    rfl
  · obtain ⟨v, n, rfl, kd, k⟩ := h
    refine ⟨_, (pss_one (ps_ret (pe_and (pe_callB call_isi (by rfl) T.b_isinstance (by decide +kernel) (pa_cons (pv 0) (pa_cons (pe_bltn (by rfl) T.b_str (by decide +kernel : bootBuiltins "str" = some (.type "str")) (v := .ty "str") rfl) pa_nil))) (pe_one (pe_cmpR op_in_seq (pv 0) (pe_tup (pa_cons pe_str (pa_cons pe_str pa_nil))) rfl))))), ?_⟩
    refine ⟨_, rfl, _, .ty "str", _, _, _, rfl, .ty "str", kd.ty, kd.kitS, _, rfl, ?_⟩
    cases kd with
    | str x =>
      refine iteT ⟨_, rfl, (by show 2 ≤ sizeLine; decide), fun p np => ?_⟩
      exact ⟨p, _, rfl, .inr (SqT.of upd_same), rfl, rfl, k _ (Same.upd np)⟩
    | non => exact iteF (k _ (Same.refl _))
    | bl b => exact iteF (k _ (Same.refl _))
    | int i => exact iteF (k _ (Same.refl _))
    | lst e => exact iteF (k _ (Same.refl _))
    | tup e => exact iteF (k _ (Same.refl _))
    | dK e => exact iteF (k _ (Same.refl _))
theorem ok_isword (T : LX K mg L) : Cal P w K mg base "is_word" 1 L.f_is_word ["value"] (spIsWordB) := T.d_is_word.cal fun fd F => fn_isword T F
theorem fn_Playingrequest (T : LX K mg L) {fd : FuncData} (F : Fun K "request" "Playing.request" st_Playing_request L.m_Playing_request fd) : FnOk P w K mg base (L2.CX P w) 6 L.m_Playing_request fd ["self", "word"] (spPReqX L) := by
  obtain ⟨tk_MOST_REQUESTS, c_MOST_REQUESTS⟩ := T.n_MOST_REQUESTS
  have G_sent := ok_sent (P := P) (w := w) (base := base) T
  have G_Playingnextrequest := ok_Playingnextrequest (P := P) (w := w) (base := base) T
  have G_isword := ok_isword (P := P) (w := w) (base := base) T
  have nd := sc_Playingrequest.nd
  refine F.okX sc_Playingrequest (fun vs H Q E h => ?_) (fun cdv A outer S H vs Q E hr h => ?_)
  · obtain ⟨p, av, ts, st, ph, ws, v, n, rfl, _⟩ := h
    rfl
  · obtain ⟨p, av, ts, st, ph, ws, v, n, rfl, PY, kd, alt⟩ := h
    refine ⟨_, (pss_cons (ps_if (pt_not (pt_val (pe_c G_isword (hr.mono (by decide)) rfl (pa_cons (pv 1) pa_nil)))) (pss_one (ps_raise rfl (takes_of rfl rfl rfl rfl) (mk_InvalidCall T (hr.mono (by decide)) rfl (pa_cons (pv 1) pa_nil)))) pss_nil)
       (pss_cons (ps_if (pt_cmpR op_ge (pe_callB call_len_seq (by rfl) T.b_len PySem.boot_len (pa_cons (pe_fld (pv 0) rfl) pa_nil)) (pe_gI c_MOST_REQUESTS) (nomark _)) (pss_one (ps_raise rfl (takes_of rfl rfl rfl rfl) (mk_LimitExceeded T (hr.mono (by decide)) rfl (pa_cons (pe_gI c_MOST_REQUESTS) pa_nil)))) pss_nil)
       (pss_cons (ps_asg (pe_c G_sent (hr.mono (by decide)) rfl (pa_cons (pe_fld (pe_fld (pv 0) rfl) rfl) (pa_cons (pe_ix (r := rIxL K) ix_list (pe_fld (pv 0) rfl) (pe_un un_neg pe_int) (fun _ _ => rfl)) (pa_cons (G_Playingnextrequest.p_m0 T.cf_Playing.cl (hr.mono (by decide)) (pv 0)) (pa_cons (pe_cmpR op_eq (pv 1) pe_str (nomark _)) pa_nil))))) (pg_tup rfl (pgs_cons (pg_name (i := 2) nd rfl (Or.inl rfl)) (pgs_cons (pg_name (i := 3) nd rfl (Or.inl rfl)) pgs_nil))))
       (pss_cons (ps_expr (pe_bm PySem.F.plainAttrs_list PySem.F.slot_list_append PySem.F.type_list_append mt_append (pe_fld (pv 0) rfl) (pa_cons (pv 1) pa_nil)))
       (pss_cons (ps_expr (pe_bm PySem.F.plainAttrs_list PySem.F.slot_list_append PySem.F.type_list_append mt_append (pe_fld (pv 0) rfl) (pa_cons (pv 3) pa_nil)))
       (pss_one (ps_ret (pv 2)))))))), ?_⟩
    obtain ⟨r, B, aw, ah, xs, ls, Y, nn⟩ := PY
    obtain ⟨dx, hp⟩ := Y.ob
    refine ⟨_, rfl, v, n, rfl, kd, fun H1 s1 => ⟨_, rfl, ?_⟩⟩
    rcases alt with ⟨h1, k⟩ | ⟨h1, h2, k⟩
    · rw [h1]
      exact iteT ⟨_, rfl, (by show 1 ≤ 1000; decide), fun e he => raise1 (fun d H' hd s' => k d H' hd (s1.trans s')) e he⟩
    rw [h1]
    have Y1 := Y.keB nn (.same s1)
    refine iteF ⟨_, rfl, p, L.c_Playing, dx, _, _, rfl, s1 _ _ hp, T.cf_Playing.cl, T.nf_Playing_words, plF_w _ _ _, aw, _, rfl, .inl (SqL.of Y1.hw), _, _, rfl, rfl, _, rfl, ite2 (fun c => ?_) (fun c => ?_)⟩
    · exact ⟨(by show 1 ≤ 1000; decide), fun e he => raise1 (fun d H' hd s' => k d H' hd (s1.trans s')) e he⟩
    · rw [List.length_map] at c
      exact absurd (decide_eq_true (by omega : (10000 : Int) ≤ (ws.length : Int))) c
theorem ok_Playingrequest (T : LX K mg L) : MetX P w K mg base L.c_Playing "request" 6 L.m_Playing_request ["self", "word"] (spPReqX L) := T.mm_Playing_request.metX fun fd F => fn_Playingrequest T F
theorem fn_Playingundo (T : LX K mg L) {fd : FuncData} (F : Fun K "undo" "Playing.undo" st_Playing_undo L.m_Playing_undo fd) : FnOk P w K mg base (L2.CX P w) 3 L.m_Playing_undo fd ["self", "count"] (spPUndoX L) := by
  have G_iswithin := ok_iswithin (P := P) (w := w) (base := base) T
  have nd := sc_Playingundo.nd
  refine F.okX sc_Playingundo (fun vs H Q E h => ?_) (fun cdv A outer S H vs Q E hr h => ?_)
  · obtain ⟨p, av, ts, st, ph, ws, v, n, rfl, _⟩ := h
    rfl
  · obtain ⟨p, av, ts, st, ph, ws, v, n, rfl, ⟨r, B, aw, ah, xs, ls, Y, nn⟩, kd, bad, k⟩ := h
    refine ⟨_, (pss_cons (ps_if (pt_not (pt_val (pe_c G_iswithin (hr.mono (by decide)) rfl (pa_cons (pv 1) (pa_cons pe_int (pa_cons (pe_callB call_len_seq (by rfl) T.b_len PySem.boot_len (pa_cons (pe_fld (pv 0) rfl) pa_nil)) pa_nil)))))) (pss_one (ps_raise rfl (takes_of rfl rfl rfl rfl) (mk_InvalidBound T (hr.mono (by decide)) rfl (pa_cons pe_str pa_nil)))) pss_nil)
       (pss_cons (ps_set (i := 2) nd rfl (Or.inl rfl) (pe_op op_sub (pe_callB call_len_seq (by rfl) T.b_len PySem.boot_len (pa_cons (pe_fld (pv 0) rfl) pa_nil)) (pv 1)))
       (pss_cons (ps_fld (pv 0) (pe_slice (r := rSlL K) sl_list (pe_fld (pv 0) rfl) po_none (po_some (pv 2))) rfl)
       (pss_one (ps_fld (pv 0) (pe_slice (r := rSlL K) sl_list (pe_fld (pv 0) rfl) po_none (po_some (pe_op op_add (pv 2) pe_int))) rfl))))), ?_⟩
    obtain ⟨dx, hp⟩ := Y.ob
    refine ⟨_, rfl, _, rfl, p, L.c_Playing, dx, _, _, rfl, hp, T.cf_Playing.cl, T.nf_Playing_words, plF_w _ _ _, aw, _, rfl, .inl (SqL.of Y.hw), _, _, _, _, rfl, kd, _, rfl, ?_⟩
    rw [List.length_map, bad]
    exact iteT ⟨(by show 1 ≤ 1000; decide), fun e he => raise1 k e he⟩
theorem ok_Playingundo (T : LX K mg L) : MetX P w K mg base L.c_Playing "undo" 3 L.m_Playing_undo ["self", "count"] (spPUndoX L) := T.mm_Playing_undo.metX fun fd F => fn_Playingundo T F
theorem fn_Playinginit (T : LX K mg L) {fd : FuncData} (F : Fun K "__init__" "Playing.__init__" st_Playing_init L.i_Playing fd) : FnOk P w K mg base (L2.CX P w) 4 L.i_Playing fd ["self", "row"] (spPInitX K L) := by
  have M_Row := T.gc_Row
  have G_closedstates := ok_closedstates (P := P) (w := w) (base := base) T
  have G_Rowlen := ok_Rowlen (P := P) (w := w) (base := base) T
  have nd := sc_Playinginit.nd
  refine F.okX sc_Playinginit (fun vs H Q E h => ?_) (fun cdv A outer S H vs Q E hr h => ?_)
  · obtain ⟨p, v, u, rfl, _⟩ := h
    rfl
  · obtain ⟨p, v, u, rfl, ty, kit, k⟩ := h
    refine ⟨_, (pss_cons (ps_if (pt_not (pt_val (pe_callB call_isi (by rfl) T.b_isinstance (by decide +kernel) (pa_cons (pv 1) (pa_cons (pe_glob rfl M_Row rr) pa_nil))))) (pss_one (ps_raise rfl (takes_of rfl rfl rfl rfl) (mk_InvalidRow T (hr.mono (by decide)) rfl (pa_cons pe_str (pa_cons (pe_un un_neg pe_int) pa_nil))))) pss_nil)
       (pss_cons (ps_fld (pv 0) (pv 1) rfl)
       (pss_cons (ps_fld (pv 0) (pe_lst pa_nil) rfl)
       (pss_one (ps_fld (pv 0) (pe_lst (pa_cons (pe_c G_closedstates (hr.mono (by decide)) rfl (pa_cons (pe_callB (G_Rowlen.c_len (hr.mono (by decide))) (by rfl) T.b_len PySem.boot_len (pa_cons (pv 1) pa_nil)) pa_nil)) pa_nil)) rfl))))), ?_⟩
    refine ⟨_, rfl, _, .ref L.c_Row, _, _, _, rfl, .own L.c_Row, ty, kit, _, rfl, iteT ?_⟩
    exact ⟨_, rfl, (by show 2 ≤ 1000; decide), fun e he => raise2 k e he⟩
end
end EX
section
variable {X : Cx} {L : LA}
/-- Playing(..) of what is no row -/
theorem pe_mkPlayingX {K : PySem.W.Frag} {E : XK} (hK : X.K = K) (tk : L2.Takes X fun cls d _ H => E cls d H) (T : LX K X.mg L) (hr : Room 5 X.A) {p pos : Pos} {e : Expr} {es : List Expr} {t : TA} (hg : Gl X "Playing") (ha : PA X (e :: es) t)
    (he : starEach (e :: es) X.env = (false, eval e X.env) :: starEach es X.env := by rfl) (hpl : (backTo pos (starEach es X.env)).any (·.1) = false := by rfl) : PE X (.Call (.Name "Playing" p) (e :: es) [] pos) (tMake L.c_Playing (spPInitX K L) [] E t) := by
  subst hK
  obtain ⟨fd, F, b⟩ := T.in_Playing
  exact pe_make T.mk_Playing (EX.fn_Playinginit T F) hr hg T.gc_Playing b .nil (pass1 tk) ha (by decide) he hpl
end
/-! ### which error a call raises (_law_error) -/
abbrev N_werror : List Str := ["_law_ask", "_law_result", "error"]
theorem sc_werror : FnScope N_werror ["_law_ask"] (defScope st__law_error) := ⟨rfl, rfl, rfl, by decide +kernel, rfl, by decide +kernel, by decide +kernel⟩
theorem lt_mem_wcallsright {K : PySem.W.Frag} {mg : Str → Option Value} {L : LA} (T : LX K mg L) : (L.t__law_calls_right, (("_law_calls_right" : Str) ++ ".<locals>.") ++ "<lambda>") ∈ LT L := by simp [LT]
theorem lt_one_wcallsright {K : PySem.W.Frag} {mg : Str → Option Value} {L : LA} (T : LX K mg L) : ∀ p ∈ LT L, p.1 = L.t__law_calls_right → p.2 = (("_law_calls_right" : Str) ++ ".<locals>.") ++ "<lambda>" := by
  intro p hp e
  simp only [LT, List.mem_cons, List.mem_nil_iff, or_false] at hp
  rcases hp with rfl | rfl
  · rfl
  · exact absurd e (fun z => T.nt__law_calls_right_law z.symm)
theorem lt_mem_law {K : PySem.W.Frag} {mg : Str → Option Value} {L : LA} (T : LX K mg L) : (L.t_law, (("law" : Str) ++ ".<locals>.") ++ "<lambda>") ∈ LT L := by simp [LT]
theorem lt_one_law {K : PySem.W.Frag} {mg : Str → Option Value} {L : LA} (T : LX K mg L) : ∀ p ∈ LT L, p.1 = L.t_law → p.2 = (("law" : Str) ++ ".<locals>.") ++ "<lambda>" := by
  intro p hp e
  simp only [LT, List.mem_cons, List.mem_nil_iff, or_false] at hp
  rcases hp with rfl | rfl
  · exact absurd e T.nt__law_calls_right_law
  · rfl

/-- an error that the call may raise, and what _law_error makes of it -/
inductive ErrA (K : PySem.W.Frag) (L : LA) (g : List Code) (dd : Addr) (H : Hp) (Q : VK) : Addr → Prop where
  | row (x y : V) (h : H dd = some (.xd [("at", y), ("part", x)])) (k : ∀ p H', H' p = some (.lst [.str "row", x, .bl false]) → Same H H' → H p = none → Q (.ref p) H') : ErrA K L g dd H Q L.e_InvalidRow
  | call (v : V) (z : Str) (h : H dd = some (.xd [("call", v)])) (r : ReprG g H v z) (k : ∀ p H', H' p = some (.lst [.str "call", .str z, .bl false]) → Same H H' → H p = none → Q (.ref p) H') : ErrA K L g dd H Q L.e_InvalidCall
  | bound (v : V) (h : H dd = some (.xd [("part", v)])) (k : ∀ p H', H' p = some (.lst [.str "bound", v, .bl false]) → Same H H' → H p = none → Q (.ref p) H') : ErrA K L g dd H Q L.e_InvalidBound
  | limit (v : V) (h : H dd = some (.xd [("limit", v)])) (k : ∀ p H', H' p = some (.lst [.str "limit", v, .bl true]) → Same H H' → H p = none → Q (.ref p) H') : ErrA K L g dd H Q L.e_LimitExceeded
def ErrR (K : PySem.W.Frag) (L : LA) (g : List Code) (cls : Value) (d : Option Addr) (H : Hp) (Q : VK) : Prop := ∃ D dd : Addr, cls = .ref D ∧ d = some dd ∧ ErrA K L g dd H Q D
/-- the lambda ends well, or with such an error -/
def TTerr (K : PySem.W.Frag) (L : LA) (g : List Code) : (XK → Hp → VK → Prop) → Hp → VK → Prop := fun tl H Q => ∀ (E : XK) (N : VK), (∀ cls d H', ErrR K L g cls d H' Q → E cls d H') → (∀ v H', Q (.str "none") H' → N v H') → tl E H N
theorem Takes.long {X : Cx} {W : L2.WX} (tk : L2.Takes X W) : L2.Takes X (fun cls d σ H => σ.length = X.N.length → W cls d σ H) := fun u s' x => by
  obtain ⟨a, B, sI, pins, σ, H, cls, d, e, I, nb, up, sky, na, os, ag, w⟩ := x
  exact tk u s' ⟨a, B, sI, pins, σ, H, cls, d, e, I, nb, up, sky, na, os, ag, w I.len⟩
theorem err_gives {X : Cx} {L : LA} (T : LX X.K X.mg L) (hr9 : Room 3 X.A) {g0 : List Code} (hgd : X.A.guards = some g0) {g : Addr} {cdg : Value} {q : Str} : LamX.GivesTo X N_werror "_law_error" (defScope st__law_error) g cdg (defBody st__law_error) "_law_ask" q (TTerr X.K L g0) := by
  intro f c' s H Q tl act hc h
  have nd := sc_werror.nd
  have hr := hr9.deeper (PyProof.Rows.envOfC "_law_error" (defScope st__law_error) s.heap.objs.size g cdg)
  refine ⟨_, (pss_cons (ps_set (i := 1) nd rfl (Or.inl rfl) pe_str) (pss_cons (ps_try_mix (Wout := fun _ _ _ _ => False) (tb := fun W D σ H => ∃ Ech : XK, (∀ cls d (σ' : L2.St) H', σ'.length = 3 → Ech cls d H' → W cls d σ' H') ∧ σ[0]? = some (some (.ref f)) ∧ H c' = some (LamX.CodeO c' q) ∧ tl Ech H fun _ H' => D.nx σ H') rfl rfl nd takes0 (fun W pn xe tk _ => ?_)
    (.named (i := 2) ⟨rfl, by decide, Or.inl T.ge_InvalidRow⟩ rfl rfl (fun a oe cls d pn hz hf => by exact (pss_one (ps_set (i := 1) nd rfl (Or.inl rfl) (pe_lst (pa_cons pe_str (pa_cons (pe_xfZ (K := X.K) (by rfl) hz hf (pv 2)) (pa_cons (pe_callB (call_isTZ (K := X.K) (by rfl) hz hf) (by rfl) T.b_isinstance (by decide +kernel) (pa_cons (pv 2) (pa_cons (pe_tup (pa_cons (pe_glob rfl T.ge_InvalidCall rr) (pa_cons (pe_glob rfl T.ge_InvalidBound rr) (pa_cons (pe_glob rfl T.ge_LimitExceeded rr) pa_nil)))) pa_nil))) pa_nil)))))))
    (.named (i := 2) ⟨rfl, by decide, Or.inl T.ge_InvalidCall⟩ rfl rfl (fun a oe cls d pn hz hf => by exact (pss_one (ps_set (i := 1) nd rfl (Or.inl rfl) (pe_lst (pa_cons pe_str (pa_cons (pe_callB (call_reprG (g := g0) (by exact hgd) (by exact hr.units)) (by rfl) T.b_repr (by decide +kernel) (pa_cons (pe_xfZ (K := X.K) (by rfl) hz hf (pv 2)) pa_nil)) (pa_cons (pe_callB (call_isTZ (K := X.K) (by rfl) hz hf) (by rfl) T.b_isinstance (by decide +kernel) (pa_cons (pv 2) (pa_cons (pe_tup (pa_cons (pe_glob rfl T.ge_InvalidBound rr) (pa_cons (pe_glob rfl T.ge_LimitExceeded rr) pa_nil))) pa_nil))) pa_nil)))))))
    (.named (i := 2) ⟨rfl, by decide, Or.inl T.ge_InvalidBound⟩ rfl rfl (fun a oe cls d pn hz hf => by exact (pss_one (ps_set (i := 1) nd rfl (Or.inl rfl) (pe_lst (pa_cons pe_str (pa_cons (pe_xfZ (K := X.K) (by rfl) hz hf (pv 2)) (pa_cons (pe_callB (call_isZ (K := X.K) (by rfl) hz hf) (by rfl) T.b_isinstance (by decide +kernel) (pa_cons (pv 2) (pa_cons (pe_glob rfl T.ge_LimitExceeded rr) pa_nil))) pa_nil)))))))
    (.named (i := 2) ⟨rfl, by decide, Or.inl T.ge_LimitExceeded⟩ rfl rfl (fun a oe cls d pn hz hf => by exact (pss_one (ps_set (i := 1) nd rfl (Or.inl rfl) (pe_lst (pa_cons pe_str (pa_cons (pe_xfZ (K := X.K) (by rfl) hz hf (pv 2)) (pa_cons (pe_callB (call_isZ (K := X.K) (by rfl) hz hf) (by rfl) T.b_isinstance (by decide +kernel) (pa_cons (pv 2) (pa_cons (pe_bltn (by rfl) T.b_ArithmeticError (by decide +kernel : bootBuiltins "ArithmeticError" = some (.type "ArithmeticError")) (v := .ty "ArithmeticError") rfl) pa_nil))) pa_nil)))))))
    (.plain ⟨rfl, by decide, Or.inl T.ge_BreakerError⟩ (fun a oe cls d pn hz hf => by exact (pss_one (ps_set (i := 1) nd rfl (Or.inl rfl) pe_str))) .nil)))))) (pss_one (ps_ret (pv 1))))), ?_⟩
  · refine pss_one ⟨fun pins s' σ H' D I h' => ?_⟩
    obtain ⟨Ech, hW, h1, h2, h3⟩ := h'
    exact (ps_expr (act _ pn xe Ech _ _ (Takes.long tk) (fun cls d σ' H' e z => hW cls d σ' H' z e))).run pins s' σ H' D I ⟨h1, h2, h3⟩
  · refine ⟨fun cls d H' => ErrR X.K L g0 cls d H' Q, fun cls d σ' H' hl z => ?_, rfl, hc, h _ _ (fun _ _ _ z => z) fun _ H' z => ⟨_, rfl, z⟩⟩
    obtain ⟨D, dd, rfl, rfl, alt⟩ := z
    obtain ⟨s0, s1, s2, rfl⟩ : ∃ a0 a1 a2, σ' = [a0, a1, a2] := by
      match σ', hl with
      | [a0, a1, a2], _ => exact ⟨a0, a1, a2, rfl⟩
    have fld : ∀ {D a : Addr} {f : Str} {v : V} {fs' : List (Str × V)} {Qx : VK} {a0 a1 : Option V} {Hx : Hp}, L2.XfC X.K D → PySem.W.findIn X.K (.ref D) f = some none → Hx dd = some (.xd fs') → fs'.lookup f = some v → Qx v Hx → tXfZ X.K a (.ref D) (some dd) f (tVar 2) [a0, a1, some (.ref a)] Hx Qx := fun {D a f v fs' Qx a0 a1 Hx} xf no h1 h2 q => ⟨D, xf, no, _, rfl, rfl, rfl, dd, _, _, rfl, h1, h2, q⟩
    have isz : ∀ {D a : Addr} {fs : List (Str × V)} {v : V} {C : Value} {x : Bool} {Hx : Hp} {Qx : VK}, IsC X.K D → PySem.W.kitOne X.K (.ref D) C = some x → (∀ u, L2.RelV v u → u = C) → Hx dd = some (.xd fs) → Qx (.bl x) Hx → rIsZ X.K a (.ref D) (some dd) [.ref a, v] Hx Qx := fun {D a fs v C x Hx Qx} ic h1 h2 h3 h4 => ⟨D, dd, rfl, rfl, ic, v, C, x, fs, rfl, h3, h2, h1, h4⟩
    have ir : ∀ (p : Addr) (u : Value), L2.RelV (.ref p) u → u = .ref p := fun p u hu => hu
    cases alt with
    | row x y hd k =>
      refine ⟨true, exm_of T.xe_InvalidRow T.te_InvalidRow T.se_InvalidRow_InvalidRow, fun _ a na => ?_, fun z => nomatch z⟩
      refine fld T.xe_InvalidRow T.ne_InvalidRow_part hd rfl ?_
      refine ⟨_, rfl, (by show 3 ≤ sizeLine; decide), fun p4 n4 => ?_⟩
      have S4 := Same.upd (o := .tup [.ref L.e_InvalidCall, .ref L.e_InvalidBound, .ref L.e_LimitExceeded]) n4
      exact ⟨L.e_InvalidRow, T.is_InvalidRow, rfl, dd, p4, [L.e_InvalidCall, L.e_InvalidBound, L.e_LimitExceeded], _, rfl, S4 _ _ hd, rfl, upd_same, (L2.kitAny_cons (b := false) (kit_of T.xe_InvalidCall T.te_InvalidCall T.se_InvalidRow_InvalidRow T.se_InvalidRow_InvalidCall) (fun _ => (L2.kitAny_cons (b := false) (kit_of T.xe_InvalidBound T.te_InvalidBound T.se_InvalidRow_InvalidRow T.se_InvalidRow_InvalidBound) (fun _ => (L2.kitAny_cons (b := false) (kit_of T.xe_LimitExceeded T.te_LimitExceeded T.se_InvalidRow_InvalidRow T.se_InvalidRow_LimitExceeded) (fun _ => L2.kitAny_nil) (fun z => nomatch z))) (fun z => nomatch z))) (fun z => nomatch z)), ⟨(by show 3 ≤ sizeLine; decide), fun p5 n5 => ⟨_, rfl, k _ _ upd_same (S4.trans (Same.upd n5)) (none_of S4 n5)⟩⟩⟩
    | call v z hd r k =>
      refine ⟨false, exm_of T.xe_InvalidRow T.te_InvalidRow T.se_InvalidCall_InvalidRow, fun z => (nomatch z), fun _ => ?_⟩
      refine ⟨true, exm_of T.xe_InvalidCall T.te_InvalidCall T.se_InvalidCall_InvalidCall, fun _ a na => ?_, fun z => nomatch z⟩
      refine fld T.xe_InvalidCall T.ne_InvalidCall_call hd rfl ⟨_, _, rfl, r, ?_⟩
      refine ⟨_, rfl, (by show 2 ≤ sizeLine; decide), fun p4 n4 => ?_⟩
      have S4 := Same.upd (o := .tup [.ref L.e_InvalidBound, .ref L.e_LimitExceeded]) n4
      exact ⟨L.e_InvalidCall, T.is_InvalidCall, rfl, dd, p4, [L.e_InvalidBound, L.e_LimitExceeded], _, rfl, S4 _ _ hd, rfl, upd_same, (L2.kitAny_cons (b := false) (kit_of T.xe_InvalidBound T.te_InvalidBound T.se_InvalidCall_InvalidCall T.se_InvalidCall_InvalidBound) (fun _ => (L2.kitAny_cons (b := false) (kit_of T.xe_LimitExceeded T.te_LimitExceeded T.se_InvalidCall_InvalidCall T.se_InvalidCall_LimitExceeded) (fun _ => L2.kitAny_nil) (fun z => nomatch z))) (fun z => nomatch z)), ⟨(by show 3 ≤ sizeLine; decide), fun p5 n5 => ⟨_, rfl, k _ _ upd_same (S4.trans (Same.upd n5)) (none_of S4 n5)⟩⟩⟩
    | bound v hd k =>
      refine ⟨false, exm_of T.xe_InvalidRow T.te_InvalidRow T.se_InvalidBound_InvalidRow, fun z => (nomatch z), fun _ => ?_⟩
      refine ⟨false, exm_of T.xe_InvalidCall T.te_InvalidCall T.se_InvalidBound_InvalidCall, fun z => (nomatch z), fun _ => ?_⟩
      refine ⟨true, exm_of T.xe_InvalidBound T.te_InvalidBound T.se_InvalidBound_InvalidBound, fun _ a na => ?_, fun z => nomatch z⟩
      refine fld T.xe_InvalidBound T.ne_InvalidBound_part hd rfl ⟨_, rfl, ?_⟩
      exact isz T.is_InvalidBound (kit_of T.xe_LimitExceeded T.te_LimitExceeded T.se_InvalidBound_InvalidBound T.se_InvalidBound_LimitExceeded) (ir _) hd ⟨(by show 3 ≤ sizeLine; decide), fun p5 n5 => ⟨_, rfl, k _ _ upd_same (Same.upd n5) (n5)⟩⟩
    | limit v hd k =>
      refine ⟨false, exm_of T.xe_InvalidRow T.te_InvalidRow T.se_LimitExceeded_InvalidRow, fun z => (nomatch z), fun _ => ?_⟩
      refine ⟨false, exm_of T.xe_InvalidCall T.te_InvalidCall T.se_LimitExceeded_InvalidCall, fun z => (nomatch z), fun _ => ?_⟩
      refine ⟨false, exm_of T.xe_InvalidBound T.te_InvalidBound T.se_LimitExceeded_InvalidBound, fun z => (nomatch z), fun _ => ?_⟩
      refine ⟨true, exm_of T.xe_LimitExceeded T.te_LimitExceeded T.se_LimitExceeded_LimitExceeded, fun _ a na => ?_, fun z => nomatch z⟩
      refine fld T.xe_LimitExceeded T.ne_LimitExceeded_limit hd rfl ⟨_, rfl, ?_⟩
      exact isz T.is_LimitExceeded (kit_ar (x := "ArithmeticError") (by decide) T.sa_LimitExceeded) (fun u hu => hu) hd ⟨(by show 3 ≤ sizeLine; decide), fun p5 n5 => ⟨_, rfl, k _ _ upd_same (Same.upd n5) (n5)⟩⟩
/-! ### k55: calls that are refused -/
theorem tabs_same {T : List (Addr × Str)} {H H' : Hp} (t : LamX.Tabs T H) (s : Same H H') : LamX.Tabs T H' := t.ext s
theorem ext_same {H H' : Hp} (s : Same H H') : LamX.ExtN H H' := .of s
def l3D (x : Str) (d : PyData) (b : Bool) : PyData := .list [.str x, d, .bool b]
theorem l3_sh {x : Str} {d : PyData} {b : Bool} (h : PyData.strOk x = true) (hd : d.canLay0 = true) (dd : d.depth ≤ 3) : SeqAt.shaped (l3D x d b) = true := by
  refine Bool.and_eq_true_iff.mpr ⟨?_, decide_eq_true ?_⟩
  · simp [l3D, PyData.canLay0, PyData.canLayAll0, h, hd]
  · simp only [l3D, PyData.depth, PyData.depthAll]
    omega
theorem l3_eq {x : Str} {d : PyData} {b : Bool} (h : PyData.strOk x = true) (hd : d.canLay0 = true) (dd : d.depth ≤ 3) : PyData.eqv (l3D x d b) (l3D x d b) = true := SeqAt.eqv_refl _ (Bool.and_eq_true_iff.mp (l3_sh h hd dd)).1
theorem l3_dp {K : PySem.W.Frag} {H : Hp} {p : Addr} {x : Str} {v : V} {d : PyData} {b : Bool} (h : H p = some (.lst [.str x, v, .bl b])) (hv : Dp K H v d) : Dp K H (.ref p) (l3D x d b) := .lst (SqL.of h) (.cons (.str _) (.cons hv (.cons (.bl _) .nil)))
/-- what is no word, and its text -/
def OddC (g : List Code) (H : Hp) (v : V) : Prop := ∃ n z, Kd H v n ∧ ReprG g H v z ∧ PyData.strOk z = true ∧ isWd v = false
theorem OddC.ext {g : List Code} {H H' : Hp} {v : V} (h : OddC g H v) (k : LamX.ExtN H H') : OddC g H' v := by
  obtain ⟨n, z, h1, h2, h3, h4⟩ := h
  exact ⟨n, z, h1.ext k, h2.mv fun a o _ e n => k a o e n, h3, h4⟩
/-- what is no count -/
def OddU (m : Nat) (H : Hp) (v : V) : Prop := ∃ n, Kd H v n ∧ (isI v && (decide (0 ≤ toI v) && decide (toI v ≤ (m : Int)))) = false
theorem OddU.ext {m : Nat} {H H' : Hp} {v : V} (h : OddU m H v) (k : LamX.ExtN H H') : OddU m H' v := by
  obtain ⟨n, h1, h2⟩ := h
  exact ⟨n, h1.ext k, h2⟩
theorem ite_ok {c : Bool} {a b : Str} (ha : PyData.strOk a = true) (hb : PyData.strOk b = true) : PyData.strOk (if c then a else b) = true := by
  cases c
  · exact hb
  · exact ha
def befD (ts : List Tri) (st ph : Int) (ws : List Bool) : PyData := .list [.list ((plA ts st ph ws).map stD), .list (ws.map wD), .int (ph + (ws.length : Int) * st)]
theorem bef_sh (ts : List Tri) (st ph : Int) (ws : List Bool) : SeqAt.shaped (befD ts st ph ws) = true := by
  have c1 := canSts (plA_ok ts st ph ws).2
  have c2 := (ws_can ws).1
  have d1 := depSts (plA ts st ph ws)
  have d2 := (ws_can ws).2
  refine Bool.and_eq_true_iff.mpr ⟨?_, decide_eq_true ?_⟩
  · unfold befD
    rw [PyData.canLay0]
    simp [PyData.canLayAll0, PyData.canLay0, c1, c2]
  · unfold befD
    rw [PyData.depth]
    simp only [PyData.depthAll, PyData.depth]
    omega
theorem bef_eq (ts : List Tri) (st ph : Int) (ws : List Bool) : PyData.eqv (befD ts st ph ws) (befD ts st ph ws) = true := SeqAt.eqv_refl _ (Bool.and_eq_true_iff.mp (bef_sh ts st ph ws)).1
def spCalls (L : LA) : Sp := fun vs H Q _ => ∃ p av ts st ph ws, vs = [.ref p] ∧ PlV L.c_Row L.c_Playing av H p ts st ph ws ∧ ws.length ≤ 10000 ∧ LamX.Tabs (LT L) H ∧ ∀ H', LamX.ExtN H H' → LamX.Tabs (LT L) H' → Q (.bl true) H'
section
variable {P : Program} {w : World} {K : PySem.W.Frag} {mg : Str → Option Value} {base : Heap} {L : LA}
abbrev N_wcallsright : List Str := ["_law_game", "_law_before", "_law_odd"]
theorem sc_wcallsright : FnScope N_wcallsright ["_law_game"] (defScope st__law_calls_right) := ⟨rfl, rfl, rfl, by decide +kernel, rfl, by decide +kernel, by decide +kernel⟩
theorem fn_wcallsright (T : LX K mg L) (B : TX base mg L) {fd : FuncData} (F : FunT K "_law_calls_right" "_law_calls_right" st__law_calls_right L.f__law_calls_right L.k__law_calls_right fd) : FnOk P w K mg base CX0 12 L.f__law_calls_right fd ["_law_game"] (spCalls L) := by
  have G_Playingstatelist := ok_Playingstatelist (P := P) (w := w) (base := base) T
  have G_Playinglog := ok_Playinglog (P := P) (w := w) (base := base) T
  have G_Playingnextrequest := ok_Playingnextrequest (P := P) (w := w) (base := base) T
  have G_Playingrequest := ok_Playingrequest (P := P) (w := w) (base := base) T
  have G_Playingundo := ok_Playingundo (P := P) (w := w) (base := base) T
  have nd := sc_wcallsright.nd
  refine F.okG sc_wcallsright (fun vs H Q E h => ?_) (fun g0 A outer S H vs Q E hgd hr h => ?_)
  · obtain ⟨p, av, ts, st, ph, ws, rfl, _⟩ := h
    rfl
  · obtain ⟨p, av, ts, st, ph, ws, rfl, PV, wl, tabs, k⟩ := h
    refine ⟨_, (pss_cons (ps_set (i := 1) nd rfl (Or.inl rfl) (pe_lst (pa_cons (G_Playingstatelist.p_m0 T.cf_Playing.cl (hr.mono (by decide)) (pv 0)) (pa_cons (G_Playinglog.p_m0 T.cf_Playing.cl (hr.mono (by decide)) (pv 0)) (pa_cons (G_Playingnextrequest.p_m0 T.cf_Playing.cl (hr.mono (by decide)) (pv 0)) pa_nil)))))
       (pss_cons (ps_for PassesOwn.never rfl (pi_list (pe_lst (pa_cons pe_non (pa_cons pe_bl (pa_cons pe_str (pa_cons pe_str (pa_cons pe_int (pa_cons (pe_lst (pa_cons pe_str pa_nil)) (pa_cons (pe_tup (pa_cons pe_str pa_nil)) (pa_cons pe_dnewK (pa_cons pe_str pa_nil))))))))))) (pg_name (i := 2) nd rfl (Or.inr rfl)) (pss_one (ps_if (pt_cmpR (op_neD hr.units) (pe_lamc (T := LT L) (TT := TTerr K L g0) (c := L.k__law_calls_right) (P := L.t__law_calls_right) (k := 8) T.d__law_error sc_werror rfl (Or.inl rfl) (fun _ => err_gives T (hr.mono (by decide)) (by exact hgd)) B.b__law_calls_right rfl (lt_mem_wcallsright T) (lt_one_wcallsright T) (hr.mono (by decide)) (LamX.lamS_by (sc := defScope st__law_calls_right) (by decide +kernel)) rfl (fun _ _ _ _ _ => rfl) (fun A outer s H E f c2 hr => by exact ((EX.ok_Playingrequest (P := P) (w := w) (base := base) T).p_m1 (takes_of rfl rfl rfl rfl) T.cf_Playing.cl (hr.mono (by decide)) (pv 0) (pa_cons (pv 2) pa_nil)))) (pe_lst (pa_cons pe_str (pa_cons (pe_callB (call_reprG (g := g0) (by exact hgd) (by exact hr.units)) (by rfl) T.b_repr (by decide +kernel) (pa_cons (pv 2) pa_nil)) (pa_cons pe_bl pa_nil)))) (nomark _)) (pss_one (ps_ret pe_bl)) pss_nil)))
       (pss_cons (ps_for PassesOwn.never rfl (pi_list (pe_lst (pa_cons pe_non (pa_cons pe_bl (pa_cons pe_str (pa_cons (pe_lst (pa_cons pe_int pa_nil)) (pa_cons pe_dnewK (pa_cons (pe_un un_neg pe_int) (pa_cons (pe_op op_add (pe_callB call_len_seq (by rfl) T.b_len PySem.boot_len (pa_cons (G_Playinglog.p_m0 T.cf_Playing.cl (hr.mono (by decide)) (pv 0)) pa_nil)) pe_int) (pa_cons (pe_op op_pow pe_int pe_int) pa_nil)))))))))) (pg_name (i := 2) nd rfl (Or.inr rfl)) (pss_one (ps_if (pt_cmpR (op_neD hr.units) (pe_lamc (T := LT L) (TT := TTerr K L g0) (c := L.k__law_calls_right) (P := L.t__law_calls_right) (k := 8) T.d__law_error sc_werror rfl (Or.inl rfl) (fun _ => err_gives T (hr.mono (by decide)) (by exact hgd)) B.b__law_calls_right rfl (lt_mem_wcallsright T) (lt_one_wcallsright T) (hr.mono (by decide)) (LamX.lamS_by (sc := defScope st__law_calls_right) (by decide +kernel)) rfl (fun _ _ _ _ _ => rfl) (fun A outer s H E f c2 hr => by exact ((EX.ok_Playingundo (P := P) (w := w) (base := base) T).p_m1 (takes_of rfl rfl rfl rfl) T.cf_Playing.cl (hr.mono (by decide)) (pv 0) (pa_cons (pv 2) pa_nil)))) (pe_lst (pa_cons pe_str (pa_cons pe_str (pa_cons pe_bl pa_nil)))) (nomark _)) (pss_one (ps_ret pe_bl)) pss_nil)))
       (pss_one (ps_ret (pe_cmpR (op_eqD hr.units) (pe_lst (pa_cons (G_Playingstatelist.p_m0 T.cf_Playing.cl (hr.mono (by decide)) (pv 0)) (pa_cons (G_Playinglog.p_m0 T.cf_Playing.cl (hr.mono (by decide)) (pv 0)) (pa_cons (G_Playingnextrequest.p_m0 T.cf_Playing.cl (hr.mono (by decide)) (pv 0)) pa_nil)))) (pv 1) (nomark _))))))), ?_⟩
    obtain ⟨dx, r', aw, ah, hp⟩ := PV.ob
    refine ⟨_, rfl, p, dx, _, rfl, hp, plF_no _ _ _ (by decide +kernel) (by decide +kernel) (by decide +kernel), p, av, ts, st, ph, ws, rfl, PV, fun sl ys H1 hsl hys s1 nsl => ?_⟩
    refine ⟨_, rfl, p, dx, _, rfl, s1 _ _ hp, plF_no _ _ _ (by decide +kernel) (by decide +kernel) (by decide +kernel), p, _, ts, st, ph, ws, rfl, PV.same s1, fun ll H2 hll s2 nll => ?_⟩
    have s12 := s1.trans s2
    refine ⟨_, rfl, p, dx, _, rfl, s12 _ _ hp, plF_no _ _ _ (by decide +kernel) (by decide +kernel) (by decide +kernel), p, _, ts, st, ph, ws, rfl, PV.same s12, wl, (by show 3 ≤ sizeLine; decide), fun b nb => ?_⟩
    have s3 := Same.upd (o := .lst [.ref sl, .ref ll, .int (ph + (ws.length : Int) * st)]) nb
    have hb3 : upd H2 b (.lst [.ref sl, .ref ll, .int (ph + (ws.length : Int) * st)]) b = some (.lst [.ref sl, .ref ll, .int (ph + (ws.length : Int) * st)]) := upd_same
    generalize upd H2 b (.lst [.ref sl, .ref ll, .int (ph + (ws.length : Int) * st)]) = H3 at s3 hb3 ⊢
    have s13 := s12.trans s3
    have hsl3 := s3 _ _ (s2 _ _ hsl)
    have hys3 := (hys.same s2).same s3
    have hll3 := s3 _ _ hll
    have t3 := tabs_same tabs s13
    have PV3 := PV.same s13
    refine ⟨(by show 1 ≤ sizeLine; decide), fun a1 n1 => ⟨(by show 1 ≤ sizeLine; decide), fun a2 n2 => fun a3 n3 => ⟨(by show 9 ≤ sizeLine; decide), fun l nl => ?_⟩⟩⟩
    have u1 := Same.upd (o := .lst [.str "up"]) n1
    have u2 := Same.upd (o := .tup [.str "up"]) n2
    have u3 := Same.upd (o := .dK []) n3
    have u4 := Same.upd (o := .lst [.non, .bl true, .str "Up", .str "", .int 1, .ref a1, .ref a2, .ref a3, .str "served"]) nl
    have e1 := u4 _ _ (u3 _ _ (u2 _ _ (upd_same (a := a1) (o := .lst [.str "up"]) (H := H3))))
    have e2 := u4 _ _ (u3 _ _ (upd_same (a := a2) (o := .tup [.str "up"]) (H := upd H3 a1 (.lst [.str "up"]))))
    have e3 := u4 _ _ (upd_same (a := a3) (o := .dK []) (H := upd (upd H3 a1 (.lst [.str "up"])) a2 (.tup [.str "up"])))
    have e4 : upd (upd (upd (upd H3 a1 (.lst [.str "up"])) a2 (.tup [.str "up"])) a3 (.dK [])) l (.lst [.non, .bl true, .str "Up", .str "", .int 1, .ref a1, .ref a2, .ref a3, .str "served"]) l = some (.lst [.non, .bl true, .str "Up", .str "", .int 1, .ref a1, .ref a2, .ref a3, .str "served"]) := upd_same
    have sA := ((u1.trans u2).trans u3).trans u4
    generalize upd (upd (upd (upd H3 a1 (.lst [.str "up"])) a2 (.tup [.str "up"])) a3 (.dK [])) l (.lst [.non, .bl true, .str "Up", .str "", .int 1, .ref a1, .ref a2, .ref a3, .str "served"]) = H4 at sA e1 e2 e3 e4 ⊢
    have odd : ∀ v ∈ ([.non, .bl true, .str "Up", .str "", .int 1, .ref a1, .ref a2, .ref a3, .str "served"] : List V), OddC g0 H4 v := by
      intro v hv
      simp only [List.mem_cons, List.mem_nil_iff, or_false] at hv
      rcases hv with rfl | rfl | rfl | rfl | rfl | rfl | rfl | rfl | rfl
      · exact ⟨_, _, .non, .plain .non, by decide +kernel, rfl⟩
      · exact ⟨_, _, .bl _, .plain (.bl _), by decide +kernel, rfl⟩
      · exact ⟨_, _, .str _, .plain (.str _ (by decide +kernel)), by decide +kernel, by decide +kernel⟩
      · exact ⟨_, _, .str _, .plain (.str _ (by decide +kernel)), by decide +kernel, by decide +kernel⟩
      · exact ⟨_, _, .int _, .plain (.int _ (by decide +kernel)), by decide +kernel, rfl⟩
      · exact ⟨_, _, .lst e1, .lst e1 (.cons (.str "up" (by decide +kernel)) .nil) (by decide +kernel), ite_ok (by decide +kernel) (by decide +kernel), rfl⟩
      · exact ⟨_, _, .tup e2, .tup e2 (.cons (.str "up" (by decide +kernel)) .nil) (by decide +kernel), ite_ok (by decide +kernel) (by decide +kernel), rfl⟩
      · exact ⟨_, _, .dK e3, .dic e3, ite_ok (by decide +kernel) (by decide +kernel), rfl⟩
      · exact ⟨_, _, .str _, .plain (.str _ (by decide +kernel)), by decide +kernel, by decide +kernel⟩
    generalize ([.non, .bl true, .str "Up", .str "", .int 1, .ref a1, .ref a2, .ref a3, .str "served"] : List V) = its at e4 odd ⊢
    refine ⟨l, rfl, ⟨_, SqL.of e4⟩, ?_⟩
    refine for_list (K := K) (a := l) (xs := its) (fun i σ Hy => ∃ v1 : Option V, σ = [some (.ref p), some (.ref b), v1] ∧ LamX.ExtN H4 Hy ∧ LamX.Tabs (LT L) Hy) ⟨none, rfl, .refl _, tabs_same t3 sA⟩ (fun i σ Hy _ ⟨_, _, e, _⟩ => SqL.of (e _ _ e4 fun _ z => nomatch z)) ?_ ?_
    · rintro i v σ Hy hi ⟨v1, rfl, ey, ty⟩
      obtain ⟨n, z, kd, rg, zo, nw⟩ := (odd v (List.mem_of_getElem? hi)).ext ey
      refine ⟨ty, fun Hw exW txW E N hE hN => ?_⟩
      have PVw := ((PV3.same sA).ext ey).ext exW
      obtain ⟨dx2, r2, aw2, ah2, hpw⟩ := PVw.ob
      refine ⟨_, rfl, p, dx2, _, rfl, hpw, plF_no _ _ _ (by decide +kernel) (by decide +kernel) (by decide +kernel), _, rfl, p, av, ts, st, ph, ws, v, n, rfl, PVw, kd.ext exW, .inl ⟨nw, fun d H' hd s' => hE _ _ _ ⟨L.e_InvalidCall, d, rfl, rfl, .call v z hd ((rg.mv fun a o _ e n => exW a o e n).mv fun a o _ e _ => s' a o e) fun q H5 hq s5 nq => ?_⟩⟩⟩
      have x5 := exW.trans (ext_same (s'.trans s5))
      refine ⟨_, rfl, v, z, rfl, rg.mv fun a o _ e n => x5 a o e n, (by show 3 ≤ sizeLine; decide), fun q2 nq2 => ?_⟩
      have s6 := Same.upd (o := .lst [.str "call", .str z, .bl false]) nq2
      refine ⟨l3D "call" (.str z) false, l3D "call" (.str z) false, l3_dp (s6 _ _ hq) (.str _), l3_dp upd_same (.str _), l3_sh (by decide +kernel) (by rw [PyData.canLay0]; exact zo) (by simp [PyData.depth]), l3_sh (by decide +kernel) (by rw [PyData.canLay0]; exact zo) (by simp [PyData.depth]), ?_⟩
      rw [l3_eq (by decide +kernel) (by rw [PyData.canLay0]; exact zo) (by simp [PyData.depth])]
      refine ⟨_, rfl, iteF ⟨_, rfl, ey.trans (x5.trans (ext_same s6)), tabs_same txW ((s'.trans s5).trans s6)⟩⟩
    rintro σ H5 ⟨v1, rfl, e5, t5⟩
    have PV5 := (PV3.same sA).ext e5
    have c5 : LamX.ExtN H3 H5 := (ext_same sA).trans e5
    obtain ⟨dx5, r5, aw5, ah5, hp5⟩ := PV5.ob
    refine ⟨(by show 1 ≤ sizeLine; decide), fun b1 m1 => fun b2 m2 => ?_⟩
    have w1 := Same.upd (o := .lst [.int 1]) m1
    have w2 := Same.upd (o := .dK []) m2
    have f1 := w2 _ _ (upd_same (a := b1) (o := .lst [.int 1]) (H := H5))
    have f2 : upd (upd H5 b1 (.lst [.int 1])) b2 (.dK []) b2 = some (.dK []) := upd_same
    have w12 := w1.trans w2
    generalize upd (upd H5 b1 (.lst [.int 1])) b2 (.dK []) = H6 at w12 f1 f2 ⊢
    refine ⟨_, rfl, _, rfl, p, dx5, _, rfl, w12 _ _ hp5, plF_no _ _ _ (by decide +kernel) (by decide +kernel) (by decide +kernel), p, _, ts, st, ph, ws, rfl, PV5.same w12, fun gl H7 hgl s7 ngl => ?_⟩
    refine ⟨gl, _, rfl, .inl (SqL.of hgl), _, _, rfl, rfl, _, _, rfl, rfl, ⟨by decide, by decide, by decide⟩, (by show 8 ≤ sizeLine; decide), fun l2 nl2 => ?_⟩
    rw [List.length_map]
    obtain ⟨itu, hitu⟩ : ∃ itu : List V, itu = [.non, .bl true, .str "1", .ref b1, .ref b2, .int (-1), .int ((ws.length : Int) + 1), .int (10 ^ 20)] := ⟨_, rfl⟩
    obtain ⟨H8, hH8⟩ : ∃ H8 : Hp, H8 = upd H7 l2 (.lst itu) := ⟨_, rfl⟩
    have w3 : Same H7 H8 := by rw [hH8]; exact Same.upd nl2
    have g4 : H8 l2 = some (.lst itu) := by rw [hH8]; exact upd_same
    have g1 := w3 _ _ (s7 _ _ f1)
    have g2 := w3 _ _ (s7 _ _ f2)
    have sB := (w12.trans s7).trans w3
    have oddu : ∀ v ∈ itu, OddU ws.length H8 v := by
      intro v hv
      rw [hitu] at hv
      simp only [List.mem_cons, List.mem_nil_iff, or_false] at hv
      rcases hv with rfl | rfl | rfl | rfl | rfl | rfl | rfl | rfl
      · exact ⟨_, .non, rfl⟩
      · exact ⟨_, .bl _, rfl⟩
      · exact ⟨_, .str _, rfl⟩
      · exact ⟨_, .lst g1, rfl⟩
      · exact ⟨_, .dK g2, rfl⟩
      · exact ⟨_, .int _, by simp [isI, toI]⟩
      · refine ⟨_, .int _, ?_⟩
        show (true && (decide (0 ≤ (ws.length : Int) + 1) && decide ((ws.length : Int) + 1 ≤ (ws.length : Int)))) = false
        rw [decide_eq_false (show ¬ ((ws.length : Int) + 1 ≤ (ws.length : Int)) by omega), Bool.and_false, Bool.and_false]
      · refine ⟨_, .int _, ?_⟩
        show (true && (decide (0 ≤ (10 : Int) ^ 20) && decide ((10 : Int) ^ 20 ≤ (ws.length : Int)))) = false
        have e20 : (10 : Int) ^ 20 = 100000000000000000000 := by decide +kernel
        rw [e20, decide_eq_false (show ¬ ((100000000000000000000 : Int) ≤ (ws.length : Int)) by omega), Bool.and_false, Bool.and_false]
    refine ⟨l2, rfl, ⟨itu, SqL.of (by rw [hH8, hitu] at g4; rw [hitu]; exact g4)⟩, ?_⟩
    refine for_list (K := K) (a := l2) (xs := itu) (fun i σ Hy => ∃ v1 : Option V, σ = [some (.ref p), some (.ref b), v1] ∧ LamX.ExtN H8 Hy ∧ LamX.Tabs (LT L) Hy) ⟨v1, rfl, by rw [hH8, hitu]; exact .refl _, by have t := tabs_same t5 sB; rw [hH8, hitu] at t; exact t⟩ (fun i σ Hy _ ⟨_, _, e, _⟩ => SqL.of (e _ _ g4 fun _ z => nomatch z)) ?_ ?_
    · rintro i v σ Hy hi ⟨v1, rfl, ey, ty⟩
      obtain ⟨n, kd, bad⟩ := (oddu v (List.mem_of_getElem? hi)).ext ey
      refine ⟨ty, fun Hw exW txW E N hE hN => ?_⟩
      have PVw := ((PV5.same sB).ext ey).ext exW
      obtain ⟨dx2, r2, aw2, ah2, hpw⟩ := PVw.ob
      refine ⟨_, rfl, p, dx2, _, rfl, hpw, plF_no _ _ _ (by decide +kernel) (by decide +kernel) (by decide +kernel), _, rfl, p, av, ts, st, ph, ws, v, n, rfl, PVw, kd.ext exW, bad, fun d H' hd s' => hE _ _ _ ⟨L.e_InvalidBound, d, rfl, rfl, .bound _ hd fun q H5 hq s5 nq => ?_⟩⟩
      have x5 := exW.trans (ext_same (s'.trans s5))
      refine ⟨(by show 3 ≤ sizeLine; decide), fun q2 nq2 => ?_⟩
      have s6 := Same.upd (o := .lst [.str "bound", .str "count", .bl false]) nq2
      refine ⟨l3D "bound" (.str "count") false, l3D "bound" (.str "count") false, l3_dp (s6 _ _ hq) (.str _), l3_dp upd_same (.str _), l3_sh (by decide +kernel) (by decide +kernel) (by simp [PyData.depth]), l3_sh (by decide +kernel) (by decide +kernel) (by simp [PyData.depth]), ?_⟩
      rw [l3_eq (by decide +kernel) (by decide +kernel) (by simp [PyData.depth])]
      refine ⟨_, rfl, iteF ⟨_, rfl, ey.trans (x5.trans (ext_same s6)), tabs_same txW ((s'.trans s5).trans s6)⟩⟩
    rintro σ H9 ⟨v9, rfl, e9, t9⟩
    have PV9 := (PV5.same sB).ext e9
    have c9 : LamX.ExtN H3 H9 := (c5.trans (ext_same sB)).trans e9
    obtain ⟨dx9, r9, aw9, ah9, hp9⟩ := PV9.ob
    refine ⟨_, rfl, p, dx9, _, rfl, hp9, plF_no _ _ _ (by decide +kernel) (by decide +kernel) (by decide +kernel), p, av, ts, st, ph, ws, rfl, PV9, fun sl2 ys2 Ha hsl2 hys2 sa nsl2 => ?_⟩
    refine ⟨_, rfl, p, dx9, _, rfl, sa _ _ hp9, plF_no _ _ _ (by decide +kernel) (by decide +kernel) (by decide +kernel), p, _, ts, st, ph, ws, rfl, PV9.same sa, fun ll2 Hb hll2 sb nll2 => ?_⟩
    have sab := sa.trans sb
    refine ⟨_, rfl, p, dx9, _, rfl, sab _ _ hp9, plF_no _ _ _ (by decide +kernel) (by decide +kernel) (by decide +kernel), p, _, ts, st, ph, ws, rfl, PV9.same sab, wl, (by show 3 ≤ sizeLine; decide), fun bb nbb => ?_⟩
    have sc := Same.upd (o := .lst [.ref sl2, .ref ll2, .int (ph + (ws.length : Int) * st)]) nbb
    have cz := c9.trans (ext_same (sab.trans sc))
    refine ⟨_, rfl, befD ts st ph ws, befD ts st ph ws, .lst (SqL.of upd_same) (.cons (Sts.dpl (sc _ _ (sb _ _ hsl2)) ((hys2.same sb).same sc)) (.cons (Dp.ws (sc _ _ hll2)) (.cons (.int _) .nil))), .lst (SqL.of (cz _ _ hb3 fun _ z => nomatch z)) (.cons (Sts.dpl (cz _ _ hsl3 fun _ z => nomatch z) (hys3.tp fun b us e => cz _ _ e fun _ z => nomatch z)) (.cons (Dp.ws (cz _ _ hll3 fun _ z => nomatch z)) (.cons (.int _) .nil))), bef_sh _ _ _ _, bef_sh _ _ _ _, ?_⟩
    rw [bef_eq]
    exact k _ ((ext_same s13).trans cz) (tabs_same t9 (sab.trans sc))
theorem ok_wcallsright (T : LX K mg L) (B : TX base mg L) : Cal P w K mg base "_law_calls_right" 12 L.f__law_calls_right ["_law_game"] (spCalls L) := T.d__law_calls_right.cal fun fd F => fn_wcallsright T B F
end
/-! ### the law's own draws -/
/-- a source of draws at a: at most n were drawn -/
def Src (H : Hp) (a : Addr) (n : Nat) : Prop := ∃ x y z : Int, H a = some (.lst [.int x, .int y, .int z]) ∧ 0 ≤ x ∧ 0 ≤ y ∧ y < 2147483647 ∧ 0 ≤ z ∧ z ≤ n
theorem Src.mono {H : Hp} {a : Addr} {n m : Nat} (h : Src H a n) (l : n ≤ m) : Src H a m := by
  obtain ⟨x, y, z, e, h1, h2, h3, h4, h5⟩ := h
  exact ⟨x, y, z, e, h1, h2, h3, h4, by omega⟩
theorem Src.same {H H' : Hp} {a : Addr} {n : Nat} (h : Src H a n) (s : Same H H') : Src H' a n := by
  obtain ⟨x, y, z, e, r⟩ := h
  exact ⟨x, y, z, s _ _ e, r⟩
theorem Src.has {H : Hp} {a : Addr} {n : Nat} (h : Src H a n) : ∃ xs, H a = some (.lst xs) := by
  obtain ⟨x, y, z, e, r⟩ := h
  exact ⟨_, e⟩
def spSrcOf : Sp := fun vs H Q _ => ∃ c, vs = [.int c] ∧ ∀ a H', H a = none → Same H H' → Src H' a 0 → Q (.ref a) H'
def spNext : Sp := fun vs H Q _ => ∃ (a : Addr) (m : Int) (n : Nat), vs = [.ref a, .int m] ∧ 0 < m ∧ m.natAbs < 2 ^ 1100 ∧ Src H a n ∧ n ≤ 900000 ∧ ∀ (r : Int) H', 0 ≤ r → r < m → Src H' a (n + 1101) → Kp a H H' → Q (.int r) H'
def spOne : Sp := fun vs H Q _ => ∃ (a l : Addr) (xs : List V) (n : Nat), vs = [.ref a, .ref l] ∧ a ≠ l ∧ H l = some (.lst xs) ∧ 0 < xs.length ∧ xs.length ≤ 100000 ∧ Src H a n ∧ n ≤ 900000 ∧ ∀ v H', v ∈ xs → Src H' a (n + 1101) → Kp a H H' → Q v H'
def spCell (K : PySem.W.Frag) : Sp := fun vs H Q _ => ∃ (a : Addr) (ns : List Int) (k : Int), vs = [.ref a, .int k] ∧ SqL K H a (ns.map V.int) ∧ 0 ≤ k ∧ ∀ z, Q (.int z) H
def primes : List V := [.int 2147483647, .int 2147483629, .int 2147483587, .int 2147483579, .int 2147483563, .int 2147483549, .int 2147483543]
theorem prime_at (i : Int) (h0 : 0 ≤ i) (h7 : i < 7) : ∃ p : Int, atI primes i = some (.int p) ∧ 0 < p ∧ p ≤ 2147483647 := by
  have : i = 0 ∨ i = 1 ∨ i = 2 ∨ i = 3 ∨ i = 4 ∨ i = 5 ∨ i = 6 := by omega
  rcases this with rfl | rfl | rfl | rfl | rfl | rfl | rfl <;> exact ⟨_, rfl, by decide, by decide⟩
theorem atI_of {α : Type} {xs : List α} {i : Int} (h0 : 0 ≤ i) (h1 : i < xs.length) : ∃ v, atI xs i = some v ∧ v ∈ xs := by
  have hj : i.toNat < xs.length := by omega
  refine ⟨xs[i.toNat], ?_, List.getElem_mem _⟩
  have e : ((i.toNat : Nat) : Int) = i := by omega
  have := atI_nat (xs := xs) (j := i.toNat) (v := xs[i.toNat]) (List.getElem?_eq_getElem hj)
  rwa [e] at this
section
variable {P : Program} {w : World} {K : PySem.W.Frag} {mg : Str → Option Value} {base : Heap} {L : LA}
theorem sc_srcof : FnScope ["_law_cell"] ["_law_cell"] (defScope st__law_source_of) := ⟨rfl, rfl, rfl, by decide +kernel, rfl, by decide +kernel, by decide +kernel⟩
theorem ok_wsourceof (T : LX K mg L) : Cal P w K mg base "_law_source_of" 1 L.f__law_source_of ["_law_cell"] spSrcOf := T.d__law_source_of.cal fun fd F => by
  refine F.ok sc_srcof (fun vs H Q E h => ?_) (fun cdv A outer s H vs Q E hr h => ?_)
  · obtain ⟨c, rfl, _⟩ := h
    rfl
  · obtain ⟨c, rfl, k⟩ := h
    refine ⟨_, pss_one (ps_ret (pe_lst (pa_cons (pe_op op_mul (pv 0) (pe_callTy call_int1 (by rfl) T.b_int (by decide +kernel) (pa_cons (pe_cmpR op_ge (pv 0) (pe_op op_pow pe_int pe_int) (nomark _)) pa_nil)))
      (pa_cons (pe_op op_mod (pe_callTy call_int1 (by rfl) T.b_int (by decide +kernel) (pa_cons (pv 0) pa_nil)) pe_int) (pa_cons pe_int pa_nil))))), ?_⟩
    refine ⟨_, rfl, _, rfl, _, _, rfl, rfl, ⟨by decide, by decide, by decide⟩, _, _, rfl, rfl, .inr ⟨_, rfl, _, _, rfl, rfl, ?_, ?_⟩⟩
    · refine .inr ?_
      split <;> decide
    · refine ⟨_, rfl, .inl ⟨_, rfl, _, _, rfl, rfl, (by show (0 : Int) < 2147483647; decide), ?_⟩⟩
      refine ⟨(by show 3 ≤ sizeLine; decide), fun l hl => ?_⟩
      refine k l _ hl (Same.upd hl) ⟨_, _, _, upd_same, ?_, Int.emod_nonneg _ (by decide), Int.emod_lt_of_pos _ (by decide), Int.le_refl _, Int.le_refl _⟩
      by_cases hc : (10 : Int) ^ (18 : Int).toNat ≤ c
      · rw [decide_eq_true hc, if_pos rfl, Int.mul_one]
        exact Int.le_trans (by decide) hc
      · rw [decide_eq_false hc, if_neg Bool.false_ne_true, Int.mul_zero]
        exact Int.le_refl _
theorem sc_draw : FnScope ["_law_source", "_law_bound", "_law_result", "_law_reach", "_law_prime", "_law_mixed"] ["_law_source", "_law_bound"] (defScope st__law_draw) := ⟨rfl, rfl, rfl, by decide +kernel, rfl, by decide +kernel, by decide +kernel⟩
theorem ok_wdraw (T : LX K mg L) : Cal P w K mg base "_law_draw" 1 L.f__law_draw ["_law_source", "_law_bound"] spNext := T.d__law_draw.cal fun fd F => by
  refine F.ok sc_draw (fun vs H Q E h => ?_) (fun cdv A outer s H vs Q E hr h => ?_)
  · obtain ⟨a, m, n, rfl, _⟩ := h
    rfl
  · obtain ⟨a, m, n, rfl, m0, m1, ⟨x, y, z, ha, x0, y0, y1, z0, z1⟩, hn, k⟩ := h
    have nd := sc_draw.nd
    refine ⟨_, pss_cons (ps_if (pt_cmpR op_gt (pe_ix ix_list (pv 0) pe_int (fun _ _ => rfl)) pe_int (nomark _))
        (pss_cons (ps_set (i := 2) nd rfl (Or.inl rfl) (pe_op op_mod (pe_callTy call_int1 (by rfl) T.b_int (by decide +kernel) (pa_cons (pe_ix ix_list (pv 0) pe_int (fun _ _ => rfl)) pa_nil)) (pv 1)))
        (pss_cons (ps_asg (pe_op op_fdivW (pe_ix ix_list (pv 0) pe_int (fun _ _ => rfl)) (pv 1)) (pg_sub (pv 0) pe_int set_list))
        (pss_one (ps_ret (pv 2))))) pss_nil)
      (pss_cons (ps_asg (pe_tup (pa_cons pe_int (pa_cons pe_int pa_nil))) (pg_tup rfl (pgs_cons (pg_name (i := 2) nd rfl (Or.inl rfl)) (pgs_cons (pg_name (i := 3) nd rfl (Or.inl rfl)) pgs_nil))))
      (pss_cons (ps_while PassesOwn.never (pt_cmpR op_lt (pv 3) (pv 1) (nomark _))
        (pss_cons (ps_asg (pe_op op_add (pe_ix ix_list (pv 0) pe_int (fun _ _ => rfl)) pe_int) (pg_sub (pv 0) pe_int set_list))
        (pss_cons (ps_set (i := 4) nd rfl (Or.inl rfl) (pe_ix ix_list (pe_lst (pa_cons pe_int (pa_cons pe_int (pa_cons pe_int (pa_cons pe_int (pa_cons pe_int (pa_cons pe_int (pa_cons pe_int pa_nil))))))))
            (pe_op op_mod (pe_callTy call_int1 (by rfl) T.b_int (by decide +kernel) (pa_cons (pe_ix ix_list (pv 0) pe_int (fun _ _ => rfl)) pa_nil)) pe_int) (fun _ _ => rfl)))
        (pss_cons (ps_set (i := 5) nd rfl (Or.inl rfl) (pe_op op_mod (pe_callTy call_int1 (by rfl) T.b_int (by decide +kernel) (pa_cons
            (pe_op op_pow (pe_op op_add (pe_op op_add (pe_ix ix_list (pv 0) pe_int (fun _ _ => rfl)) (pe_op op_mul pe_int (pe_ix ix_list (pv 0) pe_int (fun _ _ => rfl)))) pe_int) pe_int) pa_nil)) (pv 4)))
        (pss_cons (ps_set (i := 5) nd rfl (Or.inl rfl) (pe_op op_mod (pe_callTy call_int1 (by rfl) T.b_int (by decide +kernel) (pa_cons
            (pe_op op_mul (pe_op op_add (pv 5) (pe_ix ix_list (pv 0) pe_int (fun _ _ => rfl))) (pe_op op_add (pe_op op_fdiv (pv 5) pe_int) pe_int)) pa_nil)) (pv 4)))
        (pss_one (ps_par (i := 2) (j := 3) (by rfl) nd rfl rfl (by decide) rfl rfl (pa_cons (pe_op op_add (pe_op op_mul (pv 2) pe_int) (pe_op op_fdiv (pv 5) pe_int)) (pa_cons (pe_op op_mul (pv 3) pe_int) pa_nil)) (by rfl))))))))
      (pss_one (ps_ret (pe_op op_mod (pe_callTy call_int1 (by rfl) T.b_int (by decide +kernel) (pa_cons (pv 2) pa_nil)) (pv 1)))))), ?_⟩
    refine ⟨_, rfl, _, _, _, _, rfl, rfl, SqL.of ha, rfl, _, _, rfl, rfl, _, rfl, ?_⟩
    refine ite2 (fun c => ?_) (fun c => ?_)
    · refine ⟨_, rfl, _, _, _, _, rfl, rfl, SqL.of ha, rfl, .inl ⟨_, rfl, _, rfl, _, _, rfl, rfl, m0, ?_⟩⟩
      refine ⟨_, rfl, _, _, _, _, rfl, rfl, SqL.of ha, rfl, _, rfl, _, _, rfl, rfl, wide_div m0 m1 (by decide) (by decide), ?_⟩
      refine ⟨_, rfl, _, _, _, 0, rfl, rfl, ha, rfl, ?_⟩
      refine ⟨_, rfl, ?_⟩
      refine k _ _ (Int.emod_nonneg _ (by omega)) (Int.emod_lt_of_pos _ m0) ⟨_, _, _, upd_same, Int.ediv_nonneg x0 (by omega), y0, y1, z0, by omega⟩ Kp.upd
    · refine ⟨(by show 2 ≤ sizeLine; decide), fun t1 ht1 => ⟨t1, _, rfl, SqT.of upd_same, rfl, _, _, rfl, _, _, rfl, rfl, ?_⟩⟩
      have s1 : Same H (upd H t1 (.tup [.int 0, .int 1])) := Same.upd ht1
      -- the mixing loop: after q turns the reach is at least 2 ^ q
      refine ⟨fun d σ H2 => ∃ (q : Nat) (v4 v5 : Option V) (res reach : Int), d = 1101 - q ∧ σ = [some (.ref a), some (.int m), some (.int res), some (.int reach), v4, v5] ∧ q ≤ 1101 ∧ ((2 : Int) ^ q ≤ reach ∧ 1 ≤ reach) ∧ H2 a = some (.lst [.int x, .int y, .int (z + q)]) ∧ Kp a H H2,
        ⟨1101, 0, none, none, 0, 1, rfl, rfl, by omega, ⟨by decide, by decide⟩, by rw [s1 _ _ ha]; simp, Kp.of s1⟩, ?_⟩
      rintro d σ H2 ⟨q, v4, v5, res, reach, rfl, rfl, hq, ⟨hre, hr1⟩, ha2, kp2⟩
      refine ⟨_, rfl, _, rfl, _, _, rfl, rfl, _, rfl, ?_⟩
      refine ite2 (fun c2 => ?_) (fun c2 => ?_)
      · have c2' : reach < m := of_decide_eq_true c2
        have hq2 : q < 1100 := by
          by_cases hge : 1100 ≤ q
          · have h1 : (2 : Nat) ^ 1100 ≤ 2 ^ q := Nat.pow_le_pow_right (by decide) hge
            have h2 : ((2 ^ q : Nat) : Int) ≤ reach := by rw [Int.natCast_pow]; exact hre
            generalize 2 ^ q = w at h1 h2
            generalize 2 ^ 1100 = w2 at h1 m1
            omega
          · omega
        refine ⟨fun σ' H' => ∃ (v4 v5 : Option V) (res reach : Int), σ' = [some (.ref a), some (.int m), some (.int res), some (.int reach), v4, v5] ∧ ((2 : Int) ^ (q + 1) ≤ reach ∧ 1 ≤ reach) ∧ H' a = some (.lst [.int x, .int y, .int (z + (q + 1 : Nat))]) ∧ Kp a H H', ?_, ?_⟩
        · rintro σ' H' ⟨v4, v5, res, reach, rfl, h1, h2, h3⟩
          exact ⟨1101 - (q + 1), by omega, q + 1, v4, v5, res, reach, rfl, rfl, by omega, h1, h2, h3⟩
        generalize hzq : z + (q : Int) = zq at ha2
        have zb : 0 ≤ zq ∧ zq ≤ 902000 := by omega
        obtain ⟨zb0, zb1⟩ := zb
        refine ⟨_, rfl, _, _, _, _, rfl, rfl, SqL.of ha2, rfl, _, _, rfl, rfl, ?_⟩
        refine ⟨_, rfl, _, _, _, 2, rfl, rfl, ha2, rfl, ?_⟩
        have ha3 : ∀ b o, b ≠ a → (upd (upd H2 a (.lst [.int x, .int y, .int (zq + 1)])) b o) a = some (.lst [.int x, .int y, .int (zq + 1)]) := fun b o n => by rw [upd_ne n.symm, upd_same]
        refine ⟨(by show 7 ≤ sizeLine; decide), fun l hl => ?_⟩
        have hla : l ≠ a := fun e => by
          subst e
          have : (upd H2 l (.lst [.int x, .int y, .int (zq + 1)])) l = none := hl
          rw [upd_same] at this
          cases this
        have hA := ha3 l (.lst primes) hla
        refine ⟨_, rfl, _, _, _, _, rfl, rfl, SqL.of hA, rfl, .inl ⟨_, rfl, _, _, rfl, rfl, (by show (0 : Int) < 7; decide), ?_⟩⟩
        obtain ⟨p, hp, p0, p1⟩ := prime_at ((zq + 1) % 7) (Int.emod_nonneg _ (by decide)) (Int.emod_lt_of_pos _ (by decide))
        refine ⟨l, primes, _, _, rfl, rfl, SqL.of upd_same, hp, ?_⟩
        refine ⟨_, rfl, _, _, _, _, rfl, rfl, SqL.of hA, rfl, _, rfl, _, _, _, _, rfl, rfl, SqL.of hA, rfl, _, _, rfl, rfl, .inl (by decide), _, _, rfl, rfl, _, _, rfl, rfl, _, _, rfl, rfl, ⟨by decide, by decide, ?_⟩, .inl ⟨_, rfl, _, rfl, _, _, rfl, rfl, p0, ?_⟩⟩
        · omega
        have f0 : 0 ≤ (y + 7919 * (zq + 1) + 1) ^ (5 : Int).toNat % p := Int.emod_nonneg _ (by omega)
        have f1 : (y + 7919 * (zq + 1) + 1) ^ (5 : Int).toNat % p < p := Int.emod_lt_of_pos _ p0
        refine ⟨_, rfl, _, rfl, _, _, _, _, rfl, rfl, SqL.of hA, rfl, _, _, rfl, rfl, _, rfl, _, _, rfl, rfl, ⟨by decide, by decide⟩, _, _, rfl, rfl, _, _, rfl, rfl, .inl ?_, .inl ⟨_, rfl, _, rfl, _, _, rfl, rfl, p0, ?_⟩⟩
        · omega
        refine ⟨_, rfl, _, _, rfl, rfl, .inr (by decide), _, rfl, _, _, rfl, rfl, ⟨by decide, by decide⟩, _, _, rfl, rfl, _, rfl, _, _, rfl, rfl, .inr (by decide), _, _, rfl, ?_⟩
        refine ⟨_, _, _, _, rfl, ⟨?_, ?_⟩, ?_, kp2.trans (Kp.upd.trans (Kp.of (Same.upd hl)))⟩
        · have e2 : (2 : Int) ^ (q + 1) = 2 ^ q * 2 := Int.pow_succ 2 q
          rw [e2]
          generalize (2 : Int) ^ q = w at hre
          show w * 2 ≤ reach * 300000007
          omega
        · show 1 ≤ reach * 300000007
          omega
        · have e3 : zq + 1 = z + ((q + 1 : Nat) : Int) := by omega
          rw [← e3]
          exact hA
      · refine ⟨_, rfl, .inl ⟨_, rfl, _, rfl, _, _, rfl, rfl, m0, ?_⟩⟩
        exact k _ _ (Int.emod_nonneg _ (by omega)) (Int.emod_lt_of_pos _ m0) ⟨_, _, _, ha2, x0, y0, y1, by omega, by omega⟩ kp2
theorem sc_choice : FnScope ["_law_source", "_law_options"] ["_law_source", "_law_options"] (defScope st__law_choice) := ⟨rfl, rfl, rfl, by decide +kernel, rfl, by decide +kernel, by decide +kernel⟩
theorem ok_wchoice (T : LX K mg L) : Cal P w K mg base "_law_choice" 2 L.f__law_choice ["_law_source", "_law_options"] spOne := T.d__law_choice.cal fun fd F => by
  have G : Cal P w K mg base "_law_draw" 1 L.f__law_draw ["_law_source", "_law_bound"] spNext := ok_wdraw T
  refine F.ok sc_choice (fun vs H Q E h => ?_) (fun cdv A outer s H vs Q E hr h => ?_)
  · obtain ⟨a, l, xs, n, rfl, _⟩ := h
    rfl
  · obtain ⟨a, l, xs, n, rfl, hal, hl, x0, x1, hs, hn, k⟩ := h
    refine ⟨_, pss_one (ps_ret (pe_ix ix_list (pv 1) (pe_c G hr rfl (pa_cons (pv 0) (pa_cons (pe_callB call_len_seq (by rfl) T.b_len PySem.boot_len (pa_cons (pv 1) pa_nil)) pa_nil))) (fun _ _ => rfl))), ?_⟩
    refine ⟨_, rfl, _, rfl, _, rfl, l, xs, rfl, .inl (SqL.of hl), a, _, n, rfl, by omega, ?_, hs, hn, fun r H' r0 r1 hs' hk => ?_⟩
    · exact Nat.lt_of_le_of_lt (show ((xs.length : Int)).natAbs ≤ 100000 by omega) (by decide)
    · obtain ⟨v, hv, hm⟩ := atI_of (xs := xs) r0 r1
      exact ⟨l, xs, r, v, rfl, rfl, SqL.of (hk _ _ hal.symm hl), hv, k v H' hm hs' hk⟩
theorem sc_cellat : FnScope ["_law_script", "_law_place"] ["_law_script", "_law_place"] (defScope st__law_cell_at) := ⟨rfl, rfl, rfl, by decide +kernel, rfl, by decide +kernel, by decide +kernel⟩
theorem ok_wcellat (T : LX K mg L) : Cal P w K mg base "_law_cell_at" 1 L.f__law_cell_at ["_law_script", "_law_place"] (spCell K) := T.d__law_cell_at.cal fun fd F => by
  refine F.ok sc_cellat (fun vs H Q E h => ?_) (fun cdv A outer s H vs Q E hr h => ?_)
  · obtain ⟨a, ns, z, rfl, _⟩ := h
    rfl
  · obtain ⟨a, ns, i, rfl, hS, i0, k⟩ := h
    refine ⟨_, pss_cons (ps_if (pt_cmpR op_lt (pv 1) (pe_callB call_len_seq (by rfl) T.b_len PySem.boot_len (pa_cons (pv 0) pa_nil)) (nomark _)) (pss_one (ps_ret (pe_ix ix_list (pv 0) (pv 1) (fun _ _ => rfl)))) pss_nil) (pss_one (ps_ret pe_int)), ?_⟩
    refine ⟨_, rfl, _, rfl, a, _, rfl, .inl hS, _, _, rfl, rfl, _, rfl, ?_⟩
    refine ite2 (fun c => ?_) (fun c => ?_)
    · have c' : i < ((ns.map V.int).length : Nat) := of_decide_eq_true c
      obtain ⟨v, hv, hm⟩ := atI_of (xs := ns.map V.int) i0 c'
      obtain ⟨z, _, rfl⟩ := List.mem_map.mp hm
      exact ⟨_, rfl, _, rfl, a, _, _, _, rfl, rfl, hS, hv, k z⟩
    · exact k 0
end
theorem draw_gen {P : Program} {w : World} {mg : Str → Option Value} {t : TA} {σ : L2.St} {H : Hp} {Q : VK} {a : Addr} {n : Nat} {ns : List Int} {hi : Int} {j : Nat} (σ0 : σ[j]? = some (some (.ref a))) (hs : Src H a n) (hn : n ≤ 898000) (ht : ∀ R : List V → Hp → Prop, R (ns.map V.int) H → t σ H R)
    (h0 : 0 < ns.length) (h1 : ns.length ≤ 1000) (hb : ∀ m ∈ ns, 0 < m ∧ m ≤ hi) (hh : hi.natAbs < 2 ^ 1100) (k : ∀ (r : Int) H', 0 ≤ r → r < hi → (∃ m ∈ ns, r < m) → Src H' a (n + 2202) → Kp a H H' → Q (.int r) H') :
    tCall spNext [] E0 (tCons (tVar j) (tCons (tCall spOne [] E0 (tCons (tVar j) (tCons (tLst t) tNil))) tNil)) σ H Q := by
  obtain ⟨ys, hy⟩ := hs.has
  refine ⟨_, σ0, _, σ0, ht _ ⟨(by rw [List.length_map]; exact Nat.le_trans h1 (by decide)), fun l hl => ?_⟩⟩
  have hal : a ≠ l := ne_of_none hy hl
  refine ⟨a, l, ns.map V.int, n, rfl, hal, upd_same, (by rw [List.length_map]; exact h0), (by rw [List.length_map]; omega), hs.same (Same.upd hl), by omega, fun v H1 hv hs1 k1 => ?_⟩
  obtain ⟨m, hm, rfl⟩ := List.mem_map.mp hv
  obtain ⟨m0, m1⟩ := hb m hm
  refine ⟨a, m, n + 1101, rfl, m0, Nat.lt_of_le_of_lt (show m.natAbs ≤ hi.natAbs by omega) hh, hs1, by omega, fun r H2 r0 r1 hs2 k2 => ?_⟩
  exact k r H2 r0 (by omega) ⟨m, hm, r1⟩ hs2 ((Kp.of (Same.upd hl)).trans (k1.trans k2))
theorem choice_gen {P : Program} {w : World} {mg : Str → Option Value} {t : TA} {σ : L2.St} {H : Hp} {Q : VK} {a : Addr} {n : Nat} {ns : List Int} {j : Nat} (σ0 : σ[j]? = some (some (.ref a))) (hs : Src H a n) (hn : n ≤ 898000) (ht : ∀ R : List V → Hp → Prop, R (ns.map V.int) H → t σ H R)
    (h0 : 0 < ns.length) (h1 : ns.length ≤ 1000) (k : ∀ (m : Int) H', m ∈ ns → Src H' a (n + 1101) → Kp a H H' → Q (.int m) H') :
    tCall spOne [] E0 (tCons (tVar j) (tCons (tLst t) tNil)) σ H Q := by
  obtain ⟨ys, hy⟩ := hs.has
  refine ⟨_, σ0, ht _ ⟨(by rw [List.length_map]; exact Nat.le_trans h1 (by decide)), fun l hl => ?_⟩⟩
  have hal : a ≠ l := ne_of_none hy hl
  refine ⟨a, l, ns.map V.int, n, rfl, hal, upd_same, (by rw [List.length_map]; exact h0), (by rw [List.length_map]; omega), hs.same (Same.upd hl), by omega, fun v H1 hv hs1 k1 => ?_⟩
  obtain ⟨m, hm, rfl⟩ := List.mem_map.mp hv
  exact k m H1 hm hs1 ((Kp.of (Same.upd hl)).trans k1)

/-! ### sources kept -/
theorem src_kp {H H' : Hp} {s l : Addr} {n : Nat} (k : Kp l H H') (h : s ≠ l) (S : Src H s n) : Src H' s n := by
  obtain ⟨x, y, z, e, r⟩ := S
  exact ⟨x, y, z, k _ _ h e, r⟩
/-! ### rows drawn -/
def spSpecs : Sp := fun vs H Q _ => ∃ (s : Addr) (n : Nat) (m f : Int), vs = [.ref s, .int m, .int f] ∧ Src H s n ∧ n ≤ 500000 ∧ 0 ≤ m ∧ m ≤ 12 ∧ 4 ≤ f ∧ f ≤ 1000000 ∧
  ∀ l xs ts H', H' l = some (.lst xs) → Brs H' xs ts → (∀ t ∈ ts, OkT t) → (ts.length : Int) ≤ m → Src H' s (n + 60000) → Kp s H H' → H l = none → Q (.ref l) H'
section
variable {P : Program} {w : World} {K : PySem.W.Frag} {mg : Str → Option Value} {base : Heap} {L : LA}
abbrev N_wspecs : List Str := ["_law_source", "_law_most", "_law_far", "_law_found", "_law_repeat", "_law_wait"]
theorem sc_wspecs : FnScope N_wspecs ["_law_source", "_law_most", "_law_far"] (defScope st__law_specs) := ⟨rfl, rfl, rfl, by decide +kernel, rfl, by decide +kernel, by decide +kernel⟩
theorem fn_wspecs (T : LX K mg L) {fd : FuncData} (F : Fun K "_law_specs" "_law_specs" st__law_specs L.f__law_specs fd) : FnOk P w K mg base CX0 3 L.f__law_specs fd ["_law_source", "_law_most", "_law_far"] (spSpecs) := by
  have G_wdraw := ok_wdraw (P := P) (w := w) (base := base) T
  have G_wchoice := ok_wchoice (P := P) (w := w) (base := base) T
  have nd := sc_wspecs.nd
  refine F.ok sc_wspecs (fun vs H Q E h => ?_) (fun cdv A outer S H vs Q E hr h => ?_)
  · obtain ⟨s, n, m, f, rfl, _⟩ := h
    rfl
  · obtain ⟨s, n, m, f, rfl, src, hn, m0, m1, f0, f1, k⟩ := h
    refine ⟨_, (pss_cons (ps_set (i := 3) nd rfl (Or.inl rfl) (pe_lst pa_nil))
       (pss_cons (ps_for PassesOwn.never rfl (pi_range1 rfl T.b_range (pa_cons (pe_c G_wdraw (hr.mono (by decide)) rfl (pa_cons (pv 0) (pa_cons (pe_op op_add (pv 1) pe_int) pa_nil))) pa_nil)) (pg_name (i := 4) nd rfl (Or.inl rfl)) (pss_cons (ps_set (i := 5) nd rfl (Or.inl rfl) (pe_op op_add pe_int (pe_c G_wdraw (hr.mono (by decide)) rfl (pa_cons (pv 0) (pa_cons (pe_c G_wchoice (hr.mono (by decide)) rfl (pa_cons (pv 0) (pa_cons (pe_lst (pa_cons pe_int (pa_cons (pv 2) pa_nil))) pa_nil))) pa_nil)))))
       (pss_one (ps_expr (pe_bm PySem.F.plainAttrs_list PySem.F.slot_list_append PySem.F.type_list_append mt_append (pv 3) (pa_cons (pe_tup (pa_cons (pe_op op_add pe_int (pe_c G_wdraw (hr.mono (by decide)) rfl (pa_cons (pv 0) (pa_cons pe_int pa_nil)))) (pa_cons (pv 5) (pa_cons (pe_op op_add pe_int (pe_c G_wdraw (hr.mono (by decide)) rfl (pa_cons (pv 0) (pa_cons pe_int pa_nil)))) pa_nil)))) pa_nil))))))
       (pss_one (ps_ret (pv 3))))), ?_⟩
    obtain ⟨ys, hys⟩ := src.has
    refine ⟨(by show 0 ≤ sizeLine; decide), fun l1 hl1 => ?_⟩
    have s1 := Same.upd (o := .lst []) hl1
    have nls : s ≠ l1 := ne_of_none hys hl1
    refine ⟨_, rfl, _, rfl, _, _, rfl, rfl, s, m + 1, n, rfl, by omega, Nat.lt_of_le_of_lt (show (m + 1).natAbs ≤ 13 by omega) (by decide +kernel), src.same s1, by omega, fun q H1 q0 q1 src1 k1 => ?_⟩
    refine ⟨q, rfl, by omega, by omega, ?_⟩
    refine for_range (lo := 0) (n := q.toNat) (fun j σ H2 => ∃ v4 v5 : Option V, ∃ zs ts, σ = [some (.ref s), some (.int m), some (.int f), some (.ref l1), v4, v5] ∧ H2 l1 = some (.lst zs) ∧ Brs H2 zs ts ∧ (∀ t ∈ ts, OkT t) ∧ zs.length ≤ j ∧ Kp s H H2 ∧ Src H2 s (n + 1101 + 4404 * j))
      ⟨none, none, [], [], rfl, k1 _ _ nls.symm upd_same, .nil, fun t ht => (nomatch ht), Nat.le_refl _, (Kp.of s1).trans k1, src1⟩ ?_ ?_
    · rintro j σ H2 hj ⟨v4, v5, zs, ts, rfl, h2, hb, ok, zl, k2, src2⟩
      refine draw_gen (P := P) (w := w) (mg := mg) (a := s) (n := n + 1101 + 4404 * j) (ns := [4, f]) (hi := f) rfl src2 (by omega) (fun R h => ⟨_, rfl, h⟩) (by simp) (by simp) (fun m hm => ?_) (Nat.lt_of_le_of_lt (show f.natAbs ≤ 1000000 by omega) (by decide +kernel)) fun wt H3 wt0 wt1 _ src3 k3 => ⟨_, _, rfl, rfl, ?_⟩
      · simp only [List.mem_cons, List.mem_nil_iff, or_false] at hm
        rcases hm with rfl | rfl <;> exact ⟨by omega, by omega⟩
      have h23 := k3 _ _ nls.symm h2
      refine ⟨_, rfl, .inl ⟨rfl, _, SqL.of h23⟩, _, rfl, s, 4, _, rfl, by decide, by decide, src3, by omega, fun fa H4 fa0 fa1 src4 k4 => ⟨_, _, rfl, rfl, _, rfl, _, rfl, s, 4, _, rfl, by decide, by decide, src4, by omega, fun su H5 su0 su1 src5 k5 => ⟨_, _, rfl, rfl, (by show 3 ≤ sizeLine; decide), fun tp htp => ?_⟩⟩⟩
      have h25 := k5 _ _ nls.symm (k4 _ _ nls.symm h23)
      have s6 := Same.upd (o := .tup [.int (1 + fa), .int (1 + wt), .int (1 + su)]) htp
      have h26 := s6 _ _ h25
      refine ⟨l1, _, _, rfl, rfl, h26, small1 (by omega), ?_⟩
      have n7 := NL.upd (o := .lst (zs ++ [.ref tp])) h26
      obtain ⟨y2, hy2⟩ := src2.has
      obtain ⟨y3, hy3⟩ := src3.has
      obtain ⟨y4, hy4⟩ := src4.has
      have nl25 : NL H2 H5 := ((Kp.nl k3 hy2).trans (Kp.nl k4 hy3)).trans (Kp.nl k5 hy4)
      refine ⟨_, _, zs ++ [.ref tp], ts ++ [(1 + fa, 1 + wt, 1 + su)], rfl, upd_same, ?_, fun t ht => ?_, by rw [List.length_append]; show zs.length + 1 ≤ j + 1; omega, fun u w nu e => ?_, ?_⟩
      · exact Brs.app (((hb.nl nl25).nl (NL.of s6)).nl n7) (.cons ⟨tp, rfl, n7 _ _ upd_same fun _ z => nomatch z⟩ .nil)
      · rcases List.mem_append.mp ht with ht | ht
        · exact ok t ht
        · rw [List.mem_singleton.mp ht]
          show 1 ≤ 1 + fa ∧ 1 + fa ≤ 1000000000000 ∧ 1 ≤ 1 + wt ∧ 1 + wt ≤ 1000000000000000000000000000000 ∧ 1 ≤ 1 + su ∧ 1 + su ≤ 1000000000000
          exact ⟨by omega, by omega, by omega, by omega, by omega, by omega⟩
      · rw [upd_ne (ne_of_none e hl1)]
        exact s6 _ _ (k5 _ _ nu (k4 _ _ nu (k3 _ _ nu (k2 _ _ nu e))))
      · refine src_kp ?_ nls (src5.same s6 |>.mono (by omega))
        exact Kp.upd
    · rintro σ H2 ⟨v4, v5, zs, ts, rfl, h2, hb, ok, zl, k2, src2⟩
      have bl := Brs.len hb
      exact ⟨_, rfl, k l1 zs ts H2 h2 hb ok (by omega) (src2.mono (by omega)) k2 hl1⟩
theorem ok_wspecs (T : LX K mg L) : Cal P w K mg base "_law_specs" 3 L.f__law_specs ["_law_source", "_law_most", "_law_far"] (spSpecs) := T.d__law_specs.cal fun fd F => fn_wspecs T F
end
/-! ### words drawn -/
def spWords : Sp := fun vs H Q _ => ∃ (s : Addr) (n : Nat) (m : Int), vs = [.ref s, .int m] ∧ Src H s n ∧ n ≤ 600000 ∧ 0 ≤ m ∧ m ≤ 100 ∧
  ∀ (l : Addr) (ws : List Bool) (H' : Hp), H' l = some (.lst (ws.map wV)) → (ws.length : Int) ≤ 5 * m → Src H' s (n + 1101 + 2202 * m.toNat) → Kp s H H' → H l = none → Q (.ref l) H'
section
variable {P : Program} {w : World} {K : PySem.W.Frag} {mg : Str → Option Value} {base : Heap} {L : LA}
abbrev N_wwords : List Str := ["_law_source", "_law_most", "_law_found", "_law_repeat"]
theorem sc_wwords : FnScope N_wwords ["_law_source", "_law_most"] (defScope st__law_words) := ⟨rfl, rfl, rfl, by decide +kernel, rfl, by decide +kernel, by decide +kernel⟩
theorem fn_wwords (T : LX K mg L) {fd : FuncData} (F : Fun K "_law_words" "_law_words" st__law_words L.f__law_words fd) : FnOk P w K mg base CX0 4 L.f__law_words fd ["_law_source", "_law_most"] (spWords) := by
  have G_wdraw := ok_wdraw (P := P) (w := w) (base := base) T
  have G_wchoice := ok_wchoice (P := P) (w := w) (base := base) T
  have nd := sc_wwords.nd
  refine F.ok sc_wwords (fun vs H Q E h => ?_) (fun cdv A outer S H vs Q E hr h => ?_)
  · obtain ⟨s, n, m, rfl, _⟩ := h
    rfl
  · obtain ⟨s, n, m, rfl, src, hn, m0, m1, k⟩ := h
    refine ⟨_, (pss_cons (ps_set (i := 2) nd rfl (Or.inl rfl) (pe_lst pa_nil))
       (pss_cons (ps_for PassesOwn.never rfl (pi_range1 rfl T.b_range (pa_cons (pe_c G_wdraw (hr.mono (by decide)) rfl (pa_cons (pv 0) (pa_cons (pe_op op_add (pv 1) pe_int) pa_nil))) pa_nil)) (pg_name (i := 3) nd rfl (Or.inl rfl)) (pss_one (ps_set (i := 2) nd rfl (Or.inl rfl) (pe_op op_cat (pv 2) (pe_op op_rep (pe_lst (pa_cons (pe_c G_wchoice (hr.mono (by decide)) rfl (pa_cons (pv 0) (pa_cons (pe_lst (pa_cons pe_str (pa_cons pe_str (pa_cons pe_str pa_nil)))) pa_nil))) pa_nil)) (pe_op op_add pe_int (pe_c G_wdraw (hr.mono (by decide)) rfl (pa_cons (pv 0) (pa_cons pe_int pa_nil)))))))))
       (pss_one (ps_ret (pv 2))))), ?_⟩
    obtain ⟨ys, hys⟩ := src.has
    have one : ∀ {lo : Addr} {Hx : Hp} {m : Nat}, Src Hx s m → Hx lo = none → s ≠ lo := fun S e => by
      obtain ⟨y, hy⟩ := S.has
      exact ne_of_none hy e
    refine ⟨(by show 0 ≤ sizeLine; decide), fun l0 nl0 => ?_⟩
    have s1 := Same.upd (o := .lst []) nl0
    refine ⟨_, rfl, _, rfl, _, _, rfl, rfl, s, m + 1, n, rfl, by omega, Nat.lt_of_le_of_lt (show (m + 1).natAbs ≤ 101 by omega) (by decide +kernel), src.same s1, by omega, fun q H1 q0 q1 src1 k1 => ⟨q, rfl, by omega, by omega, ?_⟩⟩
    have nsl0 := one src nl0
    refine for_range (lo := 0) (n := q.toNat) (fun j σ Hx => ∃ (v3 : Option V) (l : Addr) (ws : List Bool), σ = [some (.ref s), some (.int m), some (.ref l), v3] ∧ Hx l = some (.lst (ws.map wV)) ∧ ws.length ≤ 5 * j ∧ H l = none ∧ s ≠ l ∧ Kp s H Hx ∧ Src Hx s (n + 1101 + 2202 * j))
      ⟨none, l0, [], rfl, k1 _ _ nsl0.symm upd_same, Nat.zero_le _, nl0, nsl0, (Kp.of s1).trans k1, src1⟩ ?_ ?_
    · rintro j σ Hx hj ⟨v3, l, ws, rfl, hl, wl, nl, nsl, kx, srcx⟩
      refine ⟨_, rfl, _, rfl, (by show 3 ≤ sizeLine; decide), fun lo nlo => ?_⟩
      have s2 := Same.upd (o := .lst [.str "up", .str "down", .str "down"]) nlo
      refine ⟨s, lo, _, _, rfl, one srcx nlo, upd_same, Nat.succ_pos _, (by show 3 ≤ 100000; decide), srcx.same s2, by omega, fun v H3 hv src3 k3 => ⟨(by show 1 ≤ sizeLine; decide), fun l1 nl1 => ?_⟩⟩
      obtain ⟨up, rfl⟩ : ∃ up, v = wV up := by
        simp only [List.mem_cons, List.mem_nil_iff, or_false] at hv
        rcases hv with rfl | rfl | rfl
        · exact ⟨true, rfl⟩
        · exact ⟨false, rfl⟩
        · exact ⟨false, rfl⟩
      have s4 := Same.upd (o := .lst [wV up]) nl1
      refine ⟨_, rfl, s, 5, _, rfl, by decide, by decide +kernel, src3.same s4, by omega, fun c H5 c0 c1 src5 k5 => ⟨_, _, rfl, rfl, ?_⟩⟩
      have ns1 := one src3 nl1
      have h15 := k5 _ _ ns1.symm (upd_same (H := H3) (a := l1) (o := .lst [wV up]))
      refine ⟨l1, _, [wV up], rfl, rfl, h15, by omega, by omega, small2 (by show 1 * (1 + c).toNat ≤ 100000; omega), fun r nr => ?_⟩
      have s6 := Same.upd (o := .lst (List.replicate (1 + c).toNat [wV up]).flatten) nr
      have k36 := (((Kp.of s2).trans k3).trans (Kp.of s4)).trans k5
      have hl5 := k36 _ _ nsl.symm hl
      have er : (List.replicate (1 + c).toNat [wV up]).flatten = (List.replicate (1 + c).toNat up).map wV := by
        rw [List.flatten_replicate_singleton, List.map_replicate]
      have hr6 : (upd H5 r (.lst (List.replicate (1 + c).toNat [wV up]).flatten)) r = some (.lst ((List.replicate (1 + c).toNat up).map wV)) := by rw [upd_same, er]
      refine ⟨l, r, _, _, rfl, rfl, s6 _ _ hl5, hr6, small2 (by rw [List.length_map, List.length_map, List.length_replicate]; omega), fun l7 nl7 => ?_⟩
      have s7 := Same.upd (o := .lst (ws.map wV ++ (List.replicate (1 + c).toNat up).map wV)) nl7
      have src6 := src5.same s6
      have k7 := kx.trans ((k36.trans (Kp.of s6)).trans (Kp.of s7))
      have ns7 := one src6 nl7
      refine ⟨_, l7, ws ++ List.replicate (1 + c).toNat up, rfl, by rw [upd_same, List.map_append], by rw [List.length_append, List.length_replicate]; omega, ?_, ns7, k7, (src6.same s7).mono (by omega)⟩
      cases e : H l7 with
      | none => rfl
      | some o =>
        rw [(kx.trans (k36.trans (Kp.of s6))) _ _ ns7.symm e] at nl7
        cases nl7
    · rintro σ Hx ⟨v3, l, ws, rfl, hl, wl, nl, nsl, kx, srcx⟩
      exact ⟨_, rfl, k l ws Hx hl (by omega) (srcx.mono (by omega)) kx nl⟩
theorem ok_wwords (T : LX K mg L) : Cal P w K mg base "_law_words" 4 L.f__law_words ["_law_source", "_law_most"] (spWords) := T.d__law_words.cal fun fd F => fn_wwords T F
end
/-! ### logs replayed -/
def spCkWords : Sp := fun vs H Q _ => ∃ (l : Addr) (ws : List Bool), vs = [.ref l] ∧ H l = some (.lst (ws.map wV)) ∧ ws.length ≤ 10000 ∧ ∀ H', Same H H' → Q .non H'
/-- what was told, request by request -/
def Tlds (K : PySem.W.Frag) (H : Hp) (xs : List V) (ts : List Tri) (st ph : Int) (ws : List Bool) : Prop := xs.length = ws.length ∧ ∀ (j : Nat) (up : Bool), ws[j]? = some up → ∃ x, xs[j]? = some x ∧ TldAt K H x ts.length (kOf ts (plA ts st ph (ws.take j)) (ph + (j : Int) * st)) up
theorem Tlds.nl {K : PySem.W.Frag} {H H' : Hp} {xs : List V} {ts : List Tri} {st ph : Int} {ws : List Bool} (h : Tlds K H xs ts st ph ws) (k : NL H H') : Tlds K H' xs ts st ph ws :=
  ⟨h.1, fun j up e => by
    obtain ⟨x, h1, h2⟩ := h.2 j up e
    exact ⟨x, h1, h2.nl k⟩⟩
theorem Tlds.app {K : PySem.W.Frag} {H : Hp} {xs : List V} {x : V} {ts : List Tri} {st ph : Int} {ws : List Bool} {up : Bool} (h : Tlds K H xs ts st ph ws) (hx : TldAt K H x ts.length (kOf ts (plA ts st ph ws) (ph + (ws.length : Int) * st)) up) : Tlds K H (xs ++ [x]) ts st ph (ws ++ [up]) := by
  refine ⟨by rw [List.length_append, List.length_append, h.1]; rfl, fun j u e => ?_⟩
  by_cases c : j < ws.length
  · rw [List.getElem?_append_left c] at e
    obtain ⟨y, h1, h2⟩ := h.2 j u e
    refine ⟨y, by rw [List.getElem?_append_left (by rw [h.1]; exact c)]; exact h1, ?_⟩
    rw [List.take_append_of_le_length (by omega)]
    exact h2
  · have jl : j = ws.length := by
      have := (List.getElem?_eq_some_iff.mp e).1
      rw [List.length_append] at this
      have : j < ws.length + 1 := this
      omega
    subst jl
    rw [List.getElem?_append_right (Nat.le_refl _), Nat.sub_self] at e
    cases e
    refine ⟨x, by rw [List.getElem?_append_right (by rw [h.1]; exact Nat.le_refl _), h.1, Nat.sub_self]; rfl, ?_⟩
    rw [List.take_left]
    exact hx
def spPlayed (K : PySem.W.Frag) (CR C : Addr) : Sp := fun vs H Q _ => ∃ r B xs ts st ph, ∃ (l : Addr) (ws : List Bool) (av : List Addr), vs = [.ref r, .ref l] ∧ RowAt CR H r B xs ts st ph ∧ H l = some (.lst (ws.map wV)) ∧ ws.length ≤ 10000 ∧ (∀ b ∈ av, H b ≠ none) ∧
  ∀ t p d ys H', H' t = some (.tup [.ref p, .ref d]) → H' d = some (.lst ys) → Tlds K H' ys ts st ph ws → PlV CR C (d :: l :: av) H' p ts st ph ws → KeV (l :: av) H H' → H p = none → H d = none → Q (.ref t) H'
def spReplay (K : PySem.W.Frag) (CR C : Addr) : Sp := fun vs H Q _ => ∃ r B xs ts st ph, ∃ (l : Addr) (ws : List Bool) (av : List Addr), vs = [.ref r, .ref l] ∧ RowAt CR H r B xs ts st ph ∧ H l = some (.lst (ws.map wV)) ∧ ws.length ≤ 10000 ∧ (∀ b ∈ av, H b ≠ none) ∧
  ∀ p H', PlV CR C (l :: av) H' p ts st ph ws → KeV (l :: av) H H' → H p = none → Q (.ref p) H'
def spOuts (K : PySem.W.Frag) (CR C : Addr) : Sp := fun vs H Q _ => ∃ r B xs ts st ph, ∃ (l : Addr) (ws : List Bool) (av : List Addr), vs = [.ref r, .ref l] ∧ RowAt CR H r B xs ts st ph ∧ H l = some (.lst (ws.map wV)) ∧ ws.length ≤ 10000 ∧ (∀ b ∈ av, H b ≠ none) ∧
  ∀ d ys H', H' d = some (.lst ys) → Tlds K H' ys ts st ph ws → KeV (l :: av) H H' → H d = none → Q (.ref d) H'
section
variable {P : Program} {w : World} {K : PySem.W.Frag} {mg : Str → Option Value} {base : Heap} {L : LA}
abbrev N_checkwords : List Str := ["log", "at", "word"]
theorem sc_checkwords : FnScope N_checkwords ["log"] (defScope st_check_words) := ⟨rfl, rfl, rfl, by decide +kernel, rfl, by decide +kernel, by decide +kernel⟩
theorem fn_checkwords (T : LX K mg L) {fd : FuncData} (F : Fun K "check_words" "check_words" st_check_words L.f_check_words fd) : FnOk P w K mg base CX0 2 L.f_check_words fd ["log"] (spCkWords) := by
  obtain ⟨tk_MOST_REQUESTS, c_MOST_REQUESTS⟩ := T.n_MOST_REQUESTS
  have G_isword := ok_isword (P := P) (w := w) (base := base) T
  have nd := sc_checkwords.nd
  refine F.ok sc_checkwords (fun vs H Q E h => ?_) (fun cdv A outer S H vs Q E hr h => ?_)
  · obtain ⟨l, ws, rfl, _⟩ := h
    rfl
  · obtain ⟨l, ws, rfl, hl, wl, k⟩ := h
    refine ⟨_, (pss_cons (ps_if (PW.pt (pw_or (pt_not (pt_val (pe_callB call_isi (by rfl) T.b_isinstance (by decide +kernel) (pa_cons (pv 0) (pa_cons (pe_bltn (by rfl) T.b_list (by decide +kernel : bootBuiltins "list" = some (.type "list")) (v := .ty "list") rfl) pa_nil))))) (pw_or1 (pt_cmpR op_gt (pe_callB call_len_seq (by rfl) T.b_len PySem.boot_len (pa_cons (pv 0) pa_nil)) (pe_gI c_MOST_REQUESTS) (nomark _))))) (pss_one (ps_never)) pss_nil)
       (pss_one (ps_for PassesOwn.never rfl (pi_enum (by rfl) T.b_enumerate (pa_cons (pv 0) pa_nil)) (pg_tup rfl (pgs_cons (pg_name (i := 1) nd rfl (Or.inl rfl)) (pgs_cons (pg_name (i := 2) nd rfl (Or.inl rfl)) pgs_nil))) (pss_one (ps_if (pt_not (pt_val (pe_c G_isword (hr.mono (by decide)) rfl (pa_cons (pv 2) pa_nil)))) (pss_one (ps_never)) pss_nil))))), ?_⟩
    refine ⟨_, rfl, _, .ty "list", _, _, _, rfl, .ty "list", (Kd.lst hl).ty, (Kd.lst hl).kit "list" _ (.inr ⟨by decide, by decide, rfl⟩), _, rfl, iteF ?_⟩
    refine ⟨_, rfl, l, _, rfl, .inl (SqL.of hl), _, _, rfl, rfl, _, rfl, ite2 (fun c => ?_) (fun _ => ?_)⟩
    · have c' := of_decide_eq_true c
      rw [List.length_map] at c'
      omega
    refine ⟨_, rfl, l, ws.map wV, rfl, SqL.of hl, for_enum (K := K) (a := l) (xs := ws.map wV) (fun i σ H2 => ∃ u v : Option V, σ = [some (.ref l), u, v] ∧ Same H H2) ⟨none, none, rfl, Same.refl H⟩ (fun i σ H2 _ ⟨_, _, _, s2⟩ => SqL.of (s2 _ _ hl)) ?_ ?_⟩
    · rintro i x T' σ H2 hx ⟨u, v, rfl, s2⟩ hT
      rw [List.getElem?_map] at hx
      obtain ⟨up, _, rfl⟩ := Option.map_eq_some_iff.mp hx
      have s3 := s2.trans (Same.upd (o := .tup [.int (i : Nat), wV up]) hT)
      refine ⟨T', _, rfl, SqT.of upd_same, rfl, _, _, rfl, _, _, rfl, rfl, ?_⟩
      exact ⟨_, rfl, up, rfl, fun H3 s4 => ⟨_, rfl, iteF ⟨_, _, rfl, s3.trans s4⟩⟩⟩
    · rintro σ H2 ⟨u, v, rfl, s2⟩
      exact k H2 s2
theorem ok_checkwords (T : LX K mg L) : Cal P w K mg base "check_words" 2 L.f_check_words ["log"] (spCkWords) := T.d_check_words.cal fun fd F => fn_checkwords T F
abbrev N_played : List Str := ["row", "log", "playing", "told", "word"]
theorem sc_played : FnScope N_played ["row", "log"] (defScope st_played) := ⟨rfl, rfl, rfl, by decide +kernel, rfl, by decide +kernel, by decide +kernel⟩
theorem fn_played (T : LX K mg L) {fd : FuncData} (F : Fun K "played" "played" st_played L.f_played fd) : FnOk P w K mg base CX0 8 L.f_played fd ["row", "log"] (spPlayed K L.c_Row L.c_Playing) := by
  have G_checkwords := ok_checkwords (P := P) (w := w) (base := base) T
  have G_Playingrequest := ok_Playingrequest (P := P) (w := w) (base := base) T
  have nd := sc_played.nd
  refine F.ok sc_played (fun vs H Q E h => ?_) (fun cdv A outer S H vs Q E hr h => ?_)
  · obtain ⟨r, B, xs, ts, st, ph, l, ws, av, rfl, _⟩ := h
    rfl
  · obtain ⟨r, B, xs, ts, st, ph, l, ws, av, rfl, R, hl, wl, na, k⟩ := h
    refine ⟨_, (pss_cons (ps_set (i := 2) nd rfl (Or.inr rfl) (pe_mkPlaying T (hr.mono (by decide)) rfl (pa_cons (pv 0) pa_nil)))
       (pss_cons (ps_expr (pe_c G_checkwords (hr.mono (by decide)) rfl (pa_cons (pv 1) pa_nil)))
       (pss_cons (ps_setLc (i := 3) (own := [("word", 4)]) (g := gName 4) (tt := tYes) rfl nd rfl rfl (sw_true rfl rfl rfl (by decide +kernel)) (pi_list (pv 1)) (blkOk_by (own := [("word", 4)]) (N := N_played) (sc := defScope st_played) (by decide +kernel)) (fun _ _ _ _ _ => pg_name (i := 4) nd rfl (Or.inl rfl)) (fun _ _ _ _ _ => pts_nil) (fun _ _ _ _ _ => (G_Playingrequest.p_m1 T.cf_Playing.cl (hr.mono (by decide)) (pv 2) (pa_cons (pv 4) pa_nil))))
       (pss_one (ps_ret (pe_tup (pa_cons (pv 2) (pa_cons (pv 3) pa_nil)))))))), ?_⟩
    have nn : ∀ b ∈ l :: av, H b ≠ none := fun b hb => by
      rcases List.mem_cons.mp hb with rfl | hb
      · rw [hl]; exact fun z => nomatch z
      · exact na b hb
    refine ⟨_, rfl, playing_made R fun p H1 _ PV s1 np => ?_⟩
    have PV1 := PV (l :: av) nn
    refine ⟨_, rfl, l, ws, rfl, s1 _ _ hl, by omega, fun H2 s2 => ?_⟩
    have s12 := s1.trans s2
    have PV2 := PV1.same s2
    have hl2 := s12 _ _ hl
    refine ⟨_, rfl, l, rfl, ⟨_, SqL.of hl2⟩, fun D hD => ?_⟩
    have Dn : ∀ b, H b ≠ none → b ≠ D := fun b hb q => by
      cases e : H b with
      | none => exact hb e
      | some o =>
        have := s12 _ _ e
        rw [q, hD] at this
        cases this
    refine lc_list (K := K) (a := l) (xs := ws.map wV) (fun j Hc => ∃ ys, Hc D = some (.lst ys) ∧ Tlds K Hc ys ts st ph (ws.take j) ∧ PlV L.c_Row L.c_Playing (D :: l :: av) Hc p ts st ph (ws.take j) ∧ KeV (l :: av) H Hc ∧ Hc l = some (.lst (ws.map wV)))
      ⟨[], upd_same, ⟨rfl, fun j up e => by cases e⟩, PV2.more (Same.upd hD) hD, .same (s12.trans (Same.upd hD)), (Same.upd hD) _ _ hl2⟩ (fun j Hc _ ⟨_, _, _, _, _, h⟩ => SqL.of h) ?_ ?_
    · rintro j x Hc hxj ⟨ys, hDc, td, PVc, kc, hlc⟩
      rw [List.getElem?_map] at hxj
      obtain ⟨up, hup, rfl⟩ := Option.map_eq_some_iff.mp hxj
      have jl := (List.getElem?_eq_some_iff.mp hup).1
      have etk : ws.take (j + 1) = ws.take j ++ [up] := by rw [List.take_add_one, hup]; rfl
      obtain ⟨dx, r', aw, ah, hp⟩ := PVc.ob
      have ltk : (ws.take j).length = j := by rw [List.length_take]; omega
      refine ⟨rfl, tYes_of ⟨_, rfl, p, dx, _, rfl, hp, plF_no _ _ _ (by decide +kernel) (by decide +kernel) (by decide +kernel), _, rfl, p, D :: l :: av, ts, st, ph, ws.take j, up, rfl, PVc, by omega, fun b hb => ?_, fun x H3 tx PV3 k3 => ?_⟩⟩
      · rcases List.mem_cons.mp hb with rfl | hb
        · rw [hDc]; exact fun z => nomatch z
        · have h0 := nn b hb
          cases e : H b with
          | none => exact absurd e h0
          | some o => rw [kc b o e (.inl hb)]; exact fun z => nomatch z
      · rw [ltk] at tx
        have hD3 := k3 _ _ hDc (.inl (List.mem_cons_self ..))
        have nl := NL.upd (o := .lst (ys ++ [x])) hD3
        have kp : Kp D H3 (upd H3 D (.lst (ys ++ [x]))) := Kp.upd
        refine ⟨ys, hD3, small1 (by rw [td.1]; omega), ys ++ [x], upd_same, ?_, ?_, fun b o e q => ?_, kp _ _ (Dn _ (by rw [hl]; exact fun z => nomatch z)) (k3 _ _ hlc (.inl (List.mem_cons_of_mem _ (List.mem_cons_self ..))))⟩
        · rw [etk]
          exact Tlds.app ((td.nl k3.nl).nl nl) (by rw [ltk]; exact tx.nl nl)
        · rw [etk]
          exact PV3.keB (KeB.kp kp (List.mem_cons_self ..) hD3)
        · have bD : b ≠ D := Dn b (by rw [e]; exact fun z => nomatch z)
          exact kp _ _ bD (k3 _ _ (kc b o e q) (q.elim (fun q => .inl (List.mem_cons_of_mem _ q)) .inr))
    rintro H3 ⟨ys, hD3, td, PV3, k3, hl3⟩
    rw [List.length_map, List.take_length] at td PV3
    refine ⟨_, rfl, _, rfl, (by show 2 ≤ sizeLine; decide), fun t nt => ?_⟩
    have s4 := Same.upd (o := .tup [.ref p, .ref D]) nt
    exact k t p D ys _ upd_same (s4 _ _ hD3) (td.nl (NL.of s4)) (PV3.same s4) (k3.trans (.same s4)) np (none_of s12 hD)
theorem ok_played (T : LX K mg L) : Cal P w K mg base "played" 8 L.f_played ["row", "log"] (spPlayed K L.c_Row L.c_Playing) := T.d_played.cal fun fd F => fn_played T F
abbrev N_replay : List Str := ["row", "log"]
theorem sc_replay : FnScope N_replay ["row", "log"] (defScope st_replay) := ⟨rfl, rfl, rfl, by decide +kernel, rfl, by decide +kernel, by decide +kernel⟩
theorem fn_replay (T : LX K mg L) {fd : FuncData} (F : Fun K "replay" "replay" st_replay L.f_replay fd) : FnOk P w K mg base CX0 9 L.f_replay fd ["row", "log"] (spReplay K L.c_Row L.c_Playing) := by
  have G_played := ok_played (P := P) (w := w) (base := base) T
  have nd := sc_replay.nd
  refine F.ok sc_replay (fun vs H Q E h => ?_) (fun cdv A outer S H vs Q E hr h => ?_)
  · obtain ⟨r, B, xs, ts, st, ph, l, ws, av, rfl, _⟩ := h
    rfl
  · obtain ⟨r, B, xs, ts, st, ph, l, ws, av, rfl, R, hl, wl, na, k⟩ := h
    refine ⟨_, (pss_one (ps_ret (pe_ix (r := rIxT K) ix_tup (pe_c G_played (hr.mono (by decide)) rfl (pa_cons (pv 0) (pa_cons (pv 1) pa_nil))) pe_int (fun _ _ => rfl)))), ?_⟩
    exact ⟨_, rfl, _, rfl, r, B, xs, ts, st, ph, l, ws, av, rfl, R, hl, wl, na, fun t p d ys H' ht hd td PV kv np nd => ⟨t, _, 0, .ref p, rfl, rfl, SqT.of ht, rfl, k p H' (PV.less fun b hb => List.mem_cons_of_mem _ hb) kv np⟩⟩
theorem ok_replay (T : LX K mg L) : Cal P w K mg base "replay" 9 L.f_replay ["row", "log"] (spReplay K L.c_Row L.c_Playing) := T.d_replay.cal fun fd F => fn_replay T F
end
/-! ### an instance of another class is none of this one -/
theorem CF.kitC {K : PySem.W.Frag} {C D : Addr} (M : CF K C) (h : PySem.W.mroIn K D (.ref C) = some false) : PySem.W.kitOne K (.ref D) (.ref C) = some false ∧ D ≠ C := by
  have ne : D ≠ C := fun z => by
    subst z
    have sf : (PySem.W.clsIn K D).any (fun cd => cd.mro.head? == some (.ref D)) = true := M.sf
    have h : (PySem.W.clsIn K D).bind (fun cd => if cd.mro.isEmpty then none else some (cd.mro.contains (.ref D))) = some false := h
    cases q : PySem.W.clsIn K D with
    | none => rw [q] at sf; cases sf
    | some cd =>
      rw [q] at sf h
      have sf : (cd.mro.head? == some (.ref D)) = true := sf
      have h : (if cd.mro.isEmpty = true then none else some (cd.mro.contains (.ref D))) = some false := h
      cases e : cd.mro with
      | nil => rw [e] at sf; exact absurd sf Bool.false_ne_true
      | cons a r =>
        rw [e] at sf h
        have e2 : a = .ref D := Option.some.inj (eq_of_beq sf)
        rw [e2, List.contains_cons] at h
        simp at h
  refine ⟨?_, ne⟩
  have e1 : ((PySem.W.clsIn K C).isSome && PySem.W.typeIn K (.ref C) == some (.type "type")) = true := by
    have h2 : (PySem.W.clsIn K C).isSome = true := M.cls
    rw [h2, M.ty] <;> rfl
  show (if (Value.ref D == Value.ref C) = true then some true else PySem.W.kitCls K (.ref D) (.ref C)) = some false
  rw [if_neg (by intro z; have := eq_of_beq z; injection this with this; exact ne this)]
  show (if ((PySem.W.clsIn K C).isSome && PySem.W.typeIn K (.ref C) == some (.type "type")) = true then PySem.W.subIn K (.ref D) (.ref C) else none) = some false
  rw [if_pos e1]
  exact h
/-! ### k55: the law -/
theorem TabS.nx {H H' : Hp} {P : Addr} {q : Str} (t : LamX.TabS H P q) (n : ∀ b o, H b = some o → (∀ xs, o ≠ .lst xs) → (∀ C dx fs, o ≠ .ins C dx fs) → H' b = some o) : LamX.TabS H' P q := by
  obtain ⟨ps, h1, h2, h3⟩ := t
  refine ⟨ps, n _ _ h1 (fun _ z => nomatch z) (fun _ _ _ z => nomatch z), h2, fun pos cv hc => ?_⟩
  obtain ⟨c, e1, e2⟩ := h3 pos cv hc
  exact ⟨c, e1, n _ _ e2 (fun _ z => by unfold LamX.CodeO at z; cases z) (fun _ _ _ z => by unfold LamX.CodeO at z; cases z)⟩
theorem Tabs.nx {T : List (Addr × Str)} {H H' : Hp} (t : LamX.Tabs T H) (n : ∀ b o, H b = some o → (∀ xs, o ≠ .lst xs) → (∀ C dx fs, o ≠ .ins C dx fs) → H' b = some o) : LamX.Tabs T H' := fun p hp => TabS.nx (t p hp) n
theorem Tabs.nl {T : List (Addr × Str)} {H H' : Hp} (t : LamX.Tabs T H) (n : NL H H') : LamX.Tabs T H' := Tabs.nx t fun b o e h _ => n b o e h
theorem Tabs.kp {T : List (Addr × Str)} {H H' : Hp} {p : Addr} (t : LamX.Tabs T H) (k : Kp p H H') (hp : ∃ C dx fs, H p = some (.ins C dx fs)) : LamX.Tabs T H' := Tabs.nx t fun b o e _ h => by
  obtain ⟨C, dx, fs, hp⟩ := hp
  exact k b o (fun z => by rw [z, hp] at e; cases e; exact h _ _ _ rfl) e
theorem TldAt.nx {K : PySem.W.Frag} {H H' : Hp} {x : V} {n k : Nat} {up : Bool} (h : TldAt K H x n k up) (s : ∀ b o, H b = some o → (∀ xs, o ≠ .lst xs) → (∀ C dx fs, o ≠ .ins C dx fs) → (∀ ps, o ≠ .tbl ps) → H' b = some o) : TldAt K H' x n k up := by
  obtain ⟨a, e, hq⟩ := h
  refine ⟨a, e, ?_⟩
  rcases hq with hq | hq
  · rcases hq with hq | hq
    · exact SqT.of (s _ _ hq (fun _ z => nomatch z) (fun _ _ _ z => nomatch z) (fun _ z => nomatch z))
    · exact .inl (.inr (by obtain ⟨u, hq⟩ := hq; exact ⟨u, s _ _ hq (fun _ z => nomatch z) (fun _ _ _ z => nomatch z) (fun _ z => nomatch z)⟩))
  · exact .inr hq
theorem PlV.moreB {CR C : Addr} {H H' : Hp} {p a : Addr} {ts : List Tri} {st ph : Int} {ws : List Bool} {av : List Addr} (Y : PlV CR C av H p ts st ph ws) (s : KeB av H H') (h : H a = none) : PlV CR C (a :: av) H' p ts st ph ws := by
  obtain ⟨r, B, aw, ah, xs, ls, Y, n⟩ := Y
  refine ⟨r, B, aw, ah, xs, ls, Y.keB n s, fun b hb => ?_⟩
  rcases List.mem_cons.mp hb with rfl | hb
  · refine ⟨fun e => ?_, fun e => ?_, fun m => ?_⟩
    · rw [e, Y.hw] at h; cases h
    · rw [e, Y.hh] at h; cases h
    · obtain ⟨j, hj⟩ := List.mem_iff_getElem?.mp m
      obtain ⟨ys, h1, _⟩ := Y.hs j b hj
      rw [h1] at h; cases h
  · exact n b hb
theorem rep1 (v : V) : ∀ n, (List.replicate n [v]).flatten = List.replicate n v
  | 0 => rfl
  | n + 1 => by rw [List.replicate_succ, List.replicate_succ, List.flatten_cons, rep1 v n]; rfl
/-- what is no row -/
def OddR (C : Addr) (H : Hp) (v : V) : Prop := (∃ n, Kd H v n) ∨ ∃ p dx fs, v = .ref p ∧ H p = some (.ins C dx fs)
theorem OddR.ext {C : Addr} {H H' : Hp} {v : V} (h : OddR C H v) (k : LamX.ExtN H H') : OddR C H' v := by
  rcases h with ⟨n, h⟩ | ⟨p, dx, fs, e, h⟩
  · exact .inl ⟨n, h.ext k⟩
  · exact .inr ⟨p, dx, fs, e, k _ _ h fun _ z => nomatch z⟩
theorem OddR.no {K : PySem.W.Frag} {mg : Str → Option Value} {L : LA} (T : LX K mg L) {H : Hp} {v : V} (h : OddR L.c_Playing H v) : ∃ u, TyX K H v u ∧ PySem.W.kitOne K u (.ref L.c_Row) = some false := by
  rcases h with ⟨n, h⟩ | ⟨p, dx, fs, rfl, h⟩
  · exact ⟨_, h.ty, T.cf_Row.kitT h⟩
  · exact ⟨_, T.cf_Playing.tyR h, (T.cf_Row.kitC T.mo_Playing_Row).1⟩
theorem Src.ext {H H' : Hp} {a : Addr} {n : Nat} (h : Src H a n) (k : LamX.ExtN H H') : Src H' a n := by
  obtain ⟨x, y, z, e, r⟩ := h
  exact ⟨x, y, z, k _ _ e fun _ z => (nomatch z), r⟩
def spLawT (K : PySem.W.Frag) (L : LA) : Sp := fun vs H Q _ => ∃ (a : Addr) (ns : List Int), vs = [.ref a] ∧ SqL K H a (ns.map V.int) ∧ ns.length ≤ 63 ∧ LamX.Tabs (LT L) H ∧ ∀ H', Q (.bl true) H'
section
variable {P : Program} {w : World} {K : PySem.W.Frag} {mg : Str → Option Value} {base : Heap} {L : LA}
abbrev N_law : List Str := ["_law_script", "_law_at", "_law_cell", "_law_source", "_law_row", "_law_game", "_law_word", "_law_told", "_law_full", "_law_odd"]
theorem sc_law : FnScope N_law ["_law_script"] (defScope st_law) := ⟨rfl, rfl, rfl, by decide +kernel, rfl, by decide +kernel, by decide +kernel⟩
theorem ok_law {aLaw : Addr} {fd : FuncData} (F : FunT K "law" "law" st_law aLaw L.k_law fd) (T : LX K mg L) (B : TX base mg L) : FnOk P w K mg base CX0 14 aLaw fd ["_law_script"] (spLawT K L) := by
  have G_wsourceof := ok_wsourceof (P := P) (w := w) (base := base) T
  have G_wwords := ok_wwords (P := P) (w := w) (base := base) T
  have G_Playingrequest := ok_Playingrequest (P := P) (w := w) (base := base) T
  have G_Rowbreakerlist := ok_Rowbreakerlist (P := P) (w := w) (base := base) T
  have G_Playingundo := ok_Playingundo (P := P) (w := w) (base := base) T
  have G_wspecs := ok_wspecs (P := P) (w := w) (base := base) T
  have G_wcallsright := ok_wcallsright (P := P) (w := w) (base := base) T B
  have G_replay := ok_replay (P := P) (w := w) (base := base) T
  have G_wcellat := ok_wcellat (P := P) (w := w) (base := base) T
  have G_wdraw := ok_wdraw (P := P) (w := w) (base := base) T
  have nd := sc_law.nd
  refine F.okG sc_law (fun vs H Q E h => ?_) (fun g0 A outer S H vs Q E hgd hr h => ?_)
  · obtain ⟨a, ns, rfl, _⟩ := h
    rfl
  · obtain ⟨a, ns, rfl, hS, ln, tabs, k⟩ := h
    refine ⟨_, (pss_cons (ps_for PassesOwn.never rfl (pi_enum (by rfl) T.b_enumerate (pa_cons (pe_op op_cat (pe_lst (pa_cons (pe_c G_wcellat (hr.mono (by decide)) rfl (pa_cons (pv 0) (pa_cons pe_int pa_nil))) pa_nil)) (pe_slice (r := rSlL K) sl_list (pv 0) (po_some pe_int) (po_some pe_int))) pa_nil)) (pg_tup rfl (pgs_cons (pg_name (i := 1) nd rfl (Or.inl rfl)) (pgs_cons (pg_name (i := 2) nd rfl (Or.inl rfl)) pgs_nil))) (pss_cons (ps_set (i := 3) nd rfl (Or.inl rfl) (pe_c G_wsourceof (hr.mono (by decide)) rfl (pa_cons (pv 2) pa_nil)))
       (pss_cons (ps_set (i := 4) nd rfl (Or.inl rfl) (pe_mkRow_p_phase T (hr.mono (by decide)) rfl (pa_cons (pe_c G_wspecs (hr.mono (by decide)) rfl (pa_cons (pv 3) (pa_cons pe_int (pa_cons pe_int pa_nil)))) (pa_cons (pe_op op_add pe_int (pe_c G_wdraw (hr.mono (by decide)) rfl (pa_cons (pv 3) (pa_cons pe_int pa_nil)))) pa_nil)) (pk_cons (pe_c G_wdraw (hr.mono (by decide)) rfl (pa_cons (pv 3) (pa_cons pe_int pa_nil))) pk_nil)))
       (pss_cons (ps_set (i := 5) nd rfl (Or.inl rfl) (pe_mkPlaying T (hr.mono (by decide)) rfl (pa_cons (pv 4) pa_nil)))
       (pss_cons (ps_if (pt_not (pt_val (pe_c G_wcallsright (hr.mono (by decide)) rfl (pa_cons (pv 5) pa_nil)))) (pss_one (ps_ret pe_bl)) pss_nil)
       (pss_cons (ps_for PassesOwn.never rfl (pi_list (pe_c G_wwords (hr.mono (by decide)) rfl (pa_cons (pv 3) (pa_cons pe_int pa_nil)))) (pg_name (i := 6) nd rfl (Or.inl rfl)) (pss_one (ps_expr (G_Playingrequest.p_m1 T.cf_Playing.cl (hr.mono (by decide)) (pv 5) (pa_cons (pv 6) pa_nil)))))
       (pss_cons (ps_if (pt_not (pt_val (pe_c G_wcallsright (hr.mono (by decide)) rfl (pa_cons (pv 5) pa_nil)))) (pss_one (ps_ret pe_bl)) pss_nil)
       (pss_cons (ps_for PassesOwn.never rfl (pi_list (pe_lst (pa_cons pe_non (pa_cons pe_int (pa_cons pe_str (pa_cons (pe_lst (pa_cons (pv 4) pa_nil)) (pa_cons (pe_tup (pa_cons (pv 4) pa_nil)) (pa_cons pe_dnewK (pa_cons (pv 5) (pa_cons (G_Rowbreakerlist.p_m0 T.cf_Row.cl (hr.mono (by decide)) (pv 4)) pa_nil)))))))))) (pg_name (i := 9) nd rfl (Or.inr rfl)) (pss_one (ps_if (pt_cmpR (op_neD hr.units) (pe_lamc (T := LT L) (TT := TTerr K L g0) (c := L.k_law) (P := L.t_law) (k := 8) T.d__law_error sc_werror rfl (Or.inl rfl) (fun _ => err_gives T (hr.mono (by decide)) (by exact hgd)) B.b_law rfl (lt_mem_law T) (lt_one_law T) (hr.mono (by decide)) (LamX.lamS_by (sc := defScope st_law) (by decide +kernel)) rfl (fun _ _ _ _ _ => rfl) (fun A outer s H E f c2 hr => by exact (pe_mkPlayingX (K := K) rfl (takes_of rfl rfl rfl rfl) T (hr.mono (by decide)) rfl (pa_cons (pv 9) pa_nil)))) (pe_lst (pa_cons pe_str (pa_cons pe_str (pa_cons pe_bl pa_nil)))) (nomark _)) (pss_one (ps_ret pe_bl)) pss_nil)))
       (pss_one (ps_if (pt_cmpR op_eq (pv 1) pe_int (nomark _)) (pss_cons (ps_set (i := 8) nd rfl (Or.inr rfl) (pe_c G_replay (hr.mono (by decide)) rfl (pa_cons (pv 4) (pa_cons (pe_op op_rep (pe_lst (pa_cons pe_str pa_nil)) pe_int) pa_nil))))
       (pss_cons (ps_set (i := 7) nd rfl (Or.inl rfl) (G_Playingrequest.p_m1 T.cf_Playing.cl (hr.mono (by decide)) (pv 8) (pa_cons pe_str pa_nil)))
       (pss_cons (ps_if (PW.pt (pw_or (pt_cmpR (op_neD hr.units) (pe_lamc (T := LT L) (TT := TTerr K L g0) (c := L.k_law) (P := L.t_law) (k := 8) T.d__law_error sc_werror rfl (Or.inl rfl) (fun _ => err_gives T (hr.mono (by decide)) (by exact hgd)) B.b_law rfl (lt_mem_law T) (lt_one_law T) (hr.mono (by decide)) (LamX.lamS_by (sc := defScope st_law) (by decide +kernel)) rfl (fun _ _ _ _ _ => rfl) (fun A outer s H E f c2 hr => by exact ((EX.ok_Playingrequest (P := P) (w := w) (base := base) T).p_m1 (takes_of rfl rfl rfl rfl) T.cf_Playing.cl (hr.mono (by decide)) (pv 8) (pa_cons pe_str pa_nil)))) (pe_lst (pa_cons pe_str (pa_cons pe_int (pa_cons pe_bl pa_nil)))) (nomark _)) (pw_or1 (pt_not (pt_val (pe_c G_wcallsright (hr.mono (by decide)) rfl (pa_cons (pv 8) pa_nil))))))) (pss_one (ps_ret pe_bl)) pss_nil)
       (pss_cons (ps_expr (G_Playingundo.p_m1 T.cf_Playing.cl (hr.mono (by decide)) (pv 8) (pa_cons pe_int pa_nil)))
       (pss_one (ps_if (pt_cmpR (op_neD hr.units) (G_Playingrequest.p_m1 T.cf_Playing.cl (hr.mono (by decide)) (pv 8) (pa_cons pe_str pa_nil)) (pv 7) (nomark _)) (pss_one (ps_ret pe_bl)) pss_nil)))))) pss_nil))))))))))
       (pss_one (ps_ret pe_bl))), ?_⟩
    refine ⟨_, rfl, a, ns, 0, rfl, hS, Int.le_refl _, fun z => ⟨(by show 1 ≤ sizeLine; decide), fun l1 hl1 => ?_⟩⟩
    have z1 : Same H (upd H l1 (.lst [.int z])) := Same.upd hl1
    refine ⟨_, rfl, 1, rfl, 6, rfl, a, ns.map V.int, rfl, z1.seq hS, fun l2 hl2 => ?_⟩
    refine ⟨l1, l2, _, _, rfl, rfl, (Same.upd hl2) _ _ upd_same, upd_same, small2 (by have := cutV_length (ns.map V.int) (some 1) (some 6); rw [List.length_map] at this; show 1 + _ ≤ 100000; omega), fun l3 hl3 => ?_⟩
    have items : ∀ v ∈ [V.int z] ++ cutV (ns.map V.int) (some 1) (some 6), ∃ c, v = .int c := fun v hv => by
      rcases List.mem_append.mp hv with hv | hv
      · exact ⟨z, by simpa using hv⟩
      · obtain ⟨c, _, e⟩ := List.mem_map.mp (List.mem_of_mem_drop (List.mem_of_mem_take hv))
        exact ⟨c, e.symm⟩
    have st := (z1.trans (Same.upd (o := .lst (cutV (ns.map V.int) (some 1) (some 6))) hl2)).trans (Same.upd (o := .lst ([V.int z] ++ cutV (ns.map V.int) (some 1) (some 6))) hl3)
    have t0 := tabs_same tabs st
    generalize hit : [V.int z] ++ cutV (ns.map V.int) (some 1) (some 6) = its at items t0
    refine ⟨l3, its, rfl, SqL.of (by rw [← hit]; exact upd_same), ?_⟩
    refine for_enum (K := K) (a := l3) (xs := its) (fun i σ H2 => ∃ v1 v2 v3 v4 v5 v6 v7 v8 v9 : Option V, σ = [some (.ref a), v1, v2, v3, v4, v5, v6, v7, v8, v9] ∧ H2 l3 = some (.lst its) ∧ LamX.Tabs (LT L) H2)
      ⟨none, none, none, none, none, none, none, none, none, rfl, by rw [← hit]; exact upd_same, t0⟩ (fun i σ H2 _ ⟨_, _, _, _, _, _, _, _, _, _, e, _⟩ => SqL.of e) ?_ ?_
    rotate_left
    · rintro σ H2 ⟨v1, v2, v3, v4, v5, v6, v7, v8, v9, rfl, _⟩
      exact k _
    rintro i0 v T' σ H00 hi ⟨v1, v2, v3, v4, v5, v6, v7, v8, v9, rfl, hL0, t00⟩ hT
    obtain ⟨cc, rfl⟩ := items v (List.mem_of_getElem? hi)
    have sT := Same.upd (o := .tup [.int (i0 : Nat), V.int cc]) hT
    have hL := sT _ _ hL0
    have t0 := tabs_same t00 sT
    refine ⟨T', _, rfl, SqT.of upd_same, rfl, _, _, rfl, _, _, rfl, rfl, ?_⟩
    generalize upd H00 T' (.tup [.int (i0 : Nat), V.int cc]) = H0 at sT hL t0 ⊢
    refine ⟨_, rfl, cc, rfl, fun s H1 hs0 y1 src1 => ?_⟩
    have nls : l3 ≠ s := ne_of_none hL hs0
    have hL1 := y1 _ _ hL
    refine ⟨_, rfl, s, 0, 4, 9, rfl, src1, by decide, by decide, by decide, by decide, by decide, fun la xa ts H2 hla hba okt lts src2 k2 nla => ⟨_, rfl, s, 4, _, rfl, by decide, by decide +kernel, src2, by decide, fun e1 H3 e10 e11 src3 k3 => ⟨_, _, rfl, rfl, _, rfl, s, 9, _, rfl, by decide, by decide +kernel, src3, by decide, fun e2 H4 e20 e21 src4 k4 => ?_⟩⟩⟩
    obtain ⟨ys1, hy1⟩ := src1.has
    obtain ⟨ys2, hy2⟩ := src2.has
    obtain ⟨ys3, hy3⟩ := src3.has
    obtain ⟨ys4, hy4⟩ := src4.has
    have nlas : la ≠ s := fun e => by rw [e, hy1] at nla; cases nla
    have k24 := k3.trans k4
    have h4a := k24 _ _ nlas hla
    have nl34 : NL H2 H4 := (Kp.nl k3 hy2).trans (Kp.nl k4 hy3)
    have b4a := hba.nl nl34
    have hL4 := k24 _ _ nls (k2 _ _ nls hL1)
    have t4 : LamX.Tabs (LT L) H4 := Tabs.nl (tabs_same t0 y1) ((Kp.nl k2 hy1).trans nl34)
    refine ⟨rfl, rfl, row_made (xs := xa) (ts := ts) h4a b4a okt (by omega) ⟨show (1 : Int) ≤ 1 + e1 by omega, show (1 : Int) + e1 ≤ _ by omega, by omega, by omega⟩ fun r B H5 R5 s5 nr5 => ?_⟩
    refine ⟨_, rfl, playing_made R5 fun p H6 _ PV0 s6 np => ?_⟩
    have s46 := s5.trans s6
    have P6 := PV0 [s, l3] fun b hb => by
      simp only [List.mem_cons, List.mem_nil_iff, or_false] at hb
      rcases hb with rfl | rfl
      · rw [s5 _ _ hy4]; exact fun z => nomatch z
      · rw [s5 _ _ hL4]; exact fun z => nomatch z
    refine ⟨_, rfl, p, _, ts, _, e2, [], rfl, P6, by decide, tabs_same t4 s46, fun H7 x7 t7 => ⟨_, rfl, iteF ?_⟩⟩
    have src7 := (src4.same s46).ext x7
    have P7 := P6.ext x7
    have R7 := (R5.nl (NL.of s6)).ext x7
    have hL7 := x7 _ _ (s46 _ _ hL4) fun _ z => nomatch z
    obtain ⟨ys7, hy7⟩ := src7.has
    clear src4 src3 src2 PV0 P6 R5 b4a hba t4 x7 s46 s6 s5
    refine ⟨_, rfl, s, _, 9, rfl, src7, by decide, by decide, by decide, fun l wsx H8 hl wl src8 k8 nl => ⟨l, rfl, ⟨_, SqL.of hl⟩, ?_⟩⟩
    have wl45 : wsx.length ≤ 45 := by omega
    have P8 := P7.moreB (KeB.kp k8 (by simp) hy7) nl
    have R8 := R7.nl (Kp.nl k8 hy7)
    have hL8 := k8 _ _ nls hL7
    have t8 : LamX.Tabs (LT L) H8 := Tabs.nl t7 (Kp.nl k8 hy7)
    obtain ⟨ys8, hy8⟩ := src8.has
    clear src7 src8 P7 R7 hL7 t7
    refine for_list (K := K) (a := l) (xs := wsx.map wV) (fun i σ Hx => ∃ (v6 v7 v8 v9 : Option V) (zs : List V), σ = [some (.ref a), some (.int (i0 : Nat)), some (.int cc), some (.ref s), some (.ref r), some (.ref p), v6, v7, v8, v9] ∧ PlV L.c_Row L.c_Playing [l, s, l3] Hx p ts (1 + e1) e2 (wsx.take i) ∧ RowAt L.c_Row Hx r B xa ts (1 + e1) e2 ∧ Hx l3 = some (.lst its) ∧ Hx l = some (.lst (wsx.map wV)) ∧ Hx s = some (.lst zs) ∧ LamX.Tabs (LT L) Hx)
      ⟨_, _, _, _, _, rfl, P8, R8, hL8, hl, hy8, t8⟩ (fun i σ Hx _ ⟨_, _, _, _, _, _, _, _, _, h, _, _⟩ => SqL.of h) ?_ ?_
    · clear P8 R8 hL8 hl hy8 t8
      rintro i x σ Hx hxi ⟨v6, v7, v8, v9, zs, rfl, Px, Rx, h3, hlx, hsx, tx⟩
      rw [List.getElem?_map] at hxi
      obtain ⟨up, hup, rfl⟩ := Option.map_eq_some_iff.mp hxi
      have il := (List.getElem?_eq_some_iff.mp hup).1
      have tl : (wsx.take i).length ≤ 45 := by rw [List.length_take]; omega
      obtain ⟨dx, r', aw, ah, hp⟩ := Px.ob
      refine ⟨_, rfl, p, dx, _, rfl, hp, plF_no _ _ _ (by decide +kernel) (by decide +kernel) (by decide +kernel), _, rfl, p, _, ts, _, e2, _, up, rfl, Px, by omega, fun b hb => ?_, fun x HA _ PA kA => ?_⟩
      · simp only [List.mem_cons, List.mem_nil_iff, or_false] at hb
        rcases hb with rfl | rfl | rfl
        · rw [hlx]; exact fun z => nomatch z
        · rw [hsx]; exact fun z => nomatch z
        · rw [h3]; exact fun z => nomatch z
      have e1' : wsx.take (i + 1) = wsx.take i ++ [up] := by rw [List.take_add_one, hup]; rfl
      rw [← e1'] at PA
      exact ⟨_, _, _, _, _, rfl, PA, Rx.nl kA.nl, kA _ _ h3 (.inl (by simp)), kA _ _ hlx (.inl (by simp)), kA _ _ hsx (.inl (by simp)), Tabs.nl tx kA.nl⟩
    rintro σ H9 ⟨v6', v7', v8', v9', zs, rfl, P9, R9, h39, hl9, hs9, t9⟩
    rw [List.length_map, List.take_length] at P9
    clear P8 R8 hL8 hl hy8 t8
    refine ⟨_, rfl, p, _, ts, _, e2, wsx, rfl, P9, by omega, t9, fun HA xA tA => ⟨_, rfl, iteF ?_⟩⟩
    have PA := P9.ext xA
    have RA := R9.ext xA
    have h3A := xA _ _ h39 fun _ z => nomatch z
    clear P9 R9 h39 hl9 hs9 t9
    obtain ⟨dxA, rA, awA, ahA, hpA⟩ := PA.ob
    obtain ⟨drA, hrA⟩ := RA.ob
    refine ⟨_, rfl, (by show 1 ≤ sizeLine; decide), fun a1 n1 => ⟨_, rfl, (by show 1 ≤ sizeLine; decide), fun a2 n2 => fun a3 n3 => ?_⟩⟩
    have u1 := Same.upd (o := .lst [.ref r]) n1
    have u2 := Same.upd (o := .tup [.ref r]) n2
    have u3 := Same.upd (o := .dK []) n3
    have u13 := (u1.trans u2).trans u3
    have f1 := u3 _ _ (u2 _ _ (upd_same (a := a1) (o := .lst [.ref r]) (H := HA)))
    have f2 := u3 _ _ (upd_same (a := a2) (o := .tup [.ref r]) (H := upd HA a1 (.lst [.ref r])))
    have f3 : upd (upd (upd HA a1 (.lst [.ref r])) a2 (.tup [.ref r])) a3 (.dK []) a3 = some (.dK []) := upd_same
    generalize upd (upd (upd HA a1 (.lst [.ref r])) a2 (.tup [.ref r])) a3 (.dK []) = HB at u13 f1 f2 f3 ⊢
    refine ⟨_, rfl, _, rfl, r, drA, _, rfl, u13 _ _ hrA, rowF_no _ _ _ (by decide +kernel) (by decide +kernel) (by decide +kernel), r, B, xa, ts, _, e2, rfl, RA.nl (NL.of u13), fun lb HC nlb eC => ⟨(by show 8 ≤ sizeLine; decide), fun lo nlo => ?_⟩⟩
    have uC : Same HB HC := by rw [eC]; exact Same.upd nlb
    have f4 : HC lb = some (.lst xa) := by rw [eC]; exact upd_same
    have u4 := Same.upd (o := .lst [.non, .int 5, .str "row", .ref a1, .ref a2, .ref a3, .ref p, .ref lb]) nlo
    have sD := (u13.trans uC).trans u4
    have g1 := u4 _ _ (uC _ _ f1)
    have g2 := u4 _ _ (uC _ _ f2)
    have g3 := u4 _ _ (uC _ _ f3)
    have g4 := u4 _ _ f4
    have g5 : upd HC lo (.lst [.non, .int 5, .str "row", .ref a1, .ref a2, .ref a3, .ref p, .ref lb]) lo = some (.lst [.non, .int 5, .str "row", .ref a1, .ref a2, .ref a3, .ref p, .ref lb]) := upd_same
    generalize upd HC lo (.lst [.non, .int 5, .str "row", .ref a1, .ref a2, .ref a3, .ref p, .ref lb]) = HD at sD g1 g2 g3 g4 g5 ⊢
    have odd : ∀ v ∈ ([.non, .int 5, .str "row", .ref a1, .ref a2, .ref a3, .ref p, .ref lb] : List V), OddR L.c_Playing HD v := by
      intro v hv
      simp only [List.mem_cons, List.mem_nil_iff, or_false] at hv
      rcases hv with rfl | rfl | rfl | rfl | rfl | rfl | rfl | rfl
      · exact .inl ⟨_, .non⟩
      · exact .inl ⟨_, .int _⟩
      · exact .inl ⟨_, .str _⟩
      · exact .inl ⟨_, .lst g1⟩
      · exact .inl ⟨_, .tup g2⟩
      · exact .inl ⟨_, .dK g3⟩
      · exact .inr ⟨p, _, _, rfl, sD _ _ hpA⟩
      · exact .inl ⟨_, .lst g4⟩
    generalize ([.non, .int 5, .str "row", .ref a1, .ref a2, .ref a3, .ref p, .ref lb] : List V) = ods at g5 odd ⊢
    have RD := RA.nl (NL.of sD)
    have h3D := sD _ _ h3A
    have tD := tabs_same tA sD
    clear u1 u2 u3 u13 f1 f2 f3 f4 uC eC u4 g1 g2 g3 g4 hrA hpA PA RA h3A tA
    refine ⟨lo, rfl, ⟨_, SqL.of g5⟩, ?_⟩
    refine for_list (K := K) (a := lo) (xs := ods) (fun i σ Hy => ∃ w9 : Option V, σ = [some (.ref a), some (.int (i0 : Nat)), some (.int cc), some (.ref s), some (.ref r), some (.ref p), v6', v7', v8', w9] ∧ LamX.ExtN HD Hy ∧ LamX.Tabs (LT L) Hy) ⟨_, rfl, .refl _, tD⟩ (fun i σ Hy _ ⟨_, _, e, _⟩ => SqL.of (e _ _ g5 fun _ z => nomatch z)) ?_ ?_
    · rintro i v σ Hy hi2 ⟨w9, rfl, ey, ty⟩
      have ov := (odd v (List.mem_of_getElem? hi2)).ext ey
      refine ⟨ty, fun Hw exW txW E N hE hN => ?_⟩
      refine ⟨_, rfl, fun x dxx hx hdx hne => ?_⟩
      have s0 : Same Hw (upd (upd Hw dxx (.own x)) x (.ins L.c_Playing dxx [])) := fun b o e => by
        rw [upd_ne (ne_of_none e hx), upd_ne (ne_of_none e hdx)]
        exact e
      obtain ⟨u, ty2, kit⟩ := OddR.no T ((ov.ext exW).ext (ext_same s0))
      refine ⟨x, v, u, rfl, ty2, kit, fun d H' hd s' => hE _ _ _ ⟨L.e_InvalidRow, d, rfl, rfl, .row _ _ hd fun q H5 hq s5 nq => ?_⟩⟩
      have x5 := exW.trans (ext_same ((s0.trans s').trans s5))
      refine ⟨(by show 3 ≤ sizeLine; decide), fun q2 nq2 => ?_⟩
      have s6 := Same.upd (o := .lst [.str "row", .str "row", .bl false]) nq2
      refine ⟨l3D "row" (.str "row") false, l3D "row" (.str "row") false, l3_dp (s6 _ _ hq) (.str _), l3_dp upd_same (.str _), l3_sh (by decide +kernel) (by decide +kernel) (by simp [PyData.depth]), l3_sh (by decide +kernel) (by decide +kernel) (by simp [PyData.depth]), ?_⟩
      rw [l3_eq (by decide +kernel) (by decide +kernel) (by simp [PyData.depth])]
      refine ⟨_, rfl, iteF ⟨_, rfl, ey.trans (x5.trans (ext_same s6)), tabs_same txW (((s0.trans s').trans s5).trans s6)⟩⟩
    rintro σ HE ⟨w9, rfl, eE, tE⟩
    have RE := RD.ext eE
    have h3E := eE _ _ h3D fun _ z => nomatch z
    clear RD h3D tD odd sD eE
    refine ⟨_, rfl, rfl, _, rfl, ite2 (fun _ => ?_) (fun _ => ⟨_, _, _, _, _, _, _, _, _, rfl, h3E, tE⟩)⟩
    refine ⟨_, rfl, (by show 1 ≤ sizeLine; decide), fun lq nlq => ⟨lq, _, [.str "down"], rfl, rfl, upd_same, by decide, by decide, small2 (by show 1 * 9999 ≤ 100000; decide), fun lr nlr => ?_⟩⟩
    obtain ⟨W, hW⟩ : ∃ W : List Bool, W = List.replicate 9999 false := ⟨_, rfl⟩
    have Wl : W.length = 9999 := by rw [hW, List.length_replicate]
    have eW : (List.replicate (9999 : Int).toNat [V.str "down"]).flatten = W.map wV := by
      rw [hW, List.map_replicate]
      exact rep1 _ _
    rw [eW]
    have q1 := Same.upd (o := .lst [.str "down"]) nlq
    have q2 := Same.upd (o := .lst (W.map wV)) nlr
    have q12 := q1.trans q2
    have hlr : upd (upd HE lq (.lst [.str "down"])) lr (.lst (W.map wV)) lr = some (.lst (W.map wV)) := upd_same
    generalize upd (upd HE lq (.lst [.str "down"])) lr (.lst (W.map wV)) = HF at q12 hlr ⊢
    have h3F := q12 _ _ h3E
    have tF := tabs_same tE q12
    refine ⟨r, B, xa, ts, _, e2, lr, W, [l3], rfl, RE.nl (NL.of q12), hlr, by omega, (fun b hb => by rw [List.mem_singleton.mp hb, h3F]; exact fun z => nomatch z), fun p2 HG PG kG np2 => ?_⟩
    have h3G := kG _ _ h3F (.inl (by simp))
    have hlrG := kG _ _ hlr (.inl (by simp))
    have tG : LamX.Tabs (LT L) HG := Tabs.nl tF kG.nl
    obtain ⟨dxG, rG, awG, ahG, hpG⟩ := PG.ob
    refine ⟨_, rfl, p2, dxG, _, rfl, hpG, plF_no _ _ _ (by decide +kernel) (by decide +kernel) (by decide +kernel), p2, _, ts, _, e2, W, true, rfl, PG, by omega, (fun b hb => ?_), fun x HI tx PI kI => ?_⟩
    · simp only [List.mem_cons, List.mem_nil_iff, or_false] at hb
      rcases hb with rfl | rfl
      · rw [hlrG]; exact fun z => nomatch z
      · rw [h3G]; exact fun z => nomatch z
    have h3I := kI _ _ h3G (.inl (by simp))
    have hlrI := kI _ _ hlrG (.inl (by simp))
    have tI : LamX.Tabs (LT L) HI := Tabs.nl tG kI.nl
    have Wl2 : (W ++ [true]).length = 10000 := by rw [List.length_append, Wl]; rfl
    refine ⟨tI, fun Hw exW txW E N hE hN => ?_⟩
    have PW := PI.ext exW
    obtain ⟨dxW, rW, awW, ahW, hpW⟩ := PW.ob
    refine ⟨_, rfl, p2, dxW, _, rfl, hpW, plF_no _ _ _ (by decide +kernel) (by decide +kernel) (by decide +kernel), p2, _, ts, _, e2, _, .str "up", _, rfl, PW, .str _, .inr ⟨by decide +kernel, by omega, fun d H' hd s' => hE _ _ _ ⟨L.e_LimitExceeded, d, rfl, rfl, .limit _ hd fun q H5 hq s5 nq => ?_⟩⟩⟩
    refine ⟨(by show 3 ≤ sizeLine; decide), fun q2 nq2 => ?_⟩
    have s6 := Same.upd (o := .lst [.str "limit", .int 10000, .bl true]) nq2
    refine ⟨l3D "limit" (.int 10000) true, l3D "limit" (.int 10000) true, l3_dp (s6 _ _ hq) (.int _), l3_dp upd_same (.int _), l3_sh (by decide +kernel) (by decide +kernel) (by simp [PyData.depth]), l3_sh (by decide +kernel) (by decide +kernel) (by simp [PyData.depth]), ?_⟩
    rw [l3_eq (by decide +kernel) (by decide +kernel) (by simp [PyData.depth])]
    have x5 := exW.trans (ext_same ((s'.trans s5).trans s6))
    have t5 := tabs_same txW ((s'.trans s5).trans s6)
    refine ⟨_, rfl, iteF ⟨_, rfl, p2, _, ts, _, e2, _, rfl, PI.ext x5, by omega, t5, fun HJ xJ tJ => ⟨_, rfl, iteF ?_⟩⟩⟩
    have xIJ := x5.trans xJ
    have PJ := PI.ext xIJ
    have h3J := xIJ _ _ h3I fun _ z => nomatch z
    have hlrJ := xIJ _ _ hlrI fun _ z => nomatch z
    have txJ := tx.nx fun b o e _ _ n => xIJ b o e n
    obtain ⟨dxJ, rJ, awJ, ahJ, hpJ⟩ := PJ.ob
    refine ⟨_, rfl, p2, dxJ, _, rfl, hpJ, plF_no _ _ _ (by decide +kernel) (by decide +kernel) (by decide +kernel), p2, _, ts, _, e2, _, 1, rfl, PJ, by omega, by omega, (fun b hb => ?_), fun HK PK kK => ?_⟩
    · simp only [List.mem_cons, List.mem_nil_iff, or_false] at hb
      rcases hb with rfl | rfl
      · rw [hlrJ]; exact fun z => nomatch z
      · rw [h3J]; exact fun z => nomatch z
    have eT : (W ++ [true]).take ((W ++ [true]).length - 1) = W := by
      rw [List.length_append, show W.length + [true].length - 1 = W.length from rfl, List.take_left]
    rw [eT] at PK
    have h3K := kK _ _ (fun z => by rw [z, hpJ] at h3J; cases h3J) h3J
    have hlrK := kK _ _ (fun z => by rw [z, hpJ] at hlrJ; cases hlrJ) hlrJ
    have txK := txJ.nx fun b o e _ h2 _ => kK b o (fun z => by rw [z, hpJ] at e; cases e; exact h2 _ _ _ rfl) e
    have tK : LamX.Tabs (LT L) HK := Tabs.kp tJ kK ⟨_, _, _, hpJ⟩
    obtain ⟨dxK, rK, awK, ahK, hpK⟩ := PK.ob
    refine ⟨_, rfl, p2, dxK, _, rfl, hpK, plF_no _ _ _ (by decide +kernel) (by decide +kernel) (by decide +kernel), p2, _, ts, _, e2, W, true, rfl, PK, by omega, (fun b hb => ?_), fun x2 HM tx2 PM kM => ?_⟩
    · simp only [List.mem_cons, List.mem_nil_iff, or_false] at hb
      rcases hb with rfl | rfl
      · rw [hlrK]; exact fun z => nomatch z
      · rw [h3K]; exact fun z => nomatch z
    have txM := txK.nx fun b o e h1 _ _ => kM.nl b o e h1
    refine ⟨_, rfl, _, _, tx2.dp, txM.dp, outD_sh _ _ _, outD_sh _ _ _, ?_⟩
    rw [SeqAt.eqv_refl _ (Bool.and_eq_true_iff.mp (outD_sh _ _ _)).1]
    exact ⟨_, rfl, iteF ⟨_, _, _, _, _, _, _, _, _, rfl, kM _ _ h3K (.inl (by simp)), Tabs.nl tK kM.nl⟩⟩
end
/-! ### the end -/
theorem bn_q0 (kV doc pm : Value) (an : Option Addr) (cdv ct : Value) (us : List Value) (hl : us.length = (["k"] : List Str).length) : bindArgs (PySem.W.fnOf "_wall" "_wall" (defArgs st__wall) (defBody st__wall) (defScope st__wall) .none kV doc pm an cdv ct) ⟨us, []⟩ = pure ((["k"] : List Str).zip us) :=
  match us, hl with | [_], _ => rfl
theorem bn_q1 (kV doc pm : Value) (an : Option Addr) (cdv ct : Value) (us : List Value) (hl : us.length = (["value"] : List Str).length) : bindArgs (PySem.W.fnOf "is_integer" "is_integer" (defArgs st_is_integer) (defBody st_is_integer) (defScope st_is_integer) .none kV doc pm an cdv ct) ⟨us, []⟩ = pure ((["value"] : List Str).zip us) :=
  match us, hl with | [_], _ => rfl
theorem bn_q2 (kV doc pm : Value) (an : Option Addr) (cdv ct : Value) (us : List Value) (hl : us.length = (["value", "least"] : List Str).length) : bindArgs (PySem.W.fnOf "is_at_least" "is_at_least" (defArgs st_is_at_least) (defBody st_is_at_least) (defScope st_is_at_least) .none kV doc pm an cdv ct) ⟨us, []⟩ = pure ((["value", "least"] : List Str).zip us) :=
  match us, hl with | [_, _], _ => rfl
theorem bn_q3 (kV doc pm : Value) (an : Option Addr) (cdv ct : Value) (us : List Value) (hl : us.length = (["value", "least", "most"] : List Str).length) : bindArgs (PySem.W.fnOf "is_within" "is_within" (defArgs st_is_within) (defBody st_is_within) (defScope st_is_within) .none kV doc pm an cdv ct) ⟨us, []⟩ = pure ((["value", "least", "most"] : List Str).zip us) :=
  match us, hl with | [_, _, _], _ => rfl
theorem bn_q4 (kV doc pm : Value) (an : Option Addr) (cdv ct : Value) (us : List Value) (hl : us.length = (["value"] : List Str).length) : bindArgs (PySem.W.fnOf "is_breaker" "is_breaker" (defArgs st_is_breaker) (defBody st_is_breaker) (defScope st_is_breaker) .none kV doc pm an cdv ct) ⟨us, []⟩ = pure ((["value"] : List Str).zip us) :=
  match us, hl with | [_], _ => rfl
theorem bn_q5 (kV doc pm : Value) (an : Option Addr) (cdv ct : Value) (us : List Value) (hl : us.length = (["breakers", "part"] : List Str).length) : bindArgs (PySem.W.fnOf "check_breakers" "check_breakers" (defArgs st_check_breakers) (defBody st_check_breakers) (defScope st_check_breakers) .none kV doc pm an cdv ct) ⟨us, []⟩ = pure ((["breakers", "part"] : List Str).zip us) :=
  match us, hl with | [_, _], _ => rfl
theorem bn_q6 (kV doc pm : Value) (an : Option Addr) (cdv ct : Value) (us : List Value) (hl : us.length = (["step"] : List Str).length) : bindArgs (PySem.W.fnOf "check_step" "check_step" (defArgs st_check_step) (defBody st_check_step) (defScope st_check_step) .none kV doc pm an cdv ct) ⟨us, []⟩ = pure ((["step"] : List Str).zip us) :=
  match us, hl with | [_], _ => rfl
theorem bn_q7 (kV doc pm : Value) (an : Option Addr) (cdv ct : Value) (us : List Value) (hl : us.length = (["row", "number"] : List Str).length) : bindArgs (PySem.W.fnOf "request_time" "request_time" (defArgs st_request_time) (defBody st_request_time) (defScope st_request_time) .none kV doc pm an cdv ct) ⟨us, []⟩ = pure ((["row", "number"] : List Str).zip us) :=
  match us, hl with | [_, _], _ => rfl
theorem bn_q8 (kV doc pm : Value) (an : Option Addr) (cdv ct : Value) (us : List Value) (hl : us.length = (["number"] : List Str).length) : bindArgs (PySem.W.fnOf "closed_states" "closed_states" (defArgs st_closed_states) (defBody st_closed_states) (defScope st_closed_states) .none kV doc pm an cdv ct) ⟨us, []⟩ = pure ((["number"] : List Str).zip us) :=
  match us, hl with | [_], _ => rfl
theorem bn_q9 (kV doc pm : Value) (an : Option Addr) (cdv ct : Value) (us : List Value) (hl : us.length = (["breaker", "state", "time"] : List Str).length) : bindArgs (PySem.W.fnOf "passes" "passes" (defArgs st_passes) (defBody st_passes) (defScope st_passes) .none kV doc pm an cdv ct) ⟨us, []⟩ = pure ((["breaker", "state", "time"] : List Str).zip us) :=
  match us, hl with | [_, _, _], _ => rfl
theorem bn_q10 (kV doc pm : Value) (an : Option Addr) (cdv ct : Value) (us : List Value) (hl : us.length = (["breaker", "state", "time", "succeeded"] : List Str).length) : bindArgs (PySem.W.fnOf "state_behind" "state_behind" (defArgs st_state_behind) (defBody st_state_behind) (defScope st_state_behind) .none kV doc pm an cdv ct) ⟨us, []⟩ = pure ((["breaker", "state", "time", "succeeded"] : List Str).zip us) :=
  match us, hl with | [_, _, _, _], _ => rfl
theorem bn_q11 (kV doc pm : Value) (an : Option Addr) (cdv ct : Value) (us : List Value) (hl : us.length = (["breakers", "states", "time", "up"] : List Str).length) : bindArgs (PySem.W.fnOf "sent" "sent" (defArgs st_sent) (defBody st_sent) (defScope st_sent) .none kV doc pm an cdv ct) ⟨us, []⟩ = pure ((["breakers", "states", "time", "up"] : List Str).zip us) :=
  match us, hl with | [_, _, _, _], _ => rfl
theorem bn_q12 (kV doc pm : Value) (an : Option Addr) (cdv ct : Value) (us : List Value) (hl : us.length = (["value"] : List Str).length) : bindArgs (PySem.W.fnOf "is_word" "is_word" (defArgs st_is_word) (defBody st_is_word) (defScope st_is_word) .none kV doc pm an cdv ct) ⟨us, []⟩ = pure ((["value"] : List Str).zip us) :=
  match us, hl with | [_], _ => rfl
theorem bn_q13 (kV doc pm : Value) (an : Option Addr) (cdv ct : Value) (us : List Value) (hl : us.length = (["log"] : List Str).length) : bindArgs (PySem.W.fnOf "check_words" "check_words" (defArgs st_check_words) (defBody st_check_words) (defScope st_check_words) .none kV doc pm an cdv ct) ⟨us, []⟩ = pure ((["log"] : List Str).zip us) :=
  match us, hl with | [_], _ => rfl
theorem bn_q14 (kV doc pm : Value) (an : Option Addr) (cdv ct : Value) (us : List Value) (hl : us.length = (["row", "log"] : List Str).length) : bindArgs (PySem.W.fnOf "played" "played" (defArgs st_played) (defBody st_played) (defScope st_played) .none kV doc pm an cdv ct) ⟨us, []⟩ = pure ((["row", "log"] : List Str).zip us) :=
  match us, hl with | [_, _], _ => rfl
theorem bn_q15 (kV doc pm : Value) (an : Option Addr) (cdv ct : Value) (us : List Value) (hl : us.length = (["row", "log"] : List Str).length) : bindArgs (PySem.W.fnOf "replay" "replay" (defArgs st_replay) (defBody st_replay) (defScope st_replay) .none kV doc pm an cdv ct) ⟨us, []⟩ = pure ((["row", "log"] : List Str).zip us) :=
  match us, hl with | [_, _], _ => rfl
theorem bn_q16 (kV doc pm : Value) (an : Option Addr) (cdv ct : Value) (us : List Value) (hl : us.length = (["_law_script", "_law_place"] : List Str).length) : bindArgs (PySem.W.fnOf "_law_cell_at" "_law_cell_at" (defArgs st__law_cell_at) (defBody st__law_cell_at) (defScope st__law_cell_at) .none kV doc pm an cdv ct) ⟨us, []⟩ = pure ((["_law_script", "_law_place"] : List Str).zip us) :=
  match us, hl with | [_, _], _ => rfl
theorem bn_q17 (kV doc pm : Value) (an : Option Addr) (cdv ct : Value) (us : List Value) (hl : us.length = (["_law_cell"] : List Str).length) : bindArgs (PySem.W.fnOf "_law_source_of" "_law_source_of" (defArgs st__law_source_of) (defBody st__law_source_of) (defScope st__law_source_of) .none kV doc pm an cdv ct) ⟨us, []⟩ = pure ((["_law_cell"] : List Str).zip us) :=
  match us, hl with | [_], _ => rfl
theorem bn_q18 (kV doc pm : Value) (an : Option Addr) (cdv ct : Value) (us : List Value) (hl : us.length = (["_law_source", "_law_bound"] : List Str).length) : bindArgs (PySem.W.fnOf "_law_draw" "_law_draw" (defArgs st__law_draw) (defBody st__law_draw) (defScope st__law_draw) .none kV doc pm an cdv ct) ⟨us, []⟩ = pure ((["_law_source", "_law_bound"] : List Str).zip us) :=
  match us, hl with | [_, _], _ => rfl
theorem bn_q19 (kV doc pm : Value) (an : Option Addr) (cdv ct : Value) (us : List Value) (hl : us.length = (["_law_source", "_law_options"] : List Str).length) : bindArgs (PySem.W.fnOf "_law_choice" "_law_choice" (defArgs st__law_choice) (defBody st__law_choice) (defScope st__law_choice) .none kV doc pm an cdv ct) ⟨us, []⟩ = pure ((["_law_source", "_law_options"] : List Str).zip us) :=
  match us, hl with | [_, _], _ => rfl
theorem bn_q20 (kV doc pm : Value) (an : Option Addr) (cdv ct : Value) (us : List Value) (hl : us.length = (["_law_source", "_law_most", "_law_far"] : List Str).length) : bindArgs (PySem.W.fnOf "_law_specs" "_law_specs" (defArgs st__law_specs) (defBody st__law_specs) (defScope st__law_specs) .none kV doc pm an cdv ct) ⟨us, []⟩ = pure ((["_law_source", "_law_most", "_law_far"] : List Str).zip us) :=
  match us, hl with | [_, _, _], _ => rfl
theorem bn_q21 (kV doc pm : Value) (an : Option Addr) (cdv ct : Value) (us : List Value) (hl : us.length = (["_law_source", "_law_most"] : List Str).length) : bindArgs (PySem.W.fnOf "_law_words" "_law_words" (defArgs st__law_words) (defBody st__law_words) (defScope st__law_words) .none kV doc pm an cdv ct) ⟨us, []⟩ = pure ((["_law_source", "_law_most"] : List Str).zip us) :=
  match us, hl with | [_, _], _ => rfl
theorem bn_q22 (kV doc pm : Value) (an : Option Addr) (cdv ct : Value) (us : List Value) (hl : us.length = (["_law_ask"] : List Str).length) : bindArgs (PySem.W.fnOf "_law_error" "_law_error" (defArgs st__law_error) (defBody st__law_error) (defScope st__law_error) .none kV doc pm an cdv ct) ⟨us, []⟩ = pure ((["_law_ask"] : List Str).zip us) :=
  match us, hl with | [_], _ => rfl
theorem bn_q23 (kV doc pm : Value) (an : Option Addr) (cdv ct : Value) (us : List Value) (hl : us.length = (["_law_game"] : List Str).length) : bindArgs (PySem.W.fnOf "_law_calls_right" "_law_calls_right" (defArgs st__law_calls_right) (defBody st__law_calls_right) (defScope st__law_calls_right) .none kV doc pm an cdv ct) ⟨us, []⟩ = pure ((["_law_game"] : List Str).zip us) :=
  match us, hl with | [_], _ => rfl
theorem bn_q24 (kV doc pm : Value) (an : Option Addr) (cdv ct : Value) (us : List Value) (hl : us.length = (["self"] : List Str).length) : bindArgs (PySem.W.fnOf "breaker_list" "Row.breaker_list" (defArgs st_Row_breaker_list) (defBody st_Row_breaker_list) (defScope st_Row_breaker_list) .none kV doc pm an cdv ct) ⟨us, []⟩ = pure ((["self"] : List Str).zip us) :=
  match us, hl with | [_], _ => rfl
theorem bn_q25 (kV doc pm : Value) (an : Option Addr) (cdv ct : Value) (us : List Value) (hl : us.length = (["self"] : List Str).length) : bindArgs (PySem.W.fnOf "step_length" "Row.step_length" (defArgs st_Row_step_length) (defBody st_Row_step_length) (defScope st_Row_step_length) .none kV doc pm an cdv ct) ⟨us, []⟩ = pure ((["self"] : List Str).zip us) :=
  match us, hl with | [_], _ => rfl
theorem bn_q26 (kV doc pm : Value) (an : Option Addr) (cdv ct : Value) (us : List Value) (hl : us.length = (["self"] : List Str).length) : bindArgs (PySem.W.fnOf "phase_time" "Row.phase_time" (defArgs st_Row_phase_time) (defBody st_Row_phase_time) (defScope st_Row_phase_time) .none kV doc pm an cdv ct) ⟨us, []⟩ = pure ((["self"] : List Str).zip us) :=
  match us, hl with | [_], _ => rfl
theorem bn_q27 (kV doc pm : Value) (an : Option Addr) (cdv ct : Value) (us : List Value) (hl : us.length = (["self"] : List Str).length) : bindArgs (PySem.W.fnOf "__len__" "Row.__len__" (defArgs st_Row_len) (defBody st_Row_len) (defScope st_Row_len) .none kV doc pm an cdv ct) ⟨us, []⟩ = pure ((["self"] : List Str).zip us) :=
  match us, hl with | [_], _ => rfl
theorem bn_q28 (kV doc pm : Value) (an : Option Addr) (cdv ct : Value) (us : List Value) (hl : us.length = (["self", "at"] : List Str).length) : bindArgs (PySem.W.fnOf "__getitem__" "Row.__getitem__" (defArgs st_Row_getitem) (defBody st_Row_getitem) (defScope st_Row_getitem) .none kV doc pm an cdv ct) ⟨us, []⟩ = pure ((["self", "at"] : List Str).zip us) :=
  match us, hl with | [_, _], _ => rfl
theorem bn_q29 (kV doc pm : Value) (an : Option Addr) (cdv ct : Value) (us : List Value) (hl : us.length = (["self", "x"] : List Str).length) : bindArgs (PySem.W.fnOf "__contains__" "Row.__contains__" (defArgs st_Row_contains) (defBody st_Row_contains) (defScope st_Row_contains) .none kV doc pm an cdv ct) ⟨us, []⟩ = pure ((["self", "x"] : List Str).zip us) :=
  match us, hl with | [_, _], _ => rfl
theorem bn_q30 (kV doc pm : Value) (an : Option Addr) (cdv ct : Value) (us : List Value) (hl : us.length = (["self", "other"] : List Str).length) : bindArgs (PySem.W.fnOf "__add__" "Row.__add__" (defArgs st_Row_add) (defBody st_Row_add) (defScope st_Row_add) .none kV doc pm an cdv ct) ⟨us, []⟩ = pure ((["self", "other"] : List Str).zip us) :=
  match us, hl with | [_, _], _ => rfl
theorem bn_q31 (kV doc pm : Value) (an : Option Addr) (cdv ct : Value) (us : List Value) (hl : us.length = (["self", "other"] : List Str).length) : bindArgs (PySem.W.fnOf "__eq__" "Row.__eq__" (defArgs st_Row_eq) (defBody st_Row_eq) (defScope st_Row_eq) .none kV doc pm an cdv ct) ⟨us, []⟩ = pure ((["self", "other"] : List Str).zip us) :=
  match us, hl with | [_, _], _ => rfl
theorem bn_NPlaying (kV doc pm : Value) (an : Option Addr) (cdv ct : Value) (us : List Value) (hl : us.length = (["self", "row"] : List Str).length) : bindArgs (PySem.W.fnOf "__init__" "Playing.__init__" (defArgs st_Playing_init) (defBody st_Playing_init) (defScope st_Playing_init) .none kV doc pm an cdv ct) ⟨us, []⟩ = pure ((["self", "row"] : List Str).zip us) :=
  match us, hl with | [_, _], _ => rfl
theorem bn_q32 (kV doc pm : Value) (an : Option Addr) (cdv ct : Value) (us : List Value) (hl : us.length = (["self"] : List Str).length) : bindArgs (PySem.W.fnOf "base_row" "Playing.base_row" (defArgs st_Playing_base_row) (defBody st_Playing_base_row) (defScope st_Playing_base_row) .none kV doc pm an cdv ct) ⟨us, []⟩ = pure ((["self"] : List Str).zip us) :=
  match us, hl with | [_], _ => rfl
theorem bn_q33 (kV doc pm : Value) (an : Option Addr) (cdv ct : Value) (us : List Value) (hl : us.length = (["self"] : List Str).length) : bindArgs (PySem.W.fnOf "next_request" "Playing.next_request" (defArgs st_Playing_next_request) (defBody st_Playing_next_request) (defScope st_Playing_next_request) .none kV doc pm an cdv ct) ⟨us, []⟩ = pure ((["self"] : List Str).zip us) :=
  match us, hl with | [_], _ => rfl
theorem bn_q34 (kV doc pm : Value) (an : Option Addr) (cdv ct : Value) (us : List Value) (hl : us.length = (["self", "word"] : List Str).length) : bindArgs (PySem.W.fnOf "request" "Playing.request" (defArgs st_Playing_request) (defBody st_Playing_request) (defScope st_Playing_request) .none kV doc pm an cdv ct) ⟨us, []⟩ = pure ((["self", "word"] : List Str).zip us) :=
  match us, hl with | [_, _], _ => rfl
theorem bn_q35 (kV doc pm : Value) (an : Option Addr) (cdv ct : Value) (us : List Value) (hl : us.length = (["self"] : List Str).length) : bindArgs (PySem.W.fnOf "state_list" "Playing.state_list" (defArgs st_Playing_state_list) (defBody st_Playing_state_list) (defScope st_Playing_state_list) .none kV doc pm an cdv ct) ⟨us, []⟩ = pure ((["self"] : List Str).zip us) :=
  match us, hl with | [_], _ => rfl
theorem bn_q36 (kV doc pm : Value) (an : Option Addr) (cdv ct : Value) (us : List Value) (hl : us.length = (["self"] : List Str).length) : bindArgs (PySem.W.fnOf "is_whole" "Playing.is_whole" (defArgs st_Playing_is_whole) (defBody st_Playing_is_whole) (defScope st_Playing_is_whole) .none kV doc pm an cdv ct) ⟨us, []⟩ = pure ((["self"] : List Str).zip us) :=
  match us, hl with | [_], _ => rfl
theorem bn_q37 (kV doc pm : Value) (an : Option Addr) (cdv ct : Value) (us : List Value) (hl : us.length = (["self"] : List Str).length) : bindArgs (PySem.W.fnOf "log" "Playing.log" (defArgs st_Playing_log) (defBody st_Playing_log) (defScope st_Playing_log) .none kV doc pm an cdv ct) ⟨us, []⟩ = pure ((["self"] : List Str).zip us) :=
  match us, hl with | [_], _ => rfl
theorem bn_q38 (kV doc pm : Value) (an : Option Addr) (cdv ct : Value) (us : List Value) (hl : us.length = (["self", "count"] : List Str).length) : bindArgs (PySem.W.fnOf "undo" "Playing.undo" (defArgs st_Playing_undo) (defBody st_Playing_undo) (defScope st_Playing_undo) .none kV doc pm an cdv ct) ⟨us, []⟩ = pure ((["self", "count"] : List Str).zip us) :=
  match us, hl with | [_, _], _ => rfl
theorem bn_q39 (kV doc pm : Value) (an : Option Addr) (cdv ct : Value) (us : List Value) (hl : us.length = (["self", "other"] : List Str).length) : bindArgs (PySem.W.fnOf "__eq__" "Playing.__eq__" (defArgs st_Playing_eq) (defBody st_Playing_eq) (defScope st_Playing_eq) .none kV doc pm an cdv ct) ⟨us, []⟩ = pure ((["self", "other"] : List Str).zip us) :=
  match us, hl with | [_, _], _ => rfl
theorem bn_NInvalidRow (kV doc pm : Value) (an : Option Addr) (cdv ct : Value) (us : List Value) (hl : us.length = (["self", "part", "at"] : List Str).length) : bindArgs (PySem.W.fnOf "__init__" "InvalidRow.__init__" (defArgs st_InvalidRow_init) (defBody st_InvalidRow_init) (defScope st_InvalidRow_init) .none kV doc pm an cdv ct) ⟨us, []⟩ = pure ((["self", "part", "at"] : List Str).zip us) :=
  match us, hl with | [_, _, _], _ => rfl
theorem bn_NInvalidBound (kV doc pm : Value) (an : Option Addr) (cdv ct : Value) (us : List Value) (hl : us.length = (["self", "part"] : List Str).length) : bindArgs (PySem.W.fnOf "__init__" "InvalidBound.__init__" (defArgs st_InvalidBound_init) (defBody st_InvalidBound_init) (defScope st_InvalidBound_init) .none kV doc pm an cdv ct) ⟨us, []⟩ = pure ((["self", "part"] : List Str).zip us) :=
  match us, hl with | [_, _], _ => rfl
theorem bn_NInvalidCall (kV doc pm : Value) (an : Option Addr) (cdv ct : Value) (us : List Value) (hl : us.length = (["self", "call"] : List Str).length) : bindArgs (PySem.W.fnOf "__init__" "InvalidCall.__init__" (defArgs st_InvalidCall_init) (defBody st_InvalidCall_init) (defScope st_InvalidCall_init) .none kV doc pm an cdv ct) ⟨us, []⟩ = pure ((["self", "call"] : List Str).zip us) :=
  match us, hl with | [_, _], _ => rfl
theorem bn_NLimitExceeded (kV doc pm : Value) (an : Option Addr) (cdv ct : Value) (us : List Value) (hl : us.length = (["self", "limit"] : List Str).length) : bindArgs (PySem.W.fnOf "__init__" "LimitExceeded.__init__" (defArgs st_LimitExceeded_init) (defBody st_LimitExceeded_init) (defScope st_LimitExceeded_init) .none kV doc pm an cdv ct) ⟨us, []⟩ = pure ((["self", "limit"] : List Str).zip us) :=
  match us, hl with | [_, _], _ => rfl
theorem mk_dfn {K : PySem.W.Frag} {h : Heap} {mg : Str → Option Value} {x : Str} {st : Stmt} {f : Addr} {ps : List Str} {oc : Value} {od an : Option Addr} {sl : Array (Option Value)} {kV dc pm cd ct : Value} (X : K.In h) (G : h.Ns mainGlobals mg) (a : PySem.W.nsIn K mainGlobals x = some (some (.ref f)))
    (l : K.lookup f = some ⟨oc, od, .func (PySem.W.fnOf x x (defArgs st) (defBody st) (defScope st) .none kV dc pm an cd ct), sl⟩) (c : PySem.W.codeIn K cd x = true) (k : PySem.W.keepIn K (.ref f) = true)
    (hb : ∀ (kV doc pm : Value) (an : Option Addr) (cdv ct : Value) (us : List Value), us.length = ps.length → bindArgs (PySem.W.fnOf x x (defArgs st) (defBody st) (defScope st) .none kV doc pm an cdv ct) ⟨us, []⟩ = pure (ps.zip us)) : Dfn K mg x st f ps :=
  ⟨⟨_, fun_mk l c k, (fun_mk l c k).binds hb⟩, PySem.W.mg_of X G a⟩
theorem mk_mth {K : PySem.W.Frag} {C : Addr} {x q : Str} {st : Stmt} {f : Addr} {ps : List Str} {oc : Value} {od an : Option Addr} {sl : Array (Option Value)} {kV dc pm cd ct : Value} (a : PySem.W.findIn K (.ref C) x = some (some (.ref f))) (i : PySem.W.isFn K (.ref f) = true) (fk : PySem.W.fnIn K f = true)
    (l : K.lookup f = some ⟨oc, od, .func (PySem.W.fnOf x q (defArgs st) (defBody st) (defScope st) .none kV dc pm an cd ct), sl⟩) (c : PySem.W.codeIn K cd q = true) (k : PySem.W.keepIn K (.ref f) = true)
    (hb : ∀ (kV doc pm : Value) (an : Option Addr) (cdv ct : Value) (us : List Value), us.length = ps.length → bindArgs (PySem.W.fnOf x q (defArgs st) (defBody st) (defScope st) .none kV doc pm an cdv ct) ⟨us, []⟩ = pure (ps.zip us)) : Mth K C x q st f ps :=
  ⟨⟨_, fun_mk l c k, (fun_mk l c k).binds hb⟩, a, i, fk⟩
set_option maxHeartbeats 16000000 in
theorem all_mk {P : Program} {w : World} {K : PySem.W.Frag} {h : Heap} {mg : Str → Option Value} {lv : List (Str × PySem.W.WData)} {fa aLaw aTSERVED aTFAILED fq0 fq1 fq2 fq3 fq4 fq5 fq6 fq7 fq8 fq9 fq10 fq11 fq12 fq13 fq14 fq15 fq16 fq17 fq18 fq19 fq20 fq21 fq22 fq23 kcq23 ktq23 kcY ktY CRow aIRow aDRow fq24 fq25 fq26 fq27 fq28 fq29 fq30 fq31 CPlaying aIPlaying fq32 fq33 fq34 fq35 fq36 fq37 fq38 fq39 EBreakerError EInvalidRow EInvalidIndex EInvalidBound EInvalidLog EInvalidCall ELimitExceeded aIInvalidRow aIInvalidBound aIInvalidCall aILimitExceeded : Addr} {nmInvalidRow qnInvalidRow : Str} {nnInvalidRow : Addr} {bsInvalidRow sbInvalidRow : List Value} {snInvalidRow : List Str} {abInvalidRow : Bool} {coInvalidRow : Option Bool} {ddInvalidRow : Option Addr} {u0InvalidRow u1InvalidRow u2InvalidRow u3InvalidRow u5InvalidRow : Option Value} {nmInvalidBound qnInvalidBound : Str} {nnInvalidBound : Addr} {bsInvalidBound sbInvalidBound : List Value} {snInvalidBound : List Str} {abInvalidBound : Bool} {coInvalidBound : Option Bool} {ddInvalidBound : Option Addr} {u0InvalidBound u1InvalidBound u2InvalidBound u3InvalidBound u5InvalidBound : Option Value} {nmInvalidCall qnInvalidCall : Str} {nnInvalidCall : Addr} {bsInvalidCall sbInvalidCall : List Value} {snInvalidCall : List Str} {abInvalidCall : Bool} {coInvalidCall : Option Bool} {ddInvalidCall : Option Addr} {u0InvalidCall u1InvalidCall u2InvalidCall u3InvalidCall u5InvalidCall : Option Value} {nmLimitExceeded qnLimitExceeded : Str} {nnLimitExceeded : Addr} {bsLimitExceeded sbLimitExceeded : List Value} {snLimitExceeded : List Str} {abLimitExceeded : Bool} {coLimitExceeded : Option Bool} {ddLimitExceeded : Option Addr} {u0LimitExceeded u1LimitExceeded u2LimitExceeded u3LimitExceeded u5LimitExceeded : Option Value} {tkTSERVED0 tkTFAILED0 tkRow tNMOST_BREAKERS tNMOST_REQUESTS : Tok} {nTSERVED nTFAILED : Nat} {odq0 anq0 odq1 anq1 odq2 anq2 odq3 anq3 odq4 anq4 odq5 anq5 odq6 anq6 odq7 anq7 odq8 anq8 odq9 anq9 odq10 anq10 odq11 anq11 odq12 anq12 odq13 anq13 odq14 anq14 odq15 anq15 odq16 anq16 odq17 anq17 odq18 anq18 odq19 anq19 odq20 anq20 odq21 anq21 odq22 anq22 odq23 anq23 odq24 anq24 odq25 anq25 odq26 anq26 odq27 anq27 odq28 anq28 odq29 anq29 odq30 anq30 odq31 anq31 odq32 anq32 odq33 anq33 odq34 anq34 odq35 anq35 odq36 anq36 odq37 anq37 odq38 anq38 odq39 anq39 odY anY odTSERVED odTFAILED odNRow anNRow odNPlaying anNPlaying odNInvalidRow anNInvalidRow odNInvalidBound anNInvalidBound odNInvalidCall anNInvalidCall odNLimitExceeded anNLimitExceeded : Option Addr} {slq0 slq1 slq2 slq3 slq4 slq5 slq6 slq7 slq8 slq9 slq10 slq11 slq12 slq13 slq14 slq15 slq16 slq17 slq18 slq19 slq20 slq21 slq22 slq23 slq24 slq25 slq26 slq27 slq28 slq29 slq30 slq31 slq32 slq33 slq34 slq35 slq36 slq37 slq38 slq39 slY slTSERVED slTFAILED slNRow slNPlaying slNInvalidRow slNInvalidBound slNInvalidCall slNLimitExceeded : Array (Option Value)} {ocq0 kVq0 dcq0 pmq0 cdq0 ctq0 ocq1 kVq1 dcq1 pmq1 cdq1 ctq1 ocq2 kVq2 dcq2 pmq2 cdq2 ctq2 ocq3 kVq3 dcq3 pmq3 cdq3 ctq3 ocq4 kVq4 dcq4 pmq4 cdq4 ctq4 ocq5 kVq5 dcq5 pmq5 cdq5 ctq5 ocq6 kVq6 dcq6 pmq6 cdq6 ctq6 ocq7 kVq7 dcq7 pmq7 cdq7 ctq7 ocq8 kVq8 dcq8 pmq8 cdq8 ctq8 ocq9 kVq9 dcq9 pmq9 cdq9 ctq9 ocq10 kVq10 dcq10 pmq10 cdq10 ctq10 ocq11 kVq11 dcq11 pmq11 cdq11 ctq11 ocq12 kVq12 dcq12 pmq12 cdq12 ctq12 ocq13 kVq13 dcq13 pmq13 cdq13 ctq13 ocq14 kVq14 dcq14 pmq14 cdq14 ctq14 ocq15 kVq15 dcq15 pmq15 cdq15 ctq15 ocq16 kVq16 dcq16 pmq16 cdq16 ctq16 ocq17 kVq17 dcq17 pmq17 cdq17 ctq17 ocq18 kVq18 dcq18 pmq18 cdq18 ctq18 ocq19 kVq19 dcq19 pmq19 cdq19 ctq19 ocq20 kVq20 dcq20 pmq20 cdq20 ctq20 ocq21 kVq21 dcq21 pmq21 cdq21 ctq21 ocq22 kVq22 dcq22 pmq22 cdq22 ctq22 ocq23 kVq23 dcq23 pmq23 ctq23 ocq24 kVq24 dcq24 pmq24 cdq24 ctq24 ocq25 kVq25 dcq25 pmq25 cdq25 ctq25 ocq26 kVq26 dcq26 pmq26 cdq26 ctq26 ocq27 kVq27 dcq27 pmq27 cdq27 ctq27 ocq28 kVq28 dcq28 pmq28 cdq28 ctq28 ocq29 kVq29 dcq29 pmq29 cdq29 ctq29 ocq30 kVq30 dcq30 pmq30 cdq30 ctq30 ocq31 kVq31 dcq31 pmq31 cdq31 ctq31 ocq32 kVq32 dcq32 pmq32 cdq32 ctq32 ocq33 kVq33 dcq33 pmq33 cdq33 ctq33 ocq34 kVq34 dcq34 pmq34 cdq34 ctq34 ocq35 kVq35 dcq35 pmq35 cdq35 ctq35 ocq36 kVq36 dcq36 pmq36 cdq36 ctq36 ocq37 kVq37 dcq37 pmq37 cdq37 ctq37 ocq38 kVq38 dcq38 pmq38 cdq38 ctq38 ocq39 kVq39 dcq39 pmq39 cdq39 ctq39 ocY kVY dcY pmY ctY ocNRow dcNRow pmNRow cdNRow ctNRow ocNPlaying dcNPlaying pmNPlaying cdNPlaying ctNPlaying kVNPlaying ocNInvalidRow kVNInvalidRow dcNInvalidRow pmNInvalidRow cdNInvalidRow ctNInvalidRow ocNInvalidBound kVNInvalidBound dcNInvalidBound pmNInvalidBound cdNInvalidBound ctNInvalidBound ocNInvalidCall kVNInvalidCall dcNInvalidCall pmNInvalidCall cdNInvalidCall ctNInvalidCall ocNLimitExceeded kVNLimitExceeded dcNLimitExceeded pmNLimitExceeded cdNLimitExceeded ctNLimitExceeded : Value}
    (X : K.In h) (G : h.Ns mainGlobals mg) (LL : PySem.W.LooseAre lv mg h) (hLMOST_COUNT : (("MOST_COUNT" : Str), PySem.W.WData.int 1000000000000) ∈ lv) (hLMOST_TIME : (("MOST_TIME" : Str), PySem.W.WData.int 1000000000000000000000000000000) ∈ lv) (hfa : mg "law" = some (.ref fa))
    (gTSERVED : PySem.W.nsIn K mainGlobals "SERVED" = some (some (.ref aTSERVED)))
    (lTSERVED : K.lookup aTSERVED = some ⟨.type "tuple", odTSERVED, .seq #[.str "served" tkTSERVED0] nTSERVED, slTSERVED⟩)
    (gTFAILED : PySem.W.nsIn K mainGlobals "FAILED" = some (some (.ref aTFAILED)))
    (lTFAILED : K.lookup aTFAILED = some ⟨.type "tuple", odTFAILED, .seq #[.str "failed" tkTFAILED0] nTFAILED, slTFAILED⟩)
    (aq0 : PySem.W.nsIn K mainGlobals "_wall" = some (some (.ref fq0)))
    (lq0 : K.lookup fq0 = some ⟨ocq0, odq0, .func (PySem.W.fnOf "_wall" "_wall" (defArgs st__wall) (defBody st__wall) (defScope st__wall) .none kVq0 dcq0 pmq0 anq0 cdq0 ctq0), slq0⟩)
    (cq0 : PySem.W.codeIn K cdq0 "_wall" = true)
    (kq0 : PySem.W.keepIn K (.ref fq0) = true)
    (aq1 : PySem.W.nsIn K mainGlobals "is_integer" = some (some (.ref fq1)))
    (lq1 : K.lookup fq1 = some ⟨ocq1, odq1, .func (PySem.W.fnOf "is_integer" "is_integer" (defArgs st_is_integer) (defBody st_is_integer) (defScope st_is_integer) .none kVq1 dcq1 pmq1 anq1 cdq1 ctq1), slq1⟩)
    (cq1 : PySem.W.codeIn K cdq1 "is_integer" = true)
    (kq1 : PySem.W.keepIn K (.ref fq1) = true)
    (aq2 : PySem.W.nsIn K mainGlobals "is_at_least" = some (some (.ref fq2)))
    (lq2 : K.lookup fq2 = some ⟨ocq2, odq2, .func (PySem.W.fnOf "is_at_least" "is_at_least" (defArgs st_is_at_least) (defBody st_is_at_least) (defScope st_is_at_least) .none kVq2 dcq2 pmq2 anq2 cdq2 ctq2), slq2⟩)
    (cq2 : PySem.W.codeIn K cdq2 "is_at_least" = true)
    (kq2 : PySem.W.keepIn K (.ref fq2) = true)
    (aq3 : PySem.W.nsIn K mainGlobals "is_within" = some (some (.ref fq3)))
    (lq3 : K.lookup fq3 = some ⟨ocq3, odq3, .func (PySem.W.fnOf "is_within" "is_within" (defArgs st_is_within) (defBody st_is_within) (defScope st_is_within) .none kVq3 dcq3 pmq3 anq3 cdq3 ctq3), slq3⟩)
    (cq3 : PySem.W.codeIn K cdq3 "is_within" = true)
    (kq3 : PySem.W.keepIn K (.ref fq3) = true)
    (aq4 : PySem.W.nsIn K mainGlobals "is_breaker" = some (some (.ref fq4)))
    (lq4 : K.lookup fq4 = some ⟨ocq4, odq4, .func (PySem.W.fnOf "is_breaker" "is_breaker" (defArgs st_is_breaker) (defBody st_is_breaker) (defScope st_is_breaker) .none kVq4 dcq4 pmq4 anq4 cdq4 ctq4), slq4⟩)
    (cq4 : PySem.W.codeIn K cdq4 "is_breaker" = true)
    (kq4 : PySem.W.keepIn K (.ref fq4) = true)
    (aq5 : PySem.W.nsIn K mainGlobals "check_breakers" = some (some (.ref fq5)))
    (lq5 : K.lookup fq5 = some ⟨ocq5, odq5, .func (PySem.W.fnOf "check_breakers" "check_breakers" (defArgs st_check_breakers) (defBody st_check_breakers) (defScope st_check_breakers) .none kVq5 dcq5 pmq5 anq5 cdq5 ctq5), slq5⟩)
    (cq5 : PySem.W.codeIn K cdq5 "check_breakers" = true)
    (kq5 : PySem.W.keepIn K (.ref fq5) = true)
    (aq6 : PySem.W.nsIn K mainGlobals "check_step" = some (some (.ref fq6)))
    (lq6 : K.lookup fq6 = some ⟨ocq6, odq6, .func (PySem.W.fnOf "check_step" "check_step" (defArgs st_check_step) (defBody st_check_step) (defScope st_check_step) .none kVq6 dcq6 pmq6 anq6 cdq6 ctq6), slq6⟩)
    (cq6 : PySem.W.codeIn K cdq6 "check_step" = true)
    (kq6 : PySem.W.keepIn K (.ref fq6) = true)
    (aq7 : PySem.W.nsIn K mainGlobals "request_time" = some (some (.ref fq7)))
    (lq7 : K.lookup fq7 = some ⟨ocq7, odq7, .func (PySem.W.fnOf "request_time" "request_time" (defArgs st_request_time) (defBody st_request_time) (defScope st_request_time) .none kVq7 dcq7 pmq7 anq7 cdq7 ctq7), slq7⟩)
    (cq7 : PySem.W.codeIn K cdq7 "request_time" = true)
    (kq7 : PySem.W.keepIn K (.ref fq7) = true)
    (aq8 : PySem.W.nsIn K mainGlobals "closed_states" = some (some (.ref fq8)))
    (lq8 : K.lookup fq8 = some ⟨ocq8, odq8, .func (PySem.W.fnOf "closed_states" "closed_states" (defArgs st_closed_states) (defBody st_closed_states) (defScope st_closed_states) .none kVq8 dcq8 pmq8 anq8 cdq8 ctq8), slq8⟩)
    (cq8 : PySem.W.codeIn K cdq8 "closed_states" = true)
    (kq8 : PySem.W.keepIn K (.ref fq8) = true)
    (aq9 : PySem.W.nsIn K mainGlobals "passes" = some (some (.ref fq9)))
    (lq9 : K.lookup fq9 = some ⟨ocq9, odq9, .func (PySem.W.fnOf "passes" "passes" (defArgs st_passes) (defBody st_passes) (defScope st_passes) .none kVq9 dcq9 pmq9 anq9 cdq9 ctq9), slq9⟩)
    (cq9 : PySem.W.codeIn K cdq9 "passes" = true)
    (kq9 : PySem.W.keepIn K (.ref fq9) = true)
    (aq10 : PySem.W.nsIn K mainGlobals "state_behind" = some (some (.ref fq10)))
    (lq10 : K.lookup fq10 = some ⟨ocq10, odq10, .func (PySem.W.fnOf "state_behind" "state_behind" (defArgs st_state_behind) (defBody st_state_behind) (defScope st_state_behind) .none kVq10 dcq10 pmq10 anq10 cdq10 ctq10), slq10⟩)
    (cq10 : PySem.W.codeIn K cdq10 "state_behind" = true)
    (kq10 : PySem.W.keepIn K (.ref fq10) = true)
    (aq11 : PySem.W.nsIn K mainGlobals "sent" = some (some (.ref fq11)))
    (lq11 : K.lookup fq11 = some ⟨ocq11, odq11, .func (PySem.W.fnOf "sent" "sent" (defArgs st_sent) (defBody st_sent) (defScope st_sent) .none kVq11 dcq11 pmq11 anq11 cdq11 ctq11), slq11⟩)
    (cq11 : PySem.W.codeIn K cdq11 "sent" = true)
    (kq11 : PySem.W.keepIn K (.ref fq11) = true)
    (aq12 : PySem.W.nsIn K mainGlobals "is_word" = some (some (.ref fq12)))
    (lq12 : K.lookup fq12 = some ⟨ocq12, odq12, .func (PySem.W.fnOf "is_word" "is_word" (defArgs st_is_word) (defBody st_is_word) (defScope st_is_word) .none kVq12 dcq12 pmq12 anq12 cdq12 ctq12), slq12⟩)
    (cq12 : PySem.W.codeIn K cdq12 "is_word" = true)
    (kq12 : PySem.W.keepIn K (.ref fq12) = true)
    (aq13 : PySem.W.nsIn K mainGlobals "check_words" = some (some (.ref fq13)))
    (lq13 : K.lookup fq13 = some ⟨ocq13, odq13, .func (PySem.W.fnOf "check_words" "check_words" (defArgs st_check_words) (defBody st_check_words) (defScope st_check_words) .none kVq13 dcq13 pmq13 anq13 cdq13 ctq13), slq13⟩)
    (cq13 : PySem.W.codeIn K cdq13 "check_words" = true)
    (kq13 : PySem.W.keepIn K (.ref fq13) = true)
    (aq14 : PySem.W.nsIn K mainGlobals "played" = some (some (.ref fq14)))
    (lq14 : K.lookup fq14 = some ⟨ocq14, odq14, .func (PySem.W.fnOf "played" "played" (defArgs st_played) (defBody st_played) (defScope st_played) .none kVq14 dcq14 pmq14 anq14 cdq14 ctq14), slq14⟩)
    (cq14 : PySem.W.codeIn K cdq14 "played" = true)
    (kq14 : PySem.W.keepIn K (.ref fq14) = true)
    (aq15 : PySem.W.nsIn K mainGlobals "replay" = some (some (.ref fq15)))
    (lq15 : K.lookup fq15 = some ⟨ocq15, odq15, .func (PySem.W.fnOf "replay" "replay" (defArgs st_replay) (defBody st_replay) (defScope st_replay) .none kVq15 dcq15 pmq15 anq15 cdq15 ctq15), slq15⟩)
    (cq15 : PySem.W.codeIn K cdq15 "replay" = true)
    (kq15 : PySem.W.keepIn K (.ref fq15) = true)
    (aq16 : PySem.W.nsIn K mainGlobals "_law_cell_at" = some (some (.ref fq16)))
    (lq16 : K.lookup fq16 = some ⟨ocq16, odq16, .func (PySem.W.fnOf "_law_cell_at" "_law_cell_at" (defArgs st__law_cell_at) (defBody st__law_cell_at) (defScope st__law_cell_at) .none kVq16 dcq16 pmq16 anq16 cdq16 ctq16), slq16⟩)
    (cq16 : PySem.W.codeIn K cdq16 "_law_cell_at" = true)
    (kq16 : PySem.W.keepIn K (.ref fq16) = true)
    (aq17 : PySem.W.nsIn K mainGlobals "_law_source_of" = some (some (.ref fq17)))
    (lq17 : K.lookup fq17 = some ⟨ocq17, odq17, .func (PySem.W.fnOf "_law_source_of" "_law_source_of" (defArgs st__law_source_of) (defBody st__law_source_of) (defScope st__law_source_of) .none kVq17 dcq17 pmq17 anq17 cdq17 ctq17), slq17⟩)
    (cq17 : PySem.W.codeIn K cdq17 "_law_source_of" = true)
    (kq17 : PySem.W.keepIn K (.ref fq17) = true)
    (aq18 : PySem.W.nsIn K mainGlobals "_law_draw" = some (some (.ref fq18)))
    (lq18 : K.lookup fq18 = some ⟨ocq18, odq18, .func (PySem.W.fnOf "_law_draw" "_law_draw" (defArgs st__law_draw) (defBody st__law_draw) (defScope st__law_draw) .none kVq18 dcq18 pmq18 anq18 cdq18 ctq18), slq18⟩)
    (cq18 : PySem.W.codeIn K cdq18 "_law_draw" = true)
    (kq18 : PySem.W.keepIn K (.ref fq18) = true)
    (aq19 : PySem.W.nsIn K mainGlobals "_law_choice" = some (some (.ref fq19)))
    (lq19 : K.lookup fq19 = some ⟨ocq19, odq19, .func (PySem.W.fnOf "_law_choice" "_law_choice" (defArgs st__law_choice) (defBody st__law_choice) (defScope st__law_choice) .none kVq19 dcq19 pmq19 anq19 cdq19 ctq19), slq19⟩)
    (cq19 : PySem.W.codeIn K cdq19 "_law_choice" = true)
    (kq19 : PySem.W.keepIn K (.ref fq19) = true)
    (aq20 : PySem.W.nsIn K mainGlobals "_law_specs" = some (some (.ref fq20)))
    (lq20 : K.lookup fq20 = some ⟨ocq20, odq20, .func (PySem.W.fnOf "_law_specs" "_law_specs" (defArgs st__law_specs) (defBody st__law_specs) (defScope st__law_specs) .none kVq20 dcq20 pmq20 anq20 cdq20 ctq20), slq20⟩)
    (cq20 : PySem.W.codeIn K cdq20 "_law_specs" = true)
    (kq20 : PySem.W.keepIn K (.ref fq20) = true)
    (aq21 : PySem.W.nsIn K mainGlobals "_law_words" = some (some (.ref fq21)))
    (lq21 : K.lookup fq21 = some ⟨ocq21, odq21, .func (PySem.W.fnOf "_law_words" "_law_words" (defArgs st__law_words) (defBody st__law_words) (defScope st__law_words) .none kVq21 dcq21 pmq21 anq21 cdq21 ctq21), slq21⟩)
    (cq21 : PySem.W.codeIn K cdq21 "_law_words" = true)
    (kq21 : PySem.W.keepIn K (.ref fq21) = true)
    (aq22 : PySem.W.nsIn K mainGlobals "_law_error" = some (some (.ref fq22)))
    (lq22 : K.lookup fq22 = some ⟨ocq22, odq22, .func (PySem.W.fnOf "_law_error" "_law_error" (defArgs st__law_error) (defBody st__law_error) (defScope st__law_error) .none kVq22 dcq22 pmq22 anq22 cdq22 ctq22), slq22⟩)
    (cq22 : PySem.W.codeIn K cdq22 "_law_error" = true)
    (kq22 : PySem.W.keepIn K (.ref fq22) = true)
    (aq23 : PySem.W.nsIn K mainGlobals "_law_calls_right" = some (some (.ref fq23)))
    (lq23 : K.lookup fq23 = some ⟨ocq23, odq23, .func (PySem.W.fnOf "_law_calls_right" "_law_calls_right" (defArgs st__law_calls_right) (defBody st__law_calls_right) (defScope st__law_calls_right) .none kVq23 dcq23 pmq23 anq23 (.ref kcq23) ctq23), slq23⟩)
    (cq23 : PySem.W.codeIn K (.ref kcq23) "_law_calls_right" = true)
    (kq23 : PySem.W.keepIn K (.ref fq23) = true)
    (gcRow : PySem.W.nsIn K mainGlobals "Row" = some (some (.ref CRow)))
    (gRow0 : PySem.W.plainGet K CRow Str.empty = true)
    (gRow1 : PySem.W.hasDictIn K CRow = true)
    (gRow2 : PySem.W.plainOver K CRow = true)
    (gRow3 : PySem.W.findIn K (.ref CRow) "__setattr__" = some (some (.builtin "object.__setattr__")))
    (gRow4 : PySem.W.makesIn K CRow = true)
    (gRow5 : PySem.W.keepIn K (.ref CRow) = true)
    (gRow6 : PySem.W.isClsIn K CRow = true)
    (gRow7 : PySem.W.typeIn K (.ref CRow) = some (.type "type"))
    (gRow8 : PySem.W.findIn K (.ref CRow) "__class__" = some (some (.builtin "object.__class__")))
    (gRow9 : PySem.W.mroIn K CRow (.type "object") = some true)
    (gRow10 : PySem.W.selfFirst K CRow = true)
    (gRow11 : PySem.W.findIn K (.ref CRow) "__ne__" = some (some (.builtin "object.__ne__")))
    (gO1 : PySem.W.specialIn K (.builtin "object.__class__") "__get__" = some (some (.builtin "getset_descriptor.__get__")))
    (gO2 : PySem.W.takesIn K (.builtin "object.__class__") = some true)
    (nfRow_breakers : PySem.W.findIn K (.ref CRow) "breakers" = some none)
    (nfRow_step : PySem.W.findIn K (.ref CRow) "step" = some none)
    (nfRow_phase : PySem.W.findIn K (.ref CRow) "phase" = some none)
    (aNRow : PySem.W.findIn K (.ref CRow) "__init__" = some (some (.ref aIRow)))
    (iNRow : PySem.W.isFn K (.ref aIRow) = true)
    (lNRow : K.lookup aIRow = some ⟨ocNRow, odNRow, .func (PySem.W.fnOf "__init__" "Row.__init__" (defArgs st_Row_init) (defBody st_Row_init) (defScope st_Row_init) .none (.ref aDRow) dcNRow pmNRow anNRow cdNRow ctNRow), slNRow⟩)
    (cNRow : PySem.W.codeIn K cdNRow "Row.__init__" = true)
    (kNRow : PySem.W.keepIn K (.ref aIRow) = true)
    (dRow : PySem.W.nsIn K aDRow "phase" = some (some (.int 0 tkRow)))
    (aq24 : PySem.W.findIn K (.ref CRow) "breaker_list" = some (some (.ref fq24)))
    (iq24 : PySem.W.isFn K (.ref fq24) = true)
    (nq24 : PySem.W.fnIn K fq24 = true)
    (lq24 : K.lookup fq24 = some ⟨ocq24, odq24, .func (PySem.W.fnOf "breaker_list" "Row.breaker_list" (defArgs st_Row_breaker_list) (defBody st_Row_breaker_list) (defScope st_Row_breaker_list) .none kVq24 dcq24 pmq24 anq24 cdq24 ctq24), slq24⟩)
    (cq24 : PySem.W.codeIn K cdq24 "Row.breaker_list" = true)
    (kq24 : PySem.W.keepIn K (.ref fq24) = true)
    (aq25 : PySem.W.findIn K (.ref CRow) "step_length" = some (some (.ref fq25)))
    (iq25 : PySem.W.isFn K (.ref fq25) = true)
    (nq25 : PySem.W.fnIn K fq25 = true)
    (lq25 : K.lookup fq25 = some ⟨ocq25, odq25, .func (PySem.W.fnOf "step_length" "Row.step_length" (defArgs st_Row_step_length) (defBody st_Row_step_length) (defScope st_Row_step_length) .none kVq25 dcq25 pmq25 anq25 cdq25 ctq25), slq25⟩)
    (cq25 : PySem.W.codeIn K cdq25 "Row.step_length" = true)
    (kq25 : PySem.W.keepIn K (.ref fq25) = true)
    (aq26 : PySem.W.findIn K (.ref CRow) "phase_time" = some (some (.ref fq26)))
    (iq26 : PySem.W.isFn K (.ref fq26) = true)
    (nq26 : PySem.W.fnIn K fq26 = true)
    (lq26 : K.lookup fq26 = some ⟨ocq26, odq26, .func (PySem.W.fnOf "phase_time" "Row.phase_time" (defArgs st_Row_phase_time) (defBody st_Row_phase_time) (defScope st_Row_phase_time) .none kVq26 dcq26 pmq26 anq26 cdq26 ctq26), slq26⟩)
    (cq26 : PySem.W.codeIn K cdq26 "Row.phase_time" = true)
    (kq26 : PySem.W.keepIn K (.ref fq26) = true)
    (aq27 : PySem.W.findIn K (.ref CRow) "__len__" = some (some (.ref fq27)))
    (iq27 : PySem.W.isFn K (.ref fq27) = true)
    (nq27 : PySem.W.fnIn K fq27 = true)
    (lq27 : K.lookup fq27 = some ⟨ocq27, odq27, .func (PySem.W.fnOf "__len__" "Row.__len__" (defArgs st_Row_len) (defBody st_Row_len) (defScope st_Row_len) .none kVq27 dcq27 pmq27 anq27 cdq27 ctq27), slq27⟩)
    (cq27 : PySem.W.codeIn K cdq27 "Row.__len__" = true)
    (kq27 : PySem.W.keepIn K (.ref fq27) = true)
    (aq28 : PySem.W.findIn K (.ref CRow) "__getitem__" = some (some (.ref fq28)))
    (iq28 : PySem.W.isFn K (.ref fq28) = true)
    (nq28 : PySem.W.fnIn K fq28 = true)
    (lq28 : K.lookup fq28 = some ⟨ocq28, odq28, .func (PySem.W.fnOf "__getitem__" "Row.__getitem__" (defArgs st_Row_getitem) (defBody st_Row_getitem) (defScope st_Row_getitem) .none kVq28 dcq28 pmq28 anq28 cdq28 ctq28), slq28⟩)
    (cq28 : PySem.W.codeIn K cdq28 "Row.__getitem__" = true)
    (kq28 : PySem.W.keepIn K (.ref fq28) = true)
    (aq29 : PySem.W.findIn K (.ref CRow) "__contains__" = some (some (.ref fq29)))
    (iq29 : PySem.W.isFn K (.ref fq29) = true)
    (nq29 : PySem.W.fnIn K fq29 = true)
    (lq29 : K.lookup fq29 = some ⟨ocq29, odq29, .func (PySem.W.fnOf "__contains__" "Row.__contains__" (defArgs st_Row_contains) (defBody st_Row_contains) (defScope st_Row_contains) .none kVq29 dcq29 pmq29 anq29 cdq29 ctq29), slq29⟩)
    (cq29 : PySem.W.codeIn K cdq29 "Row.__contains__" = true)
    (kq29 : PySem.W.keepIn K (.ref fq29) = true)
    (aq30 : PySem.W.findIn K (.ref CRow) "__add__" = some (some (.ref fq30)))
    (iq30 : PySem.W.isFn K (.ref fq30) = true)
    (nq30 : PySem.W.fnIn K fq30 = true)
    (lq30 : K.lookup fq30 = some ⟨ocq30, odq30, .func (PySem.W.fnOf "__add__" "Row.__add__" (defArgs st_Row_add) (defBody st_Row_add) (defScope st_Row_add) .none kVq30 dcq30 pmq30 anq30 cdq30 ctq30), slq30⟩)
    (cq30 : PySem.W.codeIn K cdq30 "Row.__add__" = true)
    (kq30 : PySem.W.keepIn K (.ref fq30) = true)
    (aq31 : PySem.W.findIn K (.ref CRow) "__eq__" = some (some (.ref fq31)))
    (iq31 : PySem.W.isFn K (.ref fq31) = true)
    (nq31 : PySem.W.fnIn K fq31 = true)
    (lq31 : K.lookup fq31 = some ⟨ocq31, odq31, .func (PySem.W.fnOf "__eq__" "Row.__eq__" (defArgs st_Row_eq) (defBody st_Row_eq) (defScope st_Row_eq) .none kVq31 dcq31 pmq31 anq31 cdq31 ctq31), slq31⟩)
    (cq31 : PySem.W.codeIn K cdq31 "Row.__eq__" = true)
    (kq31 : PySem.W.keepIn K (.ref fq31) = true)
    (gcPlaying : PySem.W.nsIn K mainGlobals "Playing" = some (some (.ref CPlaying)))
    (gPlaying0 : PySem.W.plainGet K CPlaying Str.empty = true)
    (gPlaying1 : PySem.W.hasDictIn K CPlaying = true)
    (gPlaying2 : PySem.W.plainOver K CPlaying = true)
    (gPlaying3 : PySem.W.findIn K (.ref CPlaying) "__setattr__" = some (some (.builtin "object.__setattr__")))
    (gPlaying4 : PySem.W.makesIn K CPlaying = true)
    (gPlaying5 : PySem.W.keepIn K (.ref CPlaying) = true)
    (gPlaying6 : PySem.W.isClsIn K CPlaying = true)
    (gPlaying7 : PySem.W.typeIn K (.ref CPlaying) = some (.type "type"))
    (gPlaying8 : PySem.W.findIn K (.ref CPlaying) "__class__" = some (some (.builtin "object.__class__")))
    (gPlaying9 : PySem.W.mroIn K CPlaying (.type "object") = some true)
    (gPlaying10 : PySem.W.selfFirst K CPlaying = true)
    (gPlaying11 : PySem.W.findIn K (.ref CPlaying) "__ne__" = some (some (.builtin "object.__ne__")))
    (nfPlaying_row : PySem.W.findIn K (.ref CPlaying) "row" = some none)
    (nfPlaying_words : PySem.W.findIn K (.ref CPlaying) "words" = some none)
    (nfPlaying_history : PySem.W.findIn K (.ref CPlaying) "history" = some none)
    (aNPlaying : PySem.W.findIn K (.ref CPlaying) "__init__" = some (some (.ref aIPlaying)))
    (iNPlaying : PySem.W.isFn K (.ref aIPlaying) = true)
    (lNPlaying : K.lookup aIPlaying = some ⟨ocNPlaying, odNPlaying, .func (PySem.W.fnOf "__init__" "Playing.__init__" (defArgs st_Playing_init) (defBody st_Playing_init) (defScope st_Playing_init) .none kVNPlaying dcNPlaying pmNPlaying anNPlaying cdNPlaying ctNPlaying), slNPlaying⟩)
    (cNPlaying : PySem.W.codeIn K cdNPlaying "Playing.__init__" = true)
    (kNPlaying : PySem.W.keepIn K (.ref aIPlaying) = true)
    (aq32 : PySem.W.findIn K (.ref CPlaying) "base_row" = some (some (.ref fq32)))
    (iq32 : PySem.W.isFn K (.ref fq32) = true)
    (nq32 : PySem.W.fnIn K fq32 = true)
    (lq32 : K.lookup fq32 = some ⟨ocq32, odq32, .func (PySem.W.fnOf "base_row" "Playing.base_row" (defArgs st_Playing_base_row) (defBody st_Playing_base_row) (defScope st_Playing_base_row) .none kVq32 dcq32 pmq32 anq32 cdq32 ctq32), slq32⟩)
    (cq32 : PySem.W.codeIn K cdq32 "Playing.base_row" = true)
    (kq32 : PySem.W.keepIn K (.ref fq32) = true)
    (aq33 : PySem.W.findIn K (.ref CPlaying) "next_request" = some (some (.ref fq33)))
    (iq33 : PySem.W.isFn K (.ref fq33) = true)
    (nq33 : PySem.W.fnIn K fq33 = true)
    (lq33 : K.lookup fq33 = some ⟨ocq33, odq33, .func (PySem.W.fnOf "next_request" "Playing.next_request" (defArgs st_Playing_next_request) (defBody st_Playing_next_request) (defScope st_Playing_next_request) .none kVq33 dcq33 pmq33 anq33 cdq33 ctq33), slq33⟩)
    (cq33 : PySem.W.codeIn K cdq33 "Playing.next_request" = true)
    (kq33 : PySem.W.keepIn K (.ref fq33) = true)
    (aq34 : PySem.W.findIn K (.ref CPlaying) "request" = some (some (.ref fq34)))
    (iq34 : PySem.W.isFn K (.ref fq34) = true)
    (nq34 : PySem.W.fnIn K fq34 = true)
    (lq34 : K.lookup fq34 = some ⟨ocq34, odq34, .func (PySem.W.fnOf "request" "Playing.request" (defArgs st_Playing_request) (defBody st_Playing_request) (defScope st_Playing_request) .none kVq34 dcq34 pmq34 anq34 cdq34 ctq34), slq34⟩)
    (cq34 : PySem.W.codeIn K cdq34 "Playing.request" = true)
    (kq34 : PySem.W.keepIn K (.ref fq34) = true)
    (aq35 : PySem.W.findIn K (.ref CPlaying) "state_list" = some (some (.ref fq35)))
    (iq35 : PySem.W.isFn K (.ref fq35) = true)
    (nq35 : PySem.W.fnIn K fq35 = true)
    (lq35 : K.lookup fq35 = some ⟨ocq35, odq35, .func (PySem.W.fnOf "state_list" "Playing.state_list" (defArgs st_Playing_state_list) (defBody st_Playing_state_list) (defScope st_Playing_state_list) .none kVq35 dcq35 pmq35 anq35 cdq35 ctq35), slq35⟩)
    (cq35 : PySem.W.codeIn K cdq35 "Playing.state_list" = true)
    (kq35 : PySem.W.keepIn K (.ref fq35) = true)
    (aq36 : PySem.W.findIn K (.ref CPlaying) "is_whole" = some (some (.ref fq36)))
    (iq36 : PySem.W.isFn K (.ref fq36) = true)
    (nq36 : PySem.W.fnIn K fq36 = true)
    (lq36 : K.lookup fq36 = some ⟨ocq36, odq36, .func (PySem.W.fnOf "is_whole" "Playing.is_whole" (defArgs st_Playing_is_whole) (defBody st_Playing_is_whole) (defScope st_Playing_is_whole) .none kVq36 dcq36 pmq36 anq36 cdq36 ctq36), slq36⟩)
    (cq36 : PySem.W.codeIn K cdq36 "Playing.is_whole" = true)
    (kq36 : PySem.W.keepIn K (.ref fq36) = true)
    (aq37 : PySem.W.findIn K (.ref CPlaying) "log" = some (some (.ref fq37)))
    (iq37 : PySem.W.isFn K (.ref fq37) = true)
    (nq37 : PySem.W.fnIn K fq37 = true)
    (lq37 : K.lookup fq37 = some ⟨ocq37, odq37, .func (PySem.W.fnOf "log" "Playing.log" (defArgs st_Playing_log) (defBody st_Playing_log) (defScope st_Playing_log) .none kVq37 dcq37 pmq37 anq37 cdq37 ctq37), slq37⟩)
    (cq37 : PySem.W.codeIn K cdq37 "Playing.log" = true)
    (kq37 : PySem.W.keepIn K (.ref fq37) = true)
    (aq38 : PySem.W.findIn K (.ref CPlaying) "undo" = some (some (.ref fq38)))
    (iq38 : PySem.W.isFn K (.ref fq38) = true)
    (nq38 : PySem.W.fnIn K fq38 = true)
    (lq38 : K.lookup fq38 = some ⟨ocq38, odq38, .func (PySem.W.fnOf "undo" "Playing.undo" (defArgs st_Playing_undo) (defBody st_Playing_undo) (defScope st_Playing_undo) .none kVq38 dcq38 pmq38 anq38 cdq38 ctq38), slq38⟩)
    (cq38 : PySem.W.codeIn K cdq38 "Playing.undo" = true)
    (kq38 : PySem.W.keepIn K (.ref fq38) = true)
    (aq39 : PySem.W.findIn K (.ref CPlaying) "__eq__" = some (some (.ref fq39)))
    (iq39 : PySem.W.isFn K (.ref fq39) = true)
    (nq39 : PySem.W.fnIn K fq39 = true)
    (lq39 : K.lookup fq39 = some ⟨ocq39, odq39, .func (PySem.W.fnOf "__eq__" "Playing.__eq__" (defArgs st_Playing_eq) (defBody st_Playing_eq) (defScope st_Playing_eq) .none kVq39 dcq39 pmq39 anq39 cdq39 ctq39), slq39⟩)
    (cq39 : PySem.W.codeIn K cdq39 "Playing.__eq__" = true)
    (kq39 : PySem.W.keepIn K (.ref fq39) = true)
    (geBreakerError : PySem.W.nsIn K mainGlobals "BreakerError" = some (some (.ref EBreakerError)))
    (xaBreakerError : PySem.W.findIn K (.ref EBreakerError) "__getattribute__" = some (some (.builtin "BaseException.__getattribute__")))
    (xbBreakerError : PySem.W.findIn K (.ref EBreakerError) "__getattr__" = some none)
    (xcBreakerError : PySem.W.subIn K (.ref EBreakerError) (.type "BaseException") = some true)
    (xdBreakerError : PySem.W.hasDictIn K EBreakerError = true)
    (xeBreakerError : PySem.W.typeIn K (.ref EBreakerError) = some (.type "type"))
    (geInvalidRow : PySem.W.nsIn K mainGlobals "InvalidRow" = some (some (.ref EInvalidRow)))
    (xaInvalidRow : PySem.W.findIn K (.ref EInvalidRow) "__getattribute__" = some (some (.builtin "BaseException.__getattribute__")))
    (xbInvalidRow : PySem.W.findIn K (.ref EInvalidRow) "__getattr__" = some none)
    (xcInvalidRow : PySem.W.subIn K (.ref EInvalidRow) (.type "BaseException") = some true)
    (xdInvalidRow : PySem.W.hasDictIn K EInvalidRow = true)
    (xeInvalidRow : PySem.W.typeIn K (.ref EInvalidRow) = some (.type "type"))
    (geInvalidIndex : PySem.W.nsIn K mainGlobals "InvalidIndex" = some (some (.ref EInvalidIndex)))
    (xaInvalidIndex : PySem.W.findIn K (.ref EInvalidIndex) "__getattribute__" = some (some (.builtin "BaseException.__getattribute__")))
    (xbInvalidIndex : PySem.W.findIn K (.ref EInvalidIndex) "__getattr__" = some none)
    (xcInvalidIndex : PySem.W.subIn K (.ref EInvalidIndex) (.type "BaseException") = some true)
    (xdInvalidIndex : PySem.W.hasDictIn K EInvalidIndex = true)
    (xeInvalidIndex : PySem.W.typeIn K (.ref EInvalidIndex) = some (.type "type"))
    (geInvalidBound : PySem.W.nsIn K mainGlobals "InvalidBound" = some (some (.ref EInvalidBound)))
    (xaInvalidBound : PySem.W.findIn K (.ref EInvalidBound) "__getattribute__" = some (some (.builtin "BaseException.__getattribute__")))
    (xbInvalidBound : PySem.W.findIn K (.ref EInvalidBound) "__getattr__" = some none)
    (xcInvalidBound : PySem.W.subIn K (.ref EInvalidBound) (.type "BaseException") = some true)
    (xdInvalidBound : PySem.W.hasDictIn K EInvalidBound = true)
    (xeInvalidBound : PySem.W.typeIn K (.ref EInvalidBound) = some (.type "type"))
    (geInvalidLog : PySem.W.nsIn K mainGlobals "InvalidLog" = some (some (.ref EInvalidLog)))
    (xaInvalidLog : PySem.W.findIn K (.ref EInvalidLog) "__getattribute__" = some (some (.builtin "BaseException.__getattribute__")))
    (xbInvalidLog : PySem.W.findIn K (.ref EInvalidLog) "__getattr__" = some none)
    (xcInvalidLog : PySem.W.subIn K (.ref EInvalidLog) (.type "BaseException") = some true)
    (xdInvalidLog : PySem.W.hasDictIn K EInvalidLog = true)
    (xeInvalidLog : PySem.W.typeIn K (.ref EInvalidLog) = some (.type "type"))
    (geInvalidCall : PySem.W.nsIn K mainGlobals "InvalidCall" = some (some (.ref EInvalidCall)))
    (xaInvalidCall : PySem.W.findIn K (.ref EInvalidCall) "__getattribute__" = some (some (.builtin "BaseException.__getattribute__")))
    (xbInvalidCall : PySem.W.findIn K (.ref EInvalidCall) "__getattr__" = some none)
    (xcInvalidCall : PySem.W.subIn K (.ref EInvalidCall) (.type "BaseException") = some true)
    (xdInvalidCall : PySem.W.hasDictIn K EInvalidCall = true)
    (xeInvalidCall : PySem.W.typeIn K (.ref EInvalidCall) = some (.type "type"))
    (geLimitExceeded : PySem.W.nsIn K mainGlobals "LimitExceeded" = some (some (.ref ELimitExceeded)))
    (xaLimitExceeded : PySem.W.findIn K (.ref ELimitExceeded) "__getattribute__" = some (some (.builtin "BaseException.__getattribute__")))
    (xbLimitExceeded : PySem.W.findIn K (.ref ELimitExceeded) "__getattr__" = some none)
    (xcLimitExceeded : PySem.W.subIn K (.ref ELimitExceeded) (.type "BaseException") = some true)
    (xdLimitExceeded : PySem.W.hasDictIn K ELimitExceeded = true)
    (xeLimitExceeded : PySem.W.typeIn K (.ref ELimitExceeded) = some (.type "type"))
    (xoInvalidRow : K.lookup EInvalidRow = some (excClassObj nmInvalidRow qnInvalidRow EInvalidRow nnInvalidRow bsInvalidRow [.ref EBreakerError, .type "ArithmeticError", .type "Exception", .type "BaseException", .type "object"] true snInvalidRow sbInvalidRow abInvalidRow coInvalidRow ddInvalidRow u0InvalidRow u1InvalidRow u2InvalidRow u3InvalidRow u5InvalidRow "ArithmeticError.__new__"))
    (xsInvalidRow : PySem.W.findIn K (.ref EInvalidRow) "__setattr__" = some (some (.builtin "object.__setattr__")))
    (xkInvalidRow : PySem.W.keepIn K (.ref EInvalidRow) = true)
    (aNInvalidRow : PySem.W.findIn K (.ref EInvalidRow) "__init__" = some (some (.ref aIInvalidRow)))
    (tNInvalidRow : PySem.W.typeIn K (.ref aIInvalidRow) = some (.type "function"))
    (lNInvalidRow : K.lookup aIInvalidRow = some ⟨ocNInvalidRow, odNInvalidRow, .func (PySem.W.fnOf "__init__" "InvalidRow.__init__" (defArgs st_InvalidRow_init) (defBody st_InvalidRow_init) (defScope st_InvalidRow_init) .none kVNInvalidRow dcNInvalidRow pmNInvalidRow anNInvalidRow cdNInvalidRow ctNInvalidRow), slNInvalidRow⟩)
    (cNInvalidRow : PySem.W.codeIn K cdNInvalidRow "InvalidRow.__init__" = true)
    (kNInvalidRow : PySem.W.keepIn K (.ref aIInvalidRow) = true)
    (neInvalidRow_part : PySem.W.findIn K (.ref EInvalidRow) "part" = some none)
    (neInvalidRow_at : PySem.W.findIn K (.ref EInvalidRow) "at" = some none)
    (neInvalidRow_index : PySem.W.findIn K (.ref EInvalidRow) "index" = some none)
    (neInvalidRow_call : PySem.W.findIn K (.ref EInvalidRow) "call" = some none)
    (neInvalidRow_limit : PySem.W.findIn K (.ref EInvalidRow) "limit" = some none)
    (xlInvalidRow : PySem.W.findIn K (.ref EInvalidRow) "__class__" = some (some (.builtin "object.__class__")))
    (xmInvalidRow : PySem.W.mroIn K EInvalidRow (.type "object") = some true)
    (seInvalidRow_BreakerError : PySem.W.subIn K (.ref EInvalidRow) (.ref EBreakerError) = some true)
    (seInvalidRow_InvalidRow : PySem.W.subIn K (.ref EInvalidRow) (.ref EInvalidRow) = some true)
    (seInvalidRow_InvalidIndex : PySem.W.subIn K (.ref EInvalidRow) (.ref EInvalidIndex) = some false)
    (seInvalidRow_InvalidBound : PySem.W.subIn K (.ref EInvalidRow) (.ref EInvalidBound) = some false)
    (seInvalidRow_InvalidLog : PySem.W.subIn K (.ref EInvalidRow) (.ref EInvalidLog) = some false)
    (seInvalidRow_InvalidCall : PySem.W.subIn K (.ref EInvalidRow) (.ref EInvalidCall) = some false)
    (seInvalidRow_LimitExceeded : PySem.W.subIn K (.ref EInvalidRow) (.ref ELimitExceeded) = some false)
    (saInvalidRow : PySem.W.subIn K (.ref EInvalidRow) (.type "ArithmeticError") = some true)
    (xoInvalidBound : K.lookup EInvalidBound = some (excClassObj nmInvalidBound qnInvalidBound EInvalidBound nnInvalidBound bsInvalidBound [.ref EBreakerError, .type "ArithmeticError", .type "Exception", .type "BaseException", .type "object"] true snInvalidBound sbInvalidBound abInvalidBound coInvalidBound ddInvalidBound u0InvalidBound u1InvalidBound u2InvalidBound u3InvalidBound u5InvalidBound "ArithmeticError.__new__"))
    (xsInvalidBound : PySem.W.findIn K (.ref EInvalidBound) "__setattr__" = some (some (.builtin "object.__setattr__")))
    (xkInvalidBound : PySem.W.keepIn K (.ref EInvalidBound) = true)
    (aNInvalidBound : PySem.W.findIn K (.ref EInvalidBound) "__init__" = some (some (.ref aIInvalidBound)))
    (tNInvalidBound : PySem.W.typeIn K (.ref aIInvalidBound) = some (.type "function"))
    (lNInvalidBound : K.lookup aIInvalidBound = some ⟨ocNInvalidBound, odNInvalidBound, .func (PySem.W.fnOf "__init__" "InvalidBound.__init__" (defArgs st_InvalidBound_init) (defBody st_InvalidBound_init) (defScope st_InvalidBound_init) .none kVNInvalidBound dcNInvalidBound pmNInvalidBound anNInvalidBound cdNInvalidBound ctNInvalidBound), slNInvalidBound⟩)
    (cNInvalidBound : PySem.W.codeIn K cdNInvalidBound "InvalidBound.__init__" = true)
    (kNInvalidBound : PySem.W.keepIn K (.ref aIInvalidBound) = true)
    (neInvalidBound_part : PySem.W.findIn K (.ref EInvalidBound) "part" = some none)
    (neInvalidBound_at : PySem.W.findIn K (.ref EInvalidBound) "at" = some none)
    (neInvalidBound_index : PySem.W.findIn K (.ref EInvalidBound) "index" = some none)
    (neInvalidBound_call : PySem.W.findIn K (.ref EInvalidBound) "call" = some none)
    (neInvalidBound_limit : PySem.W.findIn K (.ref EInvalidBound) "limit" = some none)
    (xlInvalidBound : PySem.W.findIn K (.ref EInvalidBound) "__class__" = some (some (.builtin "object.__class__")))
    (xmInvalidBound : PySem.W.mroIn K EInvalidBound (.type "object") = some true)
    (seInvalidBound_BreakerError : PySem.W.subIn K (.ref EInvalidBound) (.ref EBreakerError) = some true)
    (seInvalidBound_InvalidRow : PySem.W.subIn K (.ref EInvalidBound) (.ref EInvalidRow) = some false)
    (seInvalidBound_InvalidIndex : PySem.W.subIn K (.ref EInvalidBound) (.ref EInvalidIndex) = some false)
    (seInvalidBound_InvalidBound : PySem.W.subIn K (.ref EInvalidBound) (.ref EInvalidBound) = some true)
    (seInvalidBound_InvalidLog : PySem.W.subIn K (.ref EInvalidBound) (.ref EInvalidLog) = some false)
    (seInvalidBound_InvalidCall : PySem.W.subIn K (.ref EInvalidBound) (.ref EInvalidCall) = some false)
    (seInvalidBound_LimitExceeded : PySem.W.subIn K (.ref EInvalidBound) (.ref ELimitExceeded) = some false)
    (saInvalidBound : PySem.W.subIn K (.ref EInvalidBound) (.type "ArithmeticError") = some true)
    (xoInvalidCall : K.lookup EInvalidCall = some (excClassObj nmInvalidCall qnInvalidCall EInvalidCall nnInvalidCall bsInvalidCall [.ref EBreakerError, .type "ArithmeticError", .type "Exception", .type "BaseException", .type "object"] true snInvalidCall sbInvalidCall abInvalidCall coInvalidCall ddInvalidCall u0InvalidCall u1InvalidCall u2InvalidCall u3InvalidCall u5InvalidCall "ArithmeticError.__new__"))
    (xsInvalidCall : PySem.W.findIn K (.ref EInvalidCall) "__setattr__" = some (some (.builtin "object.__setattr__")))
    (xkInvalidCall : PySem.W.keepIn K (.ref EInvalidCall) = true)
    (aNInvalidCall : PySem.W.findIn K (.ref EInvalidCall) "__init__" = some (some (.ref aIInvalidCall)))
    (tNInvalidCall : PySem.W.typeIn K (.ref aIInvalidCall) = some (.type "function"))
    (lNInvalidCall : K.lookup aIInvalidCall = some ⟨ocNInvalidCall, odNInvalidCall, .func (PySem.W.fnOf "__init__" "InvalidCall.__init__" (defArgs st_InvalidCall_init) (defBody st_InvalidCall_init) (defScope st_InvalidCall_init) .none kVNInvalidCall dcNInvalidCall pmNInvalidCall anNInvalidCall cdNInvalidCall ctNInvalidCall), slNInvalidCall⟩)
    (cNInvalidCall : PySem.W.codeIn K cdNInvalidCall "InvalidCall.__init__" = true)
    (kNInvalidCall : PySem.W.keepIn K (.ref aIInvalidCall) = true)
    (neInvalidCall_part : PySem.W.findIn K (.ref EInvalidCall) "part" = some none)
    (neInvalidCall_at : PySem.W.findIn K (.ref EInvalidCall) "at" = some none)
    (neInvalidCall_index : PySem.W.findIn K (.ref EInvalidCall) "index" = some none)
    (neInvalidCall_call : PySem.W.findIn K (.ref EInvalidCall) "call" = some none)
    (neInvalidCall_limit : PySem.W.findIn K (.ref EInvalidCall) "limit" = some none)
    (xlInvalidCall : PySem.W.findIn K (.ref EInvalidCall) "__class__" = some (some (.builtin "object.__class__")))
    (xmInvalidCall : PySem.W.mroIn K EInvalidCall (.type "object") = some true)
    (seInvalidCall_BreakerError : PySem.W.subIn K (.ref EInvalidCall) (.ref EBreakerError) = some true)
    (seInvalidCall_InvalidRow : PySem.W.subIn K (.ref EInvalidCall) (.ref EInvalidRow) = some false)
    (seInvalidCall_InvalidIndex : PySem.W.subIn K (.ref EInvalidCall) (.ref EInvalidIndex) = some false)
    (seInvalidCall_InvalidBound : PySem.W.subIn K (.ref EInvalidCall) (.ref EInvalidBound) = some false)
    (seInvalidCall_InvalidLog : PySem.W.subIn K (.ref EInvalidCall) (.ref EInvalidLog) = some false)
    (seInvalidCall_InvalidCall : PySem.W.subIn K (.ref EInvalidCall) (.ref EInvalidCall) = some true)
    (seInvalidCall_LimitExceeded : PySem.W.subIn K (.ref EInvalidCall) (.ref ELimitExceeded) = some false)
    (saInvalidCall : PySem.W.subIn K (.ref EInvalidCall) (.type "ArithmeticError") = some true)
    (xoLimitExceeded : K.lookup ELimitExceeded = some (excClassObj nmLimitExceeded qnLimitExceeded ELimitExceeded nnLimitExceeded bsLimitExceeded [.ref EBreakerError, .type "ArithmeticError", .type "Exception", .type "BaseException", .type "object"] true snLimitExceeded sbLimitExceeded abLimitExceeded coLimitExceeded ddLimitExceeded u0LimitExceeded u1LimitExceeded u2LimitExceeded u3LimitExceeded u5LimitExceeded "ArithmeticError.__new__"))
    (xsLimitExceeded : PySem.W.findIn K (.ref ELimitExceeded) "__setattr__" = some (some (.builtin "object.__setattr__")))
    (xkLimitExceeded : PySem.W.keepIn K (.ref ELimitExceeded) = true)
    (aNLimitExceeded : PySem.W.findIn K (.ref ELimitExceeded) "__init__" = some (some (.ref aILimitExceeded)))
    (tNLimitExceeded : PySem.W.typeIn K (.ref aILimitExceeded) = some (.type "function"))
    (lNLimitExceeded : K.lookup aILimitExceeded = some ⟨ocNLimitExceeded, odNLimitExceeded, .func (PySem.W.fnOf "__init__" "LimitExceeded.__init__" (defArgs st_LimitExceeded_init) (defBody st_LimitExceeded_init) (defScope st_LimitExceeded_init) .none kVNLimitExceeded dcNLimitExceeded pmNLimitExceeded anNLimitExceeded cdNLimitExceeded ctNLimitExceeded), slNLimitExceeded⟩)
    (cNLimitExceeded : PySem.W.codeIn K cdNLimitExceeded "LimitExceeded.__init__" = true)
    (kNLimitExceeded : PySem.W.keepIn K (.ref aILimitExceeded) = true)
    (neLimitExceeded_part : PySem.W.findIn K (.ref ELimitExceeded) "part" = some none)
    (neLimitExceeded_at : PySem.W.findIn K (.ref ELimitExceeded) "at" = some none)
    (neLimitExceeded_index : PySem.W.findIn K (.ref ELimitExceeded) "index" = some none)
    (neLimitExceeded_call : PySem.W.findIn K (.ref ELimitExceeded) "call" = some none)
    (neLimitExceeded_limit : PySem.W.findIn K (.ref ELimitExceeded) "limit" = some none)
    (xlLimitExceeded : PySem.W.findIn K (.ref ELimitExceeded) "__class__" = some (some (.builtin "object.__class__")))
    (xmLimitExceeded : PySem.W.mroIn K ELimitExceeded (.type "object") = some true)
    (seLimitExceeded_BreakerError : PySem.W.subIn K (.ref ELimitExceeded) (.ref EBreakerError) = some true)
    (seLimitExceeded_InvalidRow : PySem.W.subIn K (.ref ELimitExceeded) (.ref EInvalidRow) = some false)
    (seLimitExceeded_InvalidIndex : PySem.W.subIn K (.ref ELimitExceeded) (.ref EInvalidIndex) = some false)
    (seLimitExceeded_InvalidBound : PySem.W.subIn K (.ref ELimitExceeded) (.ref EInvalidBound) = some false)
    (seLimitExceeded_InvalidLog : PySem.W.subIn K (.ref ELimitExceeded) (.ref EInvalidLog) = some false)
    (seLimitExceeded_InvalidCall : PySem.W.subIn K (.ref ELimitExceeded) (.ref EInvalidCall) = some false)
    (seLimitExceeded_LimitExceeded : PySem.W.subIn K (.ref ELimitExceeded) (.ref ELimitExceeded) = some true)
    (saLimitExceeded : PySem.W.subIn K (.ref ELimitExceeded) (.type "ArithmeticError") = some true)
    (moRow_Playing : PySem.W.mroIn K CRow (.ref CPlaying) = some false)
    (moPlaying_Row : PySem.W.mroIn K CPlaying (.ref CRow) = some false)
    (gNMOST_BREAKERS : PySem.W.nsIn K mainGlobals "MOST_BREAKERS" = some (some (.int 12 tNMOST_BREAKERS)))
    (gNMOST_REQUESTS : PySem.W.nsIn K mainGlobals "MOST_REQUESTS" = some (some (.int 10000 tNMOST_REQUESTS)))
    (aY : PySem.W.nsIn K mainGlobals "law" = some (some (.ref aLaw)))
    (lY : K.lookup aLaw = some ⟨ocY, odY, .func (PySem.W.fnOf "law" "law" (defArgs st_law) (defBody st_law) (defScope st_law) .none kVY dcY pmY anY (.ref kcY) ctY), slY⟩)
    (cY : PySem.W.codeIn K (.ref kcY) "law" = true)
    (kY : PySem.W.keepIn K (.ref aLaw) = true)
    (z_ArithmeticError : PySem.W.nsIn K mainGlobals "ArithmeticError" = some none)
    (z_bool : PySem.W.nsIn K mainGlobals "bool" = some none)
    (z_enumerate : PySem.W.nsIn K mainGlobals "enumerate" = some none)
    (z_int : PySem.W.nsIn K mainGlobals "int" = some none)
    (z_isinstance : PySem.W.nsIn K mainGlobals "isinstance" = some none)
    (z_len : PySem.W.nsIn K mainGlobals "len" = some none)
    (z_list : PySem.W.nsIn K mainGlobals "list" = some none)
    (z_range : PySem.W.nsIn K mainGlobals "range" = some none)
    (z_repr : PySem.W.nsIn K mainGlobals "repr" = some none)
    (z_str : PySem.W.nsIn K mainGlobals "str" = some none)
    (z_tuple : PySem.W.nsIn K mainGlobals "tuple" = some none)
    (z_zip : PySem.W.nsIn K mainGlobals "zip" = some none)
    (tbq23 : TabE K h kcq23 ktq23)
    (tbY : TabE K h kcY ktY)
    (ntq23_Y : ktq23 ≠ ktY) :
    ∃ (fd : FuncData) (cs : List (Addr × Addr)) (sp : Sp), (∀ p ∈ cs, TabE K h p.1 p.2) ∧ (∀ (s : Shared) (v : Value), BindsTo s fd ⟨[v], []⟩ [("_law_script", v)]) ∧ (∀ (H : Hp) (a : Addr) (ns : List Int), ns.length ≤ 63 → (∀ z ∈ ns, Builtin.Int.intBits z ≤ 1048576) → (∀ p ∈ cs, H p.2 = some (.tbl #[])) → SqL K H a (ns.map V.int) → sp [.ref a] H (fun v _ => v = .bl true) fun _ _ _ => False) ∧ ∀ base : Heap, K.In base → base.Ns mainGlobals mg → (∀ p ∈ cs, LamX.TabB base mg p.1 p.2) → FnOk P w K mg base CX0 14 fa fd ["_law_script"] sp := by
  have e := hfa.symm.trans (PySem.W.mg_of X G aY)
  cases e
  obtain ⟨vMOST_COUNT, hvMOST_COUNT, rMOST_COUNT⟩ := LL.val _ hLMOST_COUNT
  obtain ⟨tMOST_COUNT, rfl, -⟩ := PySem.W.readsW_int_inv rMOST_COUNT
  obtain ⟨vMOST_TIME, hvMOST_TIME, rMOST_TIME⟩ := LL.val _ hLMOST_TIME
  obtain ⟨tMOST_TIME, rfl, -⟩ := PySem.W.readsW_int_inv rMOST_TIME
  have T : LX K mg ⟨fq0, fq1, fq2, fq3, fq4, fq5, fq6, fq7, fq8, fq9, fq10, fq11, fq12, fq13, fq14, fq15, fq16, fq17, fq18, fq19, fq20, fq21, fq22, fq23, kcq23, ktq23, kcY, ktY, CRow, aIRow, fq24, fq25, fq26, fq27, fq28, fq29, fq30, fq31, CPlaying, aIPlaying, fq32, fq33, fq34, fq35, fq36, fq37, fq38, fq39, EBreakerError, EInvalidRow, EInvalidIndex, EInvalidBound, EInvalidLog, EInvalidCall, ELimitExceeded, aIInvalidRow, aIInvalidBound, aIInvalidCall, aILimitExceeded⟩ := ⟨PySem.W.mg_none_of X G z_ArithmeticError,
    PySem.W.mg_none_of X G z_bool,
    PySem.W.mg_none_of X G z_enumerate,
    PySem.W.mg_none_of X G z_int,
    PySem.W.mg_none_of X G z_isinstance,
    PySem.W.mg_none_of X G z_len,
    PySem.W.mg_none_of X G z_list,
    PySem.W.mg_none_of X G z_range,
    PySem.W.mg_none_of X G z_repr,
    PySem.W.mg_none_of X G z_str,
    PySem.W.mg_none_of X G z_tuple,
    PySem.W.mg_none_of X G z_zip,
    ⟨_, PySem.W.mg_of X G gNMOST_BREAKERS⟩,
    ⟨_, hvMOST_COUNT⟩,
    ⟨_, hvMOST_TIME⟩,
    ⟨_, PySem.W.mg_of X G gNMOST_REQUESTS⟩,
    ⟨_, PySem.W.mg_of X G gTSERVED, fun _ => .inr ⟨_, _, _, lTSERVED, rfl, rfl, (by show 1 ≤ sizeLine; decide), .cons ⟨_, rfl⟩ (.nil)⟩⟩,
    ⟨_, PySem.W.mg_of X G gTFAILED, fun _ => .inr ⟨_, _, _, lTFAILED, rfl, rfl, (by show 1 ≤ sizeLine; decide), .cons ⟨_, rfl⟩ (.nil)⟩⟩,
    mk_dfn X G aq0 lq0 cq0 kq0 bn_q0,
    mk_dfn X G aq1 lq1 cq1 kq1 bn_q1,
    mk_dfn X G aq2 lq2 cq2 kq2 bn_q2,
    mk_dfn X G aq3 lq3 cq3 kq3 bn_q3,
    mk_dfn X G aq4 lq4 cq4 kq4 bn_q4,
    mk_dfn X G aq5 lq5 cq5 kq5 bn_q5,
    mk_dfn X G aq6 lq6 cq6 kq6 bn_q6,
    mk_dfn X G aq7 lq7 cq7 kq7 bn_q7,
    mk_dfn X G aq8 lq8 cq8 kq8 bn_q8,
    mk_dfn X G aq9 lq9 cq9 kq9 bn_q9,
    mk_dfn X G aq10 lq10 cq10 kq10 bn_q10,
    mk_dfn X G aq11 lq11 cq11 kq11 bn_q11,
    mk_dfn X G aq12 lq12 cq12 kq12 bn_q12,
    mk_dfn X G aq13 lq13 cq13 kq13 bn_q13,
    mk_dfn X G aq14 lq14 cq14 kq14 bn_q14,
    mk_dfn X G aq15 lq15 cq15 kq15 bn_q15,
    mk_dfn X G aq16 lq16 cq16 kq16 bn_q16,
    mk_dfn X G aq17 lq17 cq17 kq17 bn_q17,
    mk_dfn X G aq18 lq18 cq18 kq18 bn_q18,
    mk_dfn X G aq19 lq19 cq19 kq19 bn_q19,
    mk_dfn X G aq20 lq20 cq20 kq20 bn_q20,
    mk_dfn X G aq21 lq21 cq21 kq21 bn_q21,
    mk_dfn X G aq22 lq22 cq22 kq22 bn_q22,
    mk_dfnT X G aq23 lq23 cq23 kq23 bn_q23,
    ntq23_Y,
    PySem.W.mg_of X G gcRow,
    ⟨⟨gRow0, gRow1, gRow2, gRow3⟩, gRow6, gRow7, gRow8, gO1, gO2, gRow9, gRow10, gRow11⟩,
    ⟨gRow4, aNRow, iNRow, gRow5⟩,
    nfRow_breakers,
    nfRow_step,
    nfRow_phase,
    ⟨_, ⟨⟨ocNRow, odNRow, .none, .ref aDRow, dcNRow, pmNRow, anNRow, cdNRow, ctNRow, slNRow, rfl, lNRow, cNRow, .inl ⟨rfl, rfl⟩, .inr ⟨aDRow, rfl, fun q hq => by rw [List.mem_singleton.mp hq]; exact ⟨_, dRow, _, rfl⟩⟩⟩, kNRow⟩⟩,
    mk_mth aq24 iq24 nq24 lq24 cq24 kq24 bn_q24,
    mk_mth aq25 iq25 nq25 lq25 cq25 kq25 bn_q25,
    mk_mth aq26 iq26 nq26 lq26 cq26 kq26 bn_q26,
    mk_mth aq27 iq27 nq27 lq27 cq27 kq27 bn_q27,
    mk_mth aq28 iq28 nq28 lq28 cq28 kq28 bn_q28,
    mk_mth aq29 iq29 nq29 lq29 cq29 kq29 bn_q29,
    mk_mth aq30 iq30 nq30 lq30 cq30 kq30 bn_q30,
    mk_mth aq31 iq31 nq31 lq31 cq31 kq31 bn_q31,
    PySem.W.mg_of X G gcPlaying,
    ⟨⟨gPlaying0, gPlaying1, gPlaying2, gPlaying3⟩, gPlaying6, gPlaying7, gPlaying8, gO1, gO2, gPlaying9, gPlaying10, gPlaying11⟩,
    ⟨gPlaying4, aNPlaying, iNPlaying, gPlaying5⟩,
    nfPlaying_row,
    nfPlaying_words,
    nfPlaying_history,
    ⟨_, fun_mk lNPlaying cNPlaying kNPlaying, (fun_mk lNPlaying cNPlaying kNPlaying).binds bn_NPlaying⟩,
    mk_mth aq32 iq32 nq32 lq32 cq32 kq32 bn_q32,
    mk_mth aq33 iq33 nq33 lq33 cq33 kq33 bn_q33,
    mk_mth aq34 iq34 nq34 lq34 cq34 kq34 bn_q34,
    mk_mth aq35 iq35 nq35 lq35 cq35 kq35 bn_q35,
    mk_mth aq36 iq36 nq36 lq36 cq36 kq36 bn_q36,
    mk_mth aq37 iq37 nq37 lq37 cq37 kq37 bn_q37,
    mk_mth aq38 iq38 nq38 lq38 cq38 kq38 bn_q38,
    mk_mth aq39 iq39 nq39 lq39 cq39 kq39 bn_q39,
    PySem.W.mg_of X G geBreakerError,
    ⟨xaBreakerError, xbBreakerError, xcBreakerError, xdBreakerError⟩,
    xeBreakerError,
    PySem.W.mg_of X G geInvalidRow,
    ⟨xaInvalidRow, xbInvalidRow, xcInvalidRow, xdInvalidRow⟩,
    xeInvalidRow,
    PySem.W.mg_of X G geInvalidIndex,
    ⟨xaInvalidIndex, xbInvalidIndex, xcInvalidIndex, xdInvalidIndex⟩,
    xeInvalidIndex,
    PySem.W.mg_of X G geInvalidBound,
    ⟨xaInvalidBound, xbInvalidBound, xcInvalidBound, xdInvalidBound⟩,
    xeInvalidBound,
    PySem.W.mg_of X G geInvalidLog,
    ⟨xaInvalidLog, xbInvalidLog, xcInvalidLog, xdInvalidLog⟩,
    xeInvalidLog,
    PySem.W.mg_of X G geInvalidCall,
    ⟨xaInvalidCall, xbInvalidCall, xcInvalidCall, xdInvalidCall⟩,
    xeInvalidCall,
    PySem.W.mg_of X G geLimitExceeded,
    ⟨xaLimitExceeded, xbLimitExceeded, xcLimitExceeded, xdLimitExceeded⟩,
    xeLimitExceeded,
    ⟨⟨_, _, _, _, _, _, _, _, _, _, _, _, _, _, _, xoInvalidRow, by rfl⟩, xsInvalidRow, xcInvalidRow, xeInvalidRow, xkInvalidRow⟩,
    aNInvalidRow,
    tNInvalidRow,
    ⟨_, fun_mk lNInvalidRow cNInvalidRow kNInvalidRow, (fun_mk lNInvalidRow cNInvalidRow kNInvalidRow).binds bn_NInvalidRow⟩,
    neInvalidRow_part,
    neInvalidRow_at,
    neInvalidRow_index,
    neInvalidRow_call,
    neInvalidRow_limit,
    ⟨xaInvalidRow, xbInvalidRow, xcInvalidRow, xdInvalidRow, xlInvalidRow, gO1, gO2, xmInvalidRow⟩,
    seInvalidRow_BreakerError,
    seInvalidRow_InvalidRow,
    seInvalidRow_InvalidIndex,
    seInvalidRow_InvalidBound,
    seInvalidRow_InvalidLog,
    seInvalidRow_InvalidCall,
    seInvalidRow_LimitExceeded,
    saInvalidRow,
    ⟨⟨_, _, _, _, _, _, _, _, _, _, _, _, _, _, _, xoInvalidBound, by rfl⟩, xsInvalidBound, xcInvalidBound, xeInvalidBound, xkInvalidBound⟩,
    aNInvalidBound,
    tNInvalidBound,
    ⟨_, fun_mk lNInvalidBound cNInvalidBound kNInvalidBound, (fun_mk lNInvalidBound cNInvalidBound kNInvalidBound).binds bn_NInvalidBound⟩,
    neInvalidBound_part,
    neInvalidBound_at,
    neInvalidBound_index,
    neInvalidBound_call,
    neInvalidBound_limit,
    ⟨xaInvalidBound, xbInvalidBound, xcInvalidBound, xdInvalidBound, xlInvalidBound, gO1, gO2, xmInvalidBound⟩,
    seInvalidBound_BreakerError,
    seInvalidBound_InvalidRow,
    seInvalidBound_InvalidIndex,
    seInvalidBound_InvalidBound,
    seInvalidBound_InvalidLog,
    seInvalidBound_InvalidCall,
    seInvalidBound_LimitExceeded,
    saInvalidBound,
    ⟨⟨_, _, _, _, _, _, _, _, _, _, _, _, _, _, _, xoInvalidCall, by rfl⟩, xsInvalidCall, xcInvalidCall, xeInvalidCall, xkInvalidCall⟩,
    aNInvalidCall,
    tNInvalidCall,
    ⟨_, fun_mk lNInvalidCall cNInvalidCall kNInvalidCall, (fun_mk lNInvalidCall cNInvalidCall kNInvalidCall).binds bn_NInvalidCall⟩,
    neInvalidCall_part,
    neInvalidCall_at,
    neInvalidCall_index,
    neInvalidCall_call,
    neInvalidCall_limit,
    ⟨xaInvalidCall, xbInvalidCall, xcInvalidCall, xdInvalidCall, xlInvalidCall, gO1, gO2, xmInvalidCall⟩,
    seInvalidCall_BreakerError,
    seInvalidCall_InvalidRow,
    seInvalidCall_InvalidIndex,
    seInvalidCall_InvalidBound,
    seInvalidCall_InvalidLog,
    seInvalidCall_InvalidCall,
    seInvalidCall_LimitExceeded,
    saInvalidCall,
    ⟨⟨_, _, _, _, _, _, _, _, _, _, _, _, _, _, _, xoLimitExceeded, by rfl⟩, xsLimitExceeded, xcLimitExceeded, xeLimitExceeded, xkLimitExceeded⟩,
    aNLimitExceeded,
    tNLimitExceeded,
    ⟨_, fun_mk lNLimitExceeded cNLimitExceeded kNLimitExceeded, (fun_mk lNLimitExceeded cNLimitExceeded kNLimitExceeded).binds bn_NLimitExceeded⟩,
    neLimitExceeded_part,
    neLimitExceeded_at,
    neLimitExceeded_index,
    neLimitExceeded_call,
    neLimitExceeded_limit,
    ⟨xaLimitExceeded, xbLimitExceeded, xcLimitExceeded, xdLimitExceeded, xlLimitExceeded, gO1, gO2, xmLimitExceeded⟩,
    seLimitExceeded_BreakerError,
    seLimitExceeded_InvalidRow,
    seLimitExceeded_InvalidIndex,
    seLimitExceeded_InvalidBound,
    seLimitExceeded_InvalidLog,
    seLimitExceeded_InvalidCall,
    seLimitExceeded_LimitExceeded,
    saLimitExceeded,
    moRow_Playing,
    moPlaying_Row⟩
  have tbs : ∀ p ∈ [(kcq23, ktq23), (kcY, ktY)], TabE K h p.1 p.2 := by
    intro p hp
    simp only [List.mem_cons, List.mem_nil_iff, or_false] at hp
    rcases hp with rfl | rfl
    · exact tbq23
    · exact tbY
  refine ⟨_, [(kcq23, ktq23), (kcY, ktY)], spLawT K _, tbs, fun s v => .of_eq rfl, fun H a ns hl _ hH hS => ⟨a, ns, rfl, hS, hl, ?_, fun _ => rfl⟩, fun base _ _ hB => ok_law ⟨⟨_, _, _, _, _, _, _, _, rfl, lY, cY⟩, kY⟩ T ⟨hB (kcq23, ktq23) (.head _), hB (kcY, ktY) (.tail _ (.head _))⟩⟩
  intro p hp
  simp only [LT, List.mem_cons, List.mem_nil_iff, or_false] at hp
  rcases hp with rfl | rfl
  · exact LamX.TabS.nil (hH (kcq23, ktq23) (.head _))
  · exact LamX.TabS.nil (hH (kcY, ktY) (.tail _ (.head _)))
/-- the end, with tables of code objects and what the loose names hold -/
theorem walk_tabs {l : PySem.W.OpenLaw} {q p : Program} {lv : List (Str × PySem.W.WData)} {loose : List Str} {YP : World → Heap → Prop} {d : DefRec} {K : Params → PySem.W.Frag} (hn : l.most = some 63) (hd : d.params.defaults = []) (hY : ∀ (w : World) (h : Heap), YP w h → (K w.params).In h)
    (F : ∀ (w : World) (mg : Str → Option Value) (fa : Addr) (h : Heap), YP w h → (K w.params).In h → h.Ns mainGlobals mg → PySem.W.LooseAre lv mg h → mg d.name = some (.ref fa) →
      ∃ (fd : FuncData) (cs : List (Addr × Addr)) (sp : Sp), (∀ p ∈ cs, TabE (K w.params) h p.1 p.2) ∧ (∀ (s : Shared) (v : Value), BindsTo s fd ⟨[v], []⟩ [("_law_script", v)]) ∧ (∀ (H : Hp) (a : Addr) (ns : List Int), ns.length ≤ 63 → (∀ z ∈ ns, Builtin.Int.intBits z ≤ 1048576) → (∀ p ∈ cs, H p.2 = some (.tbl #[])) → SqL (K w.params) H a (ns.map V.int) → sp [.ref a] H (fun v _ => v = .bl true) fun _ _ _ => False) ∧ ∀ base : Heap, (K w.params).In base → base.Ns mainGlobals mg → (∀ p ∈ cs, LamX.TabB base mg p.1 p.2) → FnOk l.prog w (K w.params) mg base CX0 14 fa fd ["_law_script"] sp) :
    PySem.W.WalkO q loose (PySem.W.XL p lv) YP l.row.toRowW d [] (fun f vs => PySem.call f vs) := Att.attach_callB hn hd fun w _ s₁ mg mb fa _ _ _ _ a vs ns G Y _ _ _ hmg hobj hints hlen hbits hg => by
  obtain ⟨fd, cs, sp, hT, hb, hsp, hF⟩ := F w mg fa s₁.heap Y (hY w s₁.heap Y) G.T.g G.X.2 hmg
  exact LamX.law_callTs (hY w s₁.heap Y) G.T.g G.T.b G.T.builtins G.T.nolimit hg (fun p hp => (hT p hp).1) (fun p hp => (hT p hp).2.2) (fun p hp => PySem.W.codeHd_of_K (hY w s₁.heap Y) (hT p hp).2.1) G.T.bmain hobj hints (Nat.le_trans hlen (by decide)) ⟨rfl, by decide, by decide⟩ hF hb (fun H hH hS => hsp H a ns hlen hbits hH hS) fun _ _ _ z => z

end Toy
open PySem PySem.W PyProof.Rows
set_option maxRecDepth 100000 in
set_option maxHeartbeats 0 in
theorem PySem.Challenge.cw_breakerrow_k55_playings_of_rows_refuse_holds : PySem.Challenge.rw_breakerrow_k55_playings_of_rows_refuse.Holds := by
  w_on; o_law; k_head; (case hw => w_witness2)
  k_fill
  refine Toy.walk_tabs (l := PySem.Challenge.rw_breakerrow_k55_playings_of_rows_refuse) rfl rfl (fun w h Y => PySem.W.km_in_of Y) ?F
  intro w mg fa h Y KX G LL hmg
  have hT := PySem.W.km_tabs_of Y
  refine' Toy.all_mk KX G LL (by first | exact .head _ | exact .tail _ (.head _) | exact .tail _ (.tail _ (.head _)) | exact .tail _ (.tail _ (.tail _ (.head _))) | exact .tail _ (.tail _ (.tail _ (.tail _ (.head _)))) | exact .tail _ (.tail _ (.tail _ (.tail _ (.tail _ (.head _))))) | exact .tail _ (.tail _ (.tail _ (.tail _ (.tail _ (.tail _ (.head _)))))) | exact .tail _ (.tail _ (.tail _ (.tail _ (.tail _ (.tail _ (.tail _ (.head _))))))) | exact .tail _ (.tail _ (.tail _ (.tail _ (.tail _ (.tail _ (.tail _ (.tail _ (.head _)))))))) | exact .tail _ (.tail _ (.tail _ (.tail _ (.tail _ (.tail _ (.tail _ (.tail _ (.tail _ (.head _)))))))))) (by first | exact .head _ | exact .tail _ (.head _) | exact .tail _ (.tail _ (.head _)) | exact .tail _ (.tail _ (.tail _ (.head _))) | exact .tail _ (.tail _ (.tail _ (.tail _ (.head _)))) | exact .tail _ (.tail _ (.tail _ (.tail _ (.tail _ (.head _))))) | exact .tail _ (.tail _ (.tail _ (.tail _ (.tail _ (.tail _ (.head _)))))) | exact .tail _ (.tail _ (.tail _ (.tail _ (.tail _ (.tail _ (.tail _ (.head _))))))) | exact .tail _ (.tail _ (.tail _ (.tail _ (.tail _ (.tail _ (.tail _ (.tail _ (.head _)))))))) | exact .tail _ (.tail _ (.tail _ (.tail _ (.tail _ (.tail _ (.tail _ (.tail _ (.tail _ (.head _)))))))))) hmg ?gTSERVED ?lTSERVED ?gTFAILED ?lTFAILED ?aq0 ?lq0 ?cq0 ?kq0 ?aq1 ?lq1 ?cq1 ?kq1 ?aq2 ?lq2 ?cq2 ?kq2 ?aq3 ?lq3 ?cq3 ?kq3 ?aq4 ?lq4 ?cq4 ?kq4 ?aq5 ?lq5 ?cq5 ?kq5 ?aq6 ?lq6 ?cq6 ?kq6 ?aq7 ?lq7 ?cq7 ?kq7 ?aq8 ?lq8 ?cq8 ?kq8 ?aq9 ?lq9 ?cq9 ?kq9 ?aq10 ?lq10 ?cq10 ?kq10 ?aq11 ?lq11 ?cq11 ?kq11 ?aq12 ?lq12 ?cq12 ?kq12 ?aq13 ?lq13 ?cq13 ?kq13 ?aq14 ?lq14 ?cq14 ?kq14 ?aq15 ?lq15 ?cq15 ?kq15 ?aq16 ?lq16 ?cq16 ?kq16 ?aq17 ?lq17 ?cq17 ?kq17 ?aq18 ?lq18 ?cq18 ?kq18 ?aq19 ?lq19 ?cq19 ?kq19 ?aq20 ?lq20 ?cq20 ?kq20 ?aq21 ?lq21 ?cq21 ?kq21 ?aq22 ?lq22 ?cq22 ?kq22 ?aq23 ?lq23 ?cq23 ?kq23 ?gcRow ?gRow0 ?gRow1 ?gRow2 ?gRow3 ?gRow4 ?gRow5 ?gRow6 ?gRow7 ?gRow8 ?gRow9 ?gRow10 ?gRow11 ?gO1 ?gO2 ?nfRow_breakers ?nfRow_step ?nfRow_phase ?aNRow ?iNRow ?lNRow ?cNRow ?kNRow ?dRow ?aq24 ?iq24 ?nq24 ?lq24 ?cq24 ?kq24 ?aq25 ?iq25 ?nq25 ?lq25 ?cq25 ?kq25 ?aq26 ?iq26 ?nq26 ?lq26 ?cq26 ?kq26 ?aq27 ?iq27 ?nq27 ?lq27 ?cq27 ?kq27 ?aq28 ?iq28 ?nq28 ?lq28 ?cq28 ?kq28 ?aq29 ?iq29 ?nq29 ?lq29 ?cq29 ?kq29 ?aq30 ?iq30 ?nq30 ?lq30 ?cq30 ?kq30 ?aq31 ?iq31 ?nq31 ?lq31 ?cq31 ?kq31 ?gcPlaying ?gPlaying0 ?gPlaying1 ?gPlaying2 ?gPlaying3 ?gPlaying4 ?gPlaying5 ?gPlaying6 ?gPlaying7 ?gPlaying8 ?gPlaying9 ?gPlaying10 ?gPlaying11 ?nfPlaying_row ?nfPlaying_words ?nfPlaying_history ?aNPlaying ?iNPlaying ?lNPlaying ?cNPlaying ?kNPlaying ?aq32 ?iq32 ?nq32 ?lq32 ?cq32 ?kq32 ?aq33 ?iq33 ?nq33 ?lq33 ?cq33 ?kq33 ?aq34 ?iq34 ?nq34 ?lq34 ?cq34 ?kq34 ?aq35 ?iq35 ?nq35 ?lq35 ?cq35 ?kq35 ?aq36 ?iq36 ?nq36 ?lq36 ?cq36 ?kq36 ?aq37 ?iq37 ?nq37 ?lq37 ?cq37 ?kq37 ?aq38 ?iq38 ?nq38 ?lq38 ?cq38 ?kq38 ?aq39 ?iq39 ?nq39 ?lq39 ?cq39 ?kq39 ?geBreakerError ?xaBreakerError ?xbBreakerError ?xcBreakerError ?xdBreakerError ?xeBreakerError ?geInvalidRow ?xaInvalidRow ?xbInvalidRow ?xcInvalidRow ?xdInvalidRow ?xeInvalidRow ?geInvalidIndex ?xaInvalidIndex ?xbInvalidIndex ?xcInvalidIndex ?xdInvalidIndex ?xeInvalidIndex ?geInvalidBound ?xaInvalidBound ?xbInvalidBound ?xcInvalidBound ?xdInvalidBound ?xeInvalidBound ?geInvalidLog ?xaInvalidLog ?xbInvalidLog ?xcInvalidLog ?xdInvalidLog ?xeInvalidLog ?geInvalidCall ?xaInvalidCall ?xbInvalidCall ?xcInvalidCall ?xdInvalidCall ?xeInvalidCall ?geLimitExceeded ?xaLimitExceeded ?xbLimitExceeded ?xcLimitExceeded ?xdLimitExceeded ?xeLimitExceeded ?xoInvalidRow ?xsInvalidRow ?xkInvalidRow ?aNInvalidRow ?tNInvalidRow ?lNInvalidRow ?cNInvalidRow ?kNInvalidRow ?neInvalidRow_part ?neInvalidRow_at ?neInvalidRow_index ?neInvalidRow_call ?neInvalidRow_limit ?xlInvalidRow ?xmInvalidRow ?seInvalidRow_BreakerError ?seInvalidRow_InvalidRow ?seInvalidRow_InvalidIndex ?seInvalidRow_InvalidBound ?seInvalidRow_InvalidLog ?seInvalidRow_InvalidCall ?seInvalidRow_LimitExceeded ?saInvalidRow ?xoInvalidBound ?xsInvalidBound ?xkInvalidBound ?aNInvalidBound ?tNInvalidBound ?lNInvalidBound ?cNInvalidBound ?kNInvalidBound ?neInvalidBound_part ?neInvalidBound_at ?neInvalidBound_index ?neInvalidBound_call ?neInvalidBound_limit ?xlInvalidBound ?xmInvalidBound ?seInvalidBound_BreakerError ?seInvalidBound_InvalidRow ?seInvalidBound_InvalidIndex ?seInvalidBound_InvalidBound ?seInvalidBound_InvalidLog ?seInvalidBound_InvalidCall ?seInvalidBound_LimitExceeded ?saInvalidBound ?xoInvalidCall ?xsInvalidCall ?xkInvalidCall ?aNInvalidCall ?tNInvalidCall ?lNInvalidCall ?cNInvalidCall ?kNInvalidCall ?neInvalidCall_part ?neInvalidCall_at ?neInvalidCall_index ?neInvalidCall_call ?neInvalidCall_limit ?xlInvalidCall ?xmInvalidCall ?seInvalidCall_BreakerError ?seInvalidCall_InvalidRow ?seInvalidCall_InvalidIndex ?seInvalidCall_InvalidBound ?seInvalidCall_InvalidLog ?seInvalidCall_InvalidCall ?seInvalidCall_LimitExceeded ?saInvalidCall ?xoLimitExceeded ?xsLimitExceeded ?xkLimitExceeded ?aNLimitExceeded ?tNLimitExceeded ?lNLimitExceeded ?cNLimitExceeded ?kNLimitExceeded ?neLimitExceeded_part ?neLimitExceeded_at ?neLimitExceeded_index ?neLimitExceeded_call ?neLimitExceeded_limit ?xlLimitExceeded ?xmLimitExceeded ?seLimitExceeded_BreakerError ?seLimitExceeded_InvalidRow ?seLimitExceeded_InvalidIndex ?seLimitExceeded_InvalidBound ?seLimitExceeded_InvalidLog ?seLimitExceeded_InvalidCall ?seLimitExceeded_LimitExceeded ?saLimitExceeded ?moRow_Playing ?moPlaying_Row ?gNMOST_BREAKERS ?gNMOST_REQUESTS ?aY ?lY ?cY ?kY ?z_ArithmeticError ?z_bool ?z_enumerate ?z_int ?z_isinstance ?z_len ?z_list ?z_range ?z_repr ?z_str ?z_tuple ?z_zip ?tbq23 ?tbY ?ntq23_Y
  (case gTSERVED => k_is)
  (case lTSERVED => k_is)
  (case gTFAILED => k_is)
  (case lTFAILED => k_is)
  (case aq0 => k_is)
  (case lq0 => k_is)
  (case cq0 => k_is)
  (case kq0 => k_is)
  (case aq1 => k_is)
  (case lq1 => k_is)
  (case cq1 => k_is)
  (case kq1 => k_is)
  (case aq2 => k_is)
  (case lq2 => k_is)
  (case cq2 => k_is)
  (case kq2 => k_is)
  (case aq3 => k_is)
  (case lq3 => k_is)
  (case cq3 => k_is)
  (case kq3 => k_is)
  (case aq4 => k_is)
  (case lq4 => k_is)
  (case cq4 => k_is)
  (case kq4 => k_is)
  (case aq5 => k_is)
  (case lq5 => k_is)
  (case cq5 => k_is)
  (case kq5 => k_is)
  (case aq6 => k_is)
  (case lq6 => k_is)
  (case cq6 => k_is)
  (case kq6 => k_is)
  (case aq7 => k_is)
  (case lq7 => k_is)
  (case cq7 => k_is)
  (case kq7 => k_is)
  (case aq8 => k_is)
  (case lq8 => k_is)
  (case cq8 => k_is)
  (case kq8 => k_is)
  (case aq9 => k_is)
  (case lq9 => k_is)
  (case cq9 => k_is)
  (case kq9 => k_is)
  (case aq10 => k_is)
  (case lq10 => k_is)
  (case cq10 => k_is)
  (case kq10 => k_is)
  (case aq11 => k_is)
  (case lq11 => k_is)
  (case cq11 => k_is)
  (case kq11 => k_is)
  (case aq12 => k_is)
  (case lq12 => k_is)
  (case cq12 => k_is)
  (case kq12 => k_is)
  (case aq13 => k_is)
  (case lq13 => k_is)
  (case cq13 => k_is)
  (case kq13 => k_is)
  (case aq14 => k_is)
  (case lq14 => k_is)
  (case cq14 => k_is)
  (case kq14 => k_is)
  (case aq15 => k_is)
  (case lq15 => k_is)
  (case cq15 => k_is)
  (case kq15 => k_is)
  (case aq16 => k_is)
  (case lq16 => k_is)
  (case cq16 => k_is)
  (case kq16 => k_is)
  (case aq17 => k_is)
  (case lq17 => k_is)
  (case cq17 => k_is)
  (case kq17 => k_is)
  (case aq18 => k_is)
  (case lq18 => k_is)
  (case cq18 => k_is)
  (case kq18 => k_is)
  (case aq19 => k_is)
  (case lq19 => k_is)
  (case cq19 => k_is)
  (case kq19 => k_is)
  (case aq20 => k_is)
  (case lq20 => k_is)
  (case cq20 => k_is)
  (case kq20 => k_is)
  (case aq21 => k_is)
  (case lq21 => k_is)
  (case cq21 => k_is)
  (case kq21 => k_is)
  (case aq22 => k_is)
  (case lq22 => k_is)
  (case cq22 => k_is)
  (case kq22 => k_is)
  (case aq23 => k_is)
  (case lq23 => k_is)
  (case cq23 => k_is)
  (case kq23 => k_is)
  (case gcRow => k_is)
  (case gRow0 => k_is)
  (case gRow1 => k_is)
  (case gRow2 => k_is)
  (case gRow3 => k_is)
  (case gRow4 => k_is)
  (case gRow5 => k_is)
  (case gRow6 => k_is)
  (case gRow7 => k_is)
  (case gRow8 => k_is)
  (case gRow9 => k_is)
  (case gRow10 => k_is)
  (case gRow11 => k_is)
  (case gO1 => k_is)
  (case gO2 => k_is)
  (case nfRow_breakers => k_is)
  (case nfRow_step => k_is)
  (case nfRow_phase => k_is)
  (case aNRow => k_is)
  (case iNRow => k_is)
  (case lNRow => k_is)
  (case cNRow => k_is)
  (case kNRow => k_is)
  (case dRow => k_is)
  (case aq24 => k_is)
  (case iq24 => k_is)
  (case nq24 => k_is)
  (case lq24 => k_is)
  (case cq24 => k_is)
  (case kq24 => k_is)
  (case aq25 => k_is)
  (case iq25 => k_is)
  (case nq25 => k_is)
  (case lq25 => k_is)
  (case cq25 => k_is)
  (case kq25 => k_is)
  (case aq26 => k_is)
  (case iq26 => k_is)
  (case nq26 => k_is)
  (case lq26 => k_is)
  (case cq26 => k_is)
  (case kq26 => k_is)
  (case aq27 => k_is)
  (case iq27 => k_is)
  (case nq27 => k_is)
  (case lq27 => k_is)
  (case cq27 => k_is)
  (case kq27 => k_is)
  (case aq28 => k_is)
  (case iq28 => k_is)
  (case nq28 => k_is)
  (case lq28 => k_is)
  (case cq28 => k_is)
  (case kq28 => k_is)
  (case aq29 => k_is)
  (case iq29 => k_is)
  (case nq29 => k_is)
  (case lq29 => k_is)
  (case cq29 => k_is)
  (case kq29 => k_is)
  (case aq30 => k_is)
  (case iq30 => k_is)
  (case nq30 => k_is)
  (case lq30 => k_is)
  (case cq30 => k_is)
  (case kq30 => k_is)
  (case aq31 => k_is)
  (case iq31 => k_is)
  (case nq31 => k_is)
  (case lq31 => k_is)
  (case cq31 => k_is)
  (case kq31 => k_is)
  (case gcPlaying => k_is)
  (case gPlaying0 => k_is)
  (case gPlaying1 => k_is)
  (case gPlaying2 => k_is)
  (case gPlaying3 => k_is)
  (case gPlaying4 => k_is)
  (case gPlaying5 => k_is)
  (case gPlaying6 => k_is)
  (case gPlaying7 => k_is)
  (case gPlaying8 => k_is)
  (case gPlaying9 => k_is)
  (case gPlaying10 => k_is)
  (case gPlaying11 => k_is)
  (case nfPlaying_row => k_is)
  (case nfPlaying_words => k_is)
  (case nfPlaying_history => k_is)
  (case aNPlaying => k_is)
  (case iNPlaying => k_is)
  (case lNPlaying => k_is)
  (case cNPlaying => k_is)
  (case kNPlaying => k_is)
  (case aq32 => k_is)
  (case iq32 => k_is)
  (case nq32 => k_is)
  (case lq32 => k_is)
  (case cq32 => k_is)
  (case kq32 => k_is)
  (case aq33 => k_is)
  (case iq33 => k_is)
  (case nq33 => k_is)
  (case lq33 => k_is)
  (case cq33 => k_is)
  (case kq33 => k_is)
  (case aq34 => k_is)
  (case iq34 => k_is)
  (case nq34 => k_is)
  (case lq34 => k_is)
  (case cq34 => k_is)
  (case kq34 => k_is)
  (case aq35 => k_is)
  (case iq35 => k_is)
  (case nq35 => k_is)
  (case lq35 => k_is)
  (case cq35 => k_is)
  (case kq35 => k_is)
  (case aq36 => k_is)
  (case iq36 => k_is)
  (case nq36 => k_is)
  (case lq36 => k_is)
  (case cq36 => k_is)
  (case kq36 => k_is)
  (case aq37 => k_is)
  (case iq37 => k_is)
  (case nq37 => k_is)
  (case lq37 => k_is)
  (case cq37 => k_is)
  (case kq37 => k_is)
  (case aq38 => k_is)
  (case iq38 => k_is)
  (case nq38 => k_is)
  (case lq38 => k_is)
  (case cq38 => k_is)
  (case kq38 => k_is)
  (case aq39 => k_is)
  (case iq39 => k_is)
  (case nq39 => k_is)
  (case lq39 => k_is)
  (case cq39 => k_is)
  (case kq39 => k_is)
  (case geBreakerError => k_is)
  (case xaBreakerError => k_is)
  (case xbBreakerError => k_is)
  (case xcBreakerError => k_is)
  (case xdBreakerError => k_is)
  (case xeBreakerError => k_is)
  (case geInvalidRow => k_is)
  (case xaInvalidRow => k_is)
  (case xbInvalidRow => k_is)
  (case xcInvalidRow => k_is)
  (case xdInvalidRow => k_is)
  (case xeInvalidRow => k_is)
  (case geInvalidIndex => k_is)
  (case xaInvalidIndex => k_is)
  (case xbInvalidIndex => k_is)
  (case xcInvalidIndex => k_is)
  (case xdInvalidIndex => k_is)
  (case xeInvalidIndex => k_is)
  (case geInvalidBound => k_is)
  (case xaInvalidBound => k_is)
  (case xbInvalidBound => k_is)
  (case xcInvalidBound => k_is)
  (case xdInvalidBound => k_is)
  (case xeInvalidBound => k_is)
  (case geInvalidLog => k_is)
  (case xaInvalidLog => k_is)
  (case xbInvalidLog => k_is)
  (case xcInvalidLog => k_is)
  (case xdInvalidLog => k_is)
  (case xeInvalidLog => k_is)
  (case geInvalidCall => k_is)
  (case xaInvalidCall => k_is)
  (case xbInvalidCall => k_is)
  (case xcInvalidCall => k_is)
  (case xdInvalidCall => k_is)
  (case xeInvalidCall => k_is)
  (case geLimitExceeded => k_is)
  (case xaLimitExceeded => k_is)
  (case xbLimitExceeded => k_is)
  (case xcLimitExceeded => k_is)
  (case xdLimitExceeded => k_is)
  (case xeLimitExceeded => k_is)
  (case xoInvalidRow => k_is)
  (case xsInvalidRow => k_is)
  (case xkInvalidRow => k_is)
  (case aNInvalidRow => k_is)
  (case tNInvalidRow => k_is)
  (case lNInvalidRow => k_is)
  (case cNInvalidRow => k_is)
  (case kNInvalidRow => k_is)
  (case neInvalidRow_part => k_is)
  (case neInvalidRow_at => k_is)
  (case neInvalidRow_index => k_is)
  (case neInvalidRow_call => k_is)
  (case neInvalidRow_limit => k_is)
  (case xlInvalidRow => k_is)
  (case xmInvalidRow => k_is)
  (case seInvalidRow_BreakerError => k_is)
  (case seInvalidRow_InvalidRow => k_is)
  (case seInvalidRow_InvalidIndex => k_is)
  (case seInvalidRow_InvalidBound => k_is)
  (case seInvalidRow_InvalidLog => k_is)
  (case seInvalidRow_InvalidCall => k_is)
  (case seInvalidRow_LimitExceeded => k_is)
  (case saInvalidRow => k_is)
  (case xoInvalidBound => k_is)
  (case xsInvalidBound => k_is)
  (case xkInvalidBound => k_is)
  (case aNInvalidBound => k_is)
  (case tNInvalidBound => k_is)
  (case lNInvalidBound => k_is)
  (case cNInvalidBound => k_is)
  (case kNInvalidBound => k_is)
  (case neInvalidBound_part => k_is)
  (case neInvalidBound_at => k_is)
  (case neInvalidBound_index => k_is)
  (case neInvalidBound_call => k_is)
  (case neInvalidBound_limit => k_is)
  (case xlInvalidBound => k_is)
  (case xmInvalidBound => k_is)
  (case seInvalidBound_BreakerError => k_is)
  (case seInvalidBound_InvalidRow => k_is)
  (case seInvalidBound_InvalidIndex => k_is)
  (case seInvalidBound_InvalidBound => k_is)
  (case seInvalidBound_InvalidLog => k_is)
  (case seInvalidBound_InvalidCall => k_is)
  (case seInvalidBound_LimitExceeded => k_is)
  (case saInvalidBound => k_is)
  (case xoInvalidCall => k_is)
  (case xsInvalidCall => k_is)
  (case xkInvalidCall => k_is)
  (case aNInvalidCall => k_is)
  (case tNInvalidCall => k_is)
  (case lNInvalidCall => k_is)
  (case cNInvalidCall => k_is)
  (case kNInvalidCall => k_is)
  (case neInvalidCall_part => k_is)
  (case neInvalidCall_at => k_is)
  (case neInvalidCall_index => k_is)
  (case neInvalidCall_call => k_is)
  (case neInvalidCall_limit => k_is)
  (case xlInvalidCall => k_is)
  (case xmInvalidCall => k_is)
  (case seInvalidCall_BreakerError => k_is)
  (case seInvalidCall_InvalidRow => k_is)
  (case seInvalidCall_InvalidIndex => k_is)
  (case seInvalidCall_InvalidBound => k_is)
  (case seInvalidCall_InvalidLog => k_is)
  (case seInvalidCall_InvalidCall => k_is)
  (case seInvalidCall_LimitExceeded => k_is)
  (case saInvalidCall => k_is)
  (case xoLimitExceeded => k_is)
  (case xsLimitExceeded => k_is)
  (case xkLimitExceeded => k_is)
  (case aNLimitExceeded => k_is)
  (case tNLimitExceeded => k_is)
  (case lNLimitExceeded => k_is)
  (case cNLimitExceeded => k_is)
  (case kNLimitExceeded => k_is)
  (case neLimitExceeded_part => k_is)
  (case neLimitExceeded_at => k_is)
  (case neLimitExceeded_index => k_is)
  (case neLimitExceeded_call => k_is)
  (case neLimitExceeded_limit => k_is)
  (case xlLimitExceeded => k_is)
  (case xmLimitExceeded => k_is)
  (case seLimitExceeded_BreakerError => k_is)
  (case seLimitExceeded_InvalidRow => k_is)
  (case seLimitExceeded_InvalidIndex => k_is)
  (case seLimitExceeded_InvalidBound => k_is)
  (case seLimitExceeded_InvalidLog => k_is)
  (case seLimitExceeded_InvalidCall => k_is)
  (case seLimitExceeded_LimitExceeded => k_is)
  (case saLimitExceeded => k_is)
  (case moRow_Playing => k_is)
  (case moPlaying_Row => k_is)
  (case gNMOST_BREAKERS => k_is)
  (case gNMOST_REQUESTS => k_is)
  (case aY => k_is)
  (case lY => k_is)
  (case cY => k_is)
  (case kY => k_is)
  (case z_ArithmeticError => k_is)
  (case z_bool => k_is)
  (case z_enumerate => k_is)
  (case z_int => k_is)
  (case z_isinstance => k_is)
  (case z_len => k_is)
  (case z_list => k_is)
  (case z_range => k_is)
  (case z_repr => k_is)
  (case z_str => k_is)
  (case z_tuple => k_is)
  (case z_zip => k_is)
  (case tbq23 => first | exact Toy.tabE_of (hT _ (.head _)) (by kernel_rfl) (by kernel_rfl))
  (case tbY => first | exact Toy.tabE_of (hT _ (.tail _ (.head _))) (by kernel_rfl) (by kernel_rfl))
  (case ntq23_Y => decide)
