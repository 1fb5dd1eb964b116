import PyProof.Rows.All
import Wide.All
import OpenK.AllK
import Wide.FinOn
import HandS.ForMost
import HandS.IsInst
import HandS.Wide
import HandS.Style
import HandS.Defaults
import HandS.MakeKwOnly
import HandS.Zip
import HandS.SortRule
import HandS.TupAny
import HandS.Lambda
import KE.GoesEnum
import HandS.Flow
import HandS.Codes
import HandS.WideBits
import HandS.OwnEq
import HandS.TryOnly
import HandS.TupLe
import HandS.SetFor
import KE.DataMinMax
import HandS.Conv
import KE.DataFind
import PyProof.Rows.CallKwBuiltin
import PyProof.LongRange
import KE.SortData
import PySem.Challenge.RW_breakerrow_k48_whole_great_logs_explaine
set_option Elab.async false
set_option linter.all false
set_option maxRecDepth 100000
set_option maxHeartbeats 4000000
namespace Own
open PySem PySem.Spec PyProof.Rows L2
open Builtin

section
variable {X : Cx} {CX : CXT} {k : Nat} {f C : Addr} {fd : FuncData} {ps : List Str} {sp : Sp} {E : XK}

theorem rr {p : Addr} : L2.RelV (.ref p) (.ref p) := rfl
/-- a promise used under any frame below the body -/
theorem run_at {A : Around} {pins : List (Addr × Obj)} {σ : L2.St} {H : Hp} {s : Shared} {Q : VK} {us : List Value} {vs : List V} (F : FnOk X.prog X.w X.K X.mg X.base CX k f fd ps sp) (hr : Room k A) (hA : A.frames = X.A.frames)
    (hb : Binds X.K fd ps []) (hx : Passes CX X E) (I : Inv X pins σ H s) (r : Vals vs us) (h : sp vs H Q E) : wpAny (model X.prog X.w) A (call (.ref f) us) (EP X pins σ Q) X.xe s := by
  have hl : us.length = ps.length := by rw [← r.length]; exact F.len _ _ _ _ h
  have e0 : Env0 X.prog X.w X.K X.mg X.base A X.stack s H := by
    have e := I.env0
    exact ⟨by rw [hA]; exact e.frames, e.mod, e.bs, e.bsz, e.funs, e.frf, e.hok, e.bare⟩
  have hB : BindsTo s fd ⟨us, []⟩ (ps.zip us) := by
    have := hb s us I.kIn (by rw [List.append_nil]; exact hl)
    rwa [List.append_nil] at this
  refine wpAny_call (codeAny_mono (F.run A X.stack s H ⟨us, []⟩ us vs Q E hr e0 hB r h) fun r s' hq => ?_)
  cases r with
  | error e => exact hx pins σ H s e s' I hq
  | ok fl =>
    cases fl with
    | ret u => exact I.after hq
    | next => exact False.elim hq
    | brk => exact False.elim hq
    | cont => exact False.elim hq

theorem inst_of {pins : List (Addr × Obj)} {σ : L2.St} {H : Hp} {s : Shared} {p dx : Addr} {fs : List (Str × V)} (I : Inv X pins σ H s) (e : H p = some (.ins C dx fs)) : ∃ od, PySem.W.InstAt s.heap p (PySem.W.instObj C dx) C od := by
  obtain ⟨mA, O, _⟩ := ins_get I.hok e
  obtain ⟨od, J, _⟩ := O.look
  exact ⟨_, J⟩

/-- a bool is wanted of the method -/
def BlQ (Q : VK) (g : Bool → Bool) : VK := fun v H' => ∃ b, v = .bl b ∧ Q (.bl (g b)) H'
def rOwnIn (C : Addr) (sp : Sp) (E : XK) (g : Bool → Bool) : R2 := fun x y H Q => ∃ p dx fs, y = .ref p ∧ H p = some (.ins C dx fs) ∧ sp [.ref p, x] H (BlQ Q g) E
theorem op_own_in (F : FnOk X.prog X.w X.K X.mg X.base CX k f fd ps sp) (hr : Room k X.A) (hs : PySem.W.findIn X.K (.ref C) "__contains__" = some (some (.ref f))) (hf : PySem.W.isFn X.K (.ref f) = true) (hb : Binds X.K fd ps []) (hx : Passes CX X E) :
    OpR X (compareOp .In) (rOwnIn C sp E id) := by
  intro pins s σ H x y v u Q I rx ry h
  obtain ⟨p, dx, fs, rfl, hp, q⟩ := h
  cases ry
  obtain ⟨od, J⟩ := inst_of I hp
  obtain ⟨m, hF⟩ := I.fr
  refine PySem.W.in_K hF I.ok.mod.kin J hs hf (thn (run_at F hr rfl hb hx I (.cons rr (.cons rx .nil)) q) fun r s' hh => ?_)
  obtain ⟨z, H', I', rz, b, ez, q'⟩ := hh
  subst ez
  cases rz
  exact wpAny_truthy_bool ⟨.bl b, H', I', rfl, q'⟩
theorem op_own_notin (F : FnOk X.prog X.w X.K X.mg X.base CX k f fd ps sp) (hr : Room k X.A) (hs : PySem.W.findIn X.K (.ref C) "__contains__" = some (some (.ref f))) (hf : PySem.W.isFn X.K (.ref f) = true) (hb : Binds X.K fd ps []) (hx : Passes CX X E) :
    OpR X (compareOp .NotIn) (rOwnIn C sp E not) := by
  intro pins s σ H x y v u Q I rx ry h
  obtain ⟨p, dx, fs, rfl, hp, q⟩ := h
  cases ry
  obtain ⟨od, J⟩ := inst_of I hp
  obtain ⟨m, hF⟩ := I.fr
  refine PySem.W.notIn_K hF I.ok.mod.kin J hs hf (thn (run_at F hr rfl hb hx I (.cons rr (.cons rx .nil)) q) fun r s' hh => ?_)
  obtain ⟨z, H', I', rz, b, ez, q'⟩ := hh
  subst ez
  cases rz
  exact wpAny_truthy_bool ⟨.bl (!b), H', I', rfl, q'⟩
/-- len(o) -/
def rOwnLen (C : Addr) (sp : Sp) (E : XK) : List V → Hp → VK → Prop := fun xs H Q => ∃ p dx fs, xs = [.ref p] ∧ H p = some (.ins C dx fs) ∧ sp [.ref p] H (fun v H' => ∃ n : Int, v = .int n ∧ 0 ≤ n ∧ n < 2 ^ 63 ∧ Q (.int n) H') E
theorem call_own_len (F : FnOk X.prog X.w X.K X.mg X.base CX k f fd ps sp) (hr : Room (k + 1) X.A) (hs : PySem.W.findIn X.K (.ref C) "__len__" = some (some (.ref f))) (hf : PySem.W.isFn X.K (.ref f) = true) (hb : Binds X.K fd ps []) (hx : Passes CX X E) :
    CallR X (.builtin "len") (rOwnLen C sp E) := by
  intro pins s σ H xs us Q I r h
  obtain ⟨p, dx, fs, rfl, hp, q⟩ := h
  obtain ⟨u, rfl, ru⟩ := vals1 r
  cases ru
  obtain ⟨od, J⟩ := inst_of I hp
  obtain ⟨m, hF⟩ := I.fr
  refine PySem.W.len_K hF I.ok.mod.kin J hs hf (thn (run_at F hr.in1 rfl hb hx I (.cons rr .nil) q) fun r s' hh => ?_)
  obtain ⟨z, H', I', rz, n, ez, h0, h1, q'⟩ := hh
  subst ez
  obtain ⟨t, rfl⟩ := rz
  exact ⟨⟨h0, h1⟩, ⟨.int n, H', I'.tok _, ⟨_, rfl⟩, q'⟩⟩
/-- o + p, both of the class -/
def rOwnAdd (C : Addr) (sp : Sp) (E : XK) : R2 := fun x y H Q => ∃ p dx fs q dy gs, x = .ref p ∧ H p = some (.ins C dx fs) ∧ y = .ref q ∧ H q = some (.ins C dy gs) ∧ sp [.ref p, .ref q] H (fun v H' => (∃ a, v = .ref a) ∧ Q v H') E
theorem op_own_add (F : FnOk X.prog X.w X.K X.mg X.base CX k f fd ps sp) (hr : Room k X.A) (hc : PySem.W.selfFirst X.K C = true) (hs : PySem.W.findIn X.K (.ref C) "__add__" = some (some (.ref f))) (hf : PySem.W.isFn X.K (.ref f) = true) (hb : Binds X.K fd ps []) (hx : Passes CX X E) :
    OpR X (binaryOp .Add) (rOwnAdd C sp E) := by
  intro pins s σ H x y v u Q I rx ry h
  obtain ⟨p, dx, fs, q, dy, gs, rfl, hp, rfl, hq, hh⟩ := h
  cases rx
  cases ry
  obtain ⟨od, J⟩ := inst_of I hp
  obtain ⟨od', J'⟩ := inst_of I hq
  obtain ⟨m, hF⟩ := I.fr
  refine PySem.W.binop_K hF I.ok.mod.kin J J'.type hc hs hf (thn (run_at F hr rfl hb hx I (.cons rr (.cons rr .nil)) hh) fun r s' hh => ?_)
  obtain ⟨z, H', I', rz, ⟨a, ez⟩, q'⟩ := hh
  subst ez
  cases rz
  exact ⟨.ref a, H', I', rfl, q'⟩
/-- o[i] -/
def rOwnIx (C : Addr) (sp : Sp) (E : XK) : R2 := fun x y H Q => ∃ p dx fs, x = .ref p ∧ H p = some (.ins C dx fs) ∧ sp [.ref p, y] H Q E
theorem pe_own_ix {a b : Expr} {ta tb : TE} {pos : Pos} (F : FnOk X.prog X.w X.K X.mg X.base CX k f fd ps sp) (hr : Room (k + 1) X.A) (hs : PySem.W.findIn X.K (.ref C) "__getitem__" = some (some (.ref f))) (hfn : PySem.W.fnIn X.K f = true) (hf : PySem.W.isFn X.K (.ref f) = true)
    (hb : Binds X.K fd ps []) (hx : Passes CX X E) (ha : PE X a ta) (hb' : PE X b tb) (hsl : ∀ o i, subscripted b true o i = runValue (.builtin "lifetime.subscript" ⟨[o, i], []⟩) := by exact fun _ _ => rfl) :
    PE X (.Subscript a b pos) (tOp (rOwnIx C sp E) ta tb) := by
  refine ⟨fun pins s σ H Q I h => ?_⟩
  refine Subscript_ (binT ha hb' I h fun v u s2 x y H2 I2 rx ry q => ?_)
  obtain ⟨p, dx, fs, rfl, hp, q⟩ := q
  cases rx
  obtain ⟨od, J⟩ := inst_of I2 hp
  obtain ⟨m, hF⟩ := I2.fr
  exact PySem.W.sub_K hF I2.ok.mod.kin J hs hfn hf (run_at F hr.in1 rfl hb hx I2 (.cons rr (.cons ry .nil)) q) (hsl _ _)

/-! ### own == and the != that comes with it -/
theorem sub_ty {K : PySem.W.Frag} {C : Addr} {T : String} {l : List String} (e : fastBuiltinMro T = some (l.map Value.type)) : PySem.W.subIn K (.type T) (.ref C) = some false := by
  show (fastBuiltinMro T).map (·.contains (.ref C)) = some false
  rw [e]
  have : ∀ l : List String, (l.map Value.type).contains (Value.ref C) = false := by
    intro l
    induction l with
    | nil => rfl
    | cons a r ih =>
      rw [List.map_cons, List.contains_cons, ih]
      rfl
  rw [Option.map_some, this]
/-- a value's type, not one below the class C -/
inductive TyN (H : Hp) (C : Addr) : V → Value → Prop where
  | non : TyN H C .non (.type "NoneType")
  | bl (x : Bool) : TyN H C (.bl x) (.type "bool")
  | int (i : Int) : TyN H C (.int i) (.type "int")
  | str (x : Str) : TyN H C (.str x) (.type "str")
  | lst {a : Addr} {xs : List V} (e : H a = some (.lst xs)) : TyN H C (.ref a) (.type "list")
  | tup {a : Addr} {xs : List V} (e : H a = some (.tup xs)) : TyN H C (.ref a) (.type "tuple")
  | ins {a dx : Addr} {fs : List (Str × V)} (e : H a = some (.ins C dx fs)) : TyN H C (.ref a) (.ref C)
theorem TyN.notFirst {K : PySem.W.Frag} {H : Hp} {x : V} {t : Value} (h : TyN H C x t) : PySem.W.notFirst K C t = true := by
  cases h with
  | non => exact Bool.or_eq_true_iff.mpr (.inr (beq_iff_eq.mpr (sub_ty (l := ["NoneType", "object"]) (by decide +kernel))))
  | bl _ => exact Bool.or_eq_true_iff.mpr (.inr (beq_iff_eq.mpr (sub_ty (l := ["bool", "int", "object"]) (by decide +kernel))))
  | int _ => exact Bool.or_eq_true_iff.mpr (.inr (beq_iff_eq.mpr (sub_ty (l := ["int", "object"]) (by decide +kernel))))
  | str _ => exact Bool.or_eq_true_iff.mpr (.inr (beq_iff_eq.mpr (sub_ty (l := ["str", "object"]) (by decide +kernel))))
  | lst _ => exact Bool.or_eq_true_iff.mpr (.inr (beq_iff_eq.mpr (sub_ty (l := ["list", "object"]) (by decide +kernel))))
  | tup _ => exact Bool.or_eq_true_iff.mpr (.inr (beq_iff_eq.mpr (sub_ty (l := ["tuple", "object"]) (by decide +kernel))))
  | ins _ => exact Bool.or_eq_true_iff.mpr (.inl (by simp))
theorem looks_obj {M : Model} {h : Heap} {a : Addr} {o : Obj} (e : h.get? a = some o) : PySem.W.Looks M h (typeOf (.ref a)) o.cls := fun A Q E s kp q => PySem.wpAny_typeOf_ref (kp _ _ e) q
theorem TyN.looks {M : Model} {pins : List (Addr × Obj)} {σ : L2.St} {H : Hp} {s : Shared} {x : V} {u t : Value} (I : Inv X pins σ H s) (r : RelV x u) (h : TyN H C x t) : PySem.W.Looks M s.heap (typeOf u) t := by
  cases h with
  | non => cases r; exact PySem.W.Looks.of_pure rfl
  | bl _ => cases r; exact PySem.W.Looks.of_pure rfl
  | int _ => obtain ⟨_, rfl⟩ := r; exact PySem.W.Looks.of_pure rfl
  | str _ => obtain ⟨_, rfl⟩ := r; exact PySem.W.Looks.of_pure rfl
  | @lst a xs e =>
    cases r
    obtain ⟨_, _, n, _, h1⟩ := (show ObjOk X.prog X.w H s.heap a (.lst xs) from I.hok a _ e)
    exact looks_obj h1
  | @tup a xs e =>
    cases r
    obtain ⟨_, _, _, o, h1, h2, _⟩ := (show ObjOk X.prog X.w H s.heap a (.tup xs) from I.hok a _ e)
    have := looks_obj (M := M) h1
    rw [h2] at this
    exact this
  | ins e =>
    cases r
    obtain ⟨od, J⟩ := inst_of I e
    exact J.type
def rOwnEq (C : Addr) (sp : Sp) (E : XK) (g : Bool → Bool) : R2 := fun x y H Q => ∃ p dx fs t, x = .ref p ∧ H p = some (.ins C dx fs) ∧ TyN H C y t ∧ sp [.ref p, y] H (BlQ Q g) E
theorem op_own_eq (F : FnOk X.prog X.w X.K X.mg X.base CX k f fd ps sp) (hr : Room k X.A) (hs : PySem.W.findIn X.K (.ref C) "__eq__" = some (some (.ref f))) (hf : PySem.W.isFn X.K (.ref f) = true) (hb : Binds X.K fd ps []) (hx : Passes CX X E) :
    OpR X (compareOp .Eq) (rOwnEq C sp E id) := by
  intro pins s σ H x y v u Q I rx ry h
  obtain ⟨p, dx, fs, t, rfl, hp, ty, q⟩ := h
  cases rx
  obtain ⟨od, J⟩ := inst_of I hp
  obtain ⟨m, hF⟩ := I.fr
  show wpAny (model X.prog X.w) X.A (richCompare .Eq (.ref p) u) (EP X pins σ Q) X.xe s
  refine PySem.W.cmp_K (op := .Eq) hr.units0 hF I.ok.mod.kin J (ty.looks I ry) ty.notFirst hs hf (thn (run_at F hr rfl hb hx I (.cons rr (.cons ry .nil)) q) fun r s' hh => ?_)
  obtain ⟨z, H', I', rz, b, ez, q'⟩ := hh
  subst ez
  cases rz
  exact ⟨.bl b, H', I', rfl, q'⟩
section
variable {prog : Program} {w : World} {A : Around} {E' : Value → Shared → Prop} {s : Shared} {K : PySem.W.Frag} {x : Addr} {ox : Obj} {od : Option Obj} {b : Value}
theorem objNe_entry (hX : K.In s.heap) (I : PySem.W.InstAt s.heap x ox C od) (hs : PySem.W.findIn K (.ref C) "__eq__" = some (some (.ref f))) (hf : PySem.W.isFn K (.ref f) = true) (hu : A.units < cLine) {Q : Fin → Shared → Prop}
    (hcall : wpAny (model prog w) A (call (.ref f) [.ref x, b]) (fun v s' => ∃ k, v = .bool k ∧ Q (.done (.ret (.bool (!k)))) s') E' s) :
    wpAny (model prog w) A (Builtin.«object.__ne__» ⟨[.ref x, b], []⟩) Q E' s := by
  unfold Builtin.«object.__ne__»
  repeat (first
    | with_reducible refine wpAny_cRoomFor hu ?_
    | (refine wpAny_bind (m := callSpecialIfBound? (.ref x) (Str.ofString "__eq__") [b])
        (PySem.W.ifBound_K hX I hs hf (wpAny_mono hcall (fun r s' hr => by
          obtain ⟨k, rfl, hq⟩ := hr
          repeat (first | exact hq | exact wpAny_pure hq | exact wpAny_truthy_bool hq | (refine wpAny_bind (m := truthy (.bool _)) (wpAny_truthy_bool ?_)) | wp_step)) fun _ _ e => e)))
    | wp_step)
theorem call_objNe (hX : K.In s.heap) (I : PySem.W.InstAt s.heap x ox C od) (hm : PySem.W.mroIn K C (.type "object") = some true) (hs : PySem.W.findIn K (.ref C) "__eq__" = some (some (.ref f))) (hf : PySem.W.isFn K (.ref f) = true) (hu : A.units + 1 < cLine) {Q : Value → Shared → Prop}
    (hcall : wpAny (model prog w) A.in1 (call (.ref f) [.ref x, b]) (fun v s' => ∃ k, v = .bool k ∧ Q (.bool (!k)) s') E' s) :
    wpAny (model prog w) A (call (.builtin "object.__ne__") [.ref x, b]) Q E' s :=
  wpAny_call (codeAny_call_builtin PySem.F.cmp_object.ne.plain PySem.F.cmpEntry_ne (PySem.W.check_slot PySem.F.cmpKind_ne PySem.F.cmpSplit_ne (I.type.andThen (PySem.W.looks_mroIn hX hm)) (PySem.F.cmpArgs_ne _ _)
    (objNe_entry (A := A.in1) hX I hs hf hu (wpAny_mono hcall (fun v s' hv => by
      obtain ⟨k, e, hq⟩ := hv
      exact ⟨k, e, hq⟩) fun _ _ e => e))))
theorem ifBound_objNe {M : Model} {args : List Value} {Q : Option Value → Shared → Prop} (hX : K.In s.heap) (I : PySem.W.InstAt s.heap x ox C od) (hs : PySem.W.findIn K (.ref C) "__ne__" = some (some (.builtin "object.__ne__")))
    (h : wpAny M A (call (.builtin "object.__ne__") (.ref x :: args)) (fun v => Q (some v)) E' s) : wpAny M A (callSpecialIfBound? (.ref x) "__ne__" args) Q E' s := by
  simp only [callSpecialIfBound?, bindSpecialIfBound?]
  refine wpAny_holding (wpAny_bind (wpAny_bind (wpAny_bind (I.type.here ((PySem.W.looks_findIn hX hs).here ?_)))))
  refine wpAny_bind (wpAny_askSetting (wpAny_ite ?_))
  have fin : wpAny M A (call (.builtin "object.__ne__") ([.ref x] ++ args) >>= fun v => pure (some v)) Q E' s := wpAny_bind (wpAny_mono h (fun v s' h' => wpAny_pure h') fun _ _ h' => h')
  split
  · exact wpAny_bind (wpAny_of_eq (PySem.F.cmp_object.ne.bind _) (wpAny_pure (by exact fin)))
  · exact wpAny_tryCatch (wpAny_bind (wpAny_of_eq (PySem.F.cmp_object.ne.bind _) (wpAny_pure (by exact fin))))
theorem rc_ne {tb : Value} {Q : Value → Shared → Prop} (hu : A.units + 1 < cLine) (hX : K.In s.heap) (I : PySem.W.InstAt s.heap x ox C od) (hb : PySem.W.Looks (model prog w) s.heap (typeOf b) tb) (hn : PySem.W.notFirst K C tb = true)
    (hm : PySem.W.mroIn K C (.type "object") = some true) (hne : PySem.W.findIn K (.ref C) "__ne__" = some (some (.builtin "object.__ne__"))) (hs : PySem.W.findIn K (.ref C) "__eq__" = some (some (.ref f))) (hf : PySem.W.isFn K (.ref f) = true)
    (hcall : wpAny (model prog w) A.in1 (call (.ref f) [.ref x, b]) (fun v s' => ∃ k, v = .bool k ∧ Q (.bool (!k)) s') E' s) : wpAny (model prog w) A (richCompare .NotEq (.ref x) b) Q E' s := by
  have one : wpAny (model prog w) A (tryCompare (.ref x) "__ne__" b) (fun r s' => ∃ v, r = some v ∧ Q v s') E' s := by
    unfold tryCompare
    refine wpAny_bind (ifBound_objNe hX I hne (call_objNe hX I hm hs hf hu (wpAny_mono hcall (fun v s' hv => ?_) fun _ _ e => e)))
    obtain ⟨k, rfl, hq⟩ := hv
    exact ⟨k, rfl, wpAny_pure ⟨_, rfl, hq⟩⟩
  unfold richCompare
  simp only [oneThing_ref, cmpInfo_NotEq]
  refine wpAny_holding (wpAny_bind (wpAny_cRoomFor (Nat.lt_of_succ_lt hu) ?_))
  refine wpAny_bind (I.type.here (wpAny_bind (hb.here ?_)))
  split
  · rename_i q
    have e : PySem.W.subIn K tb (.ref C) = some false := by
      rcases Bool.or_eq_true_iff.mp hn with e | e
      · rw [beq_iff_eq.mp e] at q; simp at q
      · exact beq_iff_eq.mp e
    refine wpAny_bind ((PySem.W.looks_subIn hX e).here ?_)
    simp only [Bool.false_eq_true, if_false]
    refine wpAny_bind (wpAny_mono one (fun r s' z => ?_) fun _ _ e => e)
    obtain ⟨v, rfl, hq⟩ := z
    exact wpAny_pure hq
  · refine wpAny_bind (wpAny_pure ?_)
    simp only [Bool.false_eq_true, if_false]
    refine wpAny_bind (wpAny_mono one (fun r s' z => ?_) fun _ _ e => e)
    obtain ⟨v, rfl, hq⟩ := z
    exact wpAny_pure hq
end
theorem op_own_ne (F : FnOk X.prog X.w X.K X.mg X.base CX k f fd ps sp) (hr : Room (k + 1) X.A) (hm : PySem.W.mroIn X.K C (.type "object") = some true) (hne : PySem.W.findIn X.K (.ref C) "__ne__" = some (some (.builtin "object.__ne__")))
    (hs : PySem.W.findIn X.K (.ref C) "__eq__" = some (some (.ref f))) (hf : PySem.W.isFn X.K (.ref f) = true) (hb : Binds X.K fd ps []) (hx : Passes CX X E) :
    OpR X (compareOp .NotEq) (rOwnEq C sp E not) := by
  intro pins s σ H x y v u Q I rx ry h
  obtain ⟨p, dx, fs, t, rfl, hp, ty, q⟩ := h
  cases rx
  obtain ⟨od, J⟩ := inst_of I hp
  show wpAny (model X.prog X.w) X.A (richCompare .NotEq (.ref p) u) (EP X pins σ Q) X.xe s
  refine rc_ne (hu_of hr) I.kIn J (ty.looks I ry) ty.notFirst hm hne hs hf (thn (run_at F hr.in1 rfl hb hx I (.cons rr (.cons ry .nil)) q) fun r s' hh => ?_)
  obtain ⟨z, H', I', rz, b, ez, q'⟩ := hh
  subst ez
  cases rz
  exact ⟨b, rfl, .bl (!b), H', I', rfl, q'⟩
end
end Own

namespace Toy
open PySem L2 Own
/-! ### the text by places -/
def top (i : Nat) : Stmt := PySem.Challenge.pw_breakerrow_k48_whole_great_logs_explaine.main.body.getD i (.Pass ⟨0, 0, 0, 0⟩)
abbrev st_InvalidRow_init : Stmt := inClass (top 2) 0
abbrev st_InvalidTime_init : Stmt := inClass (top 3) 0
abbrev st_InvalidLog_init : Stmt := inClass (top 4) 0
abbrev st_is_integer : Stmt := top 6
abbrev st_is_at_least : Stmt := top 7
abbrev st_is_within : Stmt := top 8
abbrev st_is_breaker : Stmt := top 12
abbrev st_passes : Stmt := top 14
abbrev st_state_behind : Stmt := top 15
abbrev st_check_times : Stmt := top 18
abbrev st_log_of : Stmt := top 19
abbrev st_is_entry : Stmt := top 20
abbrev st_check_log : Stmt := top 21
abbrev st_passes_ahead : Stmt := top 22
abbrev st_gaps_of : Stmt := top 23
abbrev st_narrowed : Stmt := top 24
abbrev st_explanations : Stmt := top 25
abbrev st_first_conflict : Stmt := top 26
abbrev st_forecast : Stmt := top 27
abbrev st__law_mixed : Stmt := top 29
abbrev st__law_well : Stmt := top 30
abbrev st__law_draw : Stmt := top 31
abbrev st__law_one : Stmt := top 32
abbrev st__law_place : Stmt := top 33
abbrev st__law_far_times : Stmt := top 34
abbrev st__law_bounds_right : Stmt := top 35
abbrev st__law_right : Stmt := top 36
abbrev st_law : Stmt := top 37
/-- a def of the top -/
structure Dfn (K : PySem.W.Frag) (mg : Str → Option Value) (x : Str) (st : Stmt) (f : Addr) (ps : List Str) : Prop where
  ex : ∃ fd, Fun K x x st f fd ∧ Binds K fd ps []
  g : mg x = some (.ref f)
structure Mth (K : PySem.W.Frag) (C : Addr) (m q : Str) (st : Stmt) (f : Addr) (ps : List Str) : Prop where
  ex : ∃ fd, Fun K m q st f fd ∧ Binds K fd ps []
  at_ : PySem.W.findIn K (.ref C) m = some (some (.ref f))
  fn : PySem.W.isFn K (.ref f) = true
  fk : PySem.W.fnIn K f = true
/-- a def that is called by its name, with its promise -/
structure Cal (P : Program) (w : World) (K : PySem.W.Frag) (mg : Str → Option Value) (base : Heap) (x : Str) (k : Nat) (f : Addr) (ps : List Str) (sp : Sp) : Prop where
  ex : ∃ fd, FnOk P w K mg base CX0 k f fd ps sp ∧ Binds K fd ps []
  g : mg x = some (.ref f)
  kp : PySem.W.keepIn K (.ref f) = true
theorem Dfn.cal {P : Program} {w : World} {K : PySem.W.Frag} {mg : Str → Option Value} {base : Heap} {x : Str} {st : Stmt} {f : Addr} {ps : List Str} {k : Nat} {sp : Sp} (D : Dfn K mg x st f ps) (h : ∀ fd, Fun K x x st f fd → FnOk P w K mg base CX0 k f fd ps sp) : Cal P w K mg base x k f ps sp := by
  obtain ⟨fd, F, b⟩ := D.ex
  exact ⟨⟨fd, h fd F, b⟩, D.g, F.kp⟩
theorem pe_c {X : Cx} {x : Str} {k : Nat} {f : Addr} {ps : List Str} {sp : Sp} {t : TA} {e : Expr} {es : List Expr} {p pos : Pos} (c : Cal X.prog X.w X.K X.mg X.base x k f ps sp) (hr : Room k X.A) (hg : Gl X x)
    (ha : PA X (e :: es) t) (hdb : (x == ("__debug__" : Str)) = false := by decide) (he : starEach (e :: es) X.env = (false, eval e X.env) :: starEach es X.env := by rfl) (hpl : (backTo pos (starEach es X.env)).any (·.1) = false := by rfl) :
    PE X (.Call (.Name x p) (e :: es) [] pos) (tCall sp [] E0 t) := by
  obtain ⟨fd, F, b⟩ := c.ex
  exact pe_call F hr hg c.g c.kp b .nil pass0 ha hdb he hpl
/-- a method with its promise -/
structure Met (P : Program) (w : World) (K : PySem.W.Frag) (mg : Str → Option Value) (base : Heap) (C : Addr) (m : Str) (k : Nat) (f : Addr) (ps : List Str) (sp : Sp) : Prop where
  ex : ∃ fd, FnOk P w K mg base CX0 k f fd ps sp ∧ Binds K fd ps []
  me : Meth K C m f
  fk : PySem.W.fnIn K f = true
theorem Mth.met {P : Program} {w : World} {K : PySem.W.Frag} {mg : Str → Option Value} {base : Heap} {C : Addr} {m q : Str} {st : Stmt} {f : Addr} {ps : List Str} {k : Nat} {sp : Sp} (D : Mth K C m q st f ps) (h : ∀ fd, Fun K m q st f fd → FnOk P w K mg base CX0 k f fd ps sp) : Met P w K mg base C m k f ps sp := by
  obtain ⟨fd, F, b⟩ := D.ex
  exact ⟨⟨fd, h fd F, b⟩, ⟨D.at_, D.fn, F.kp⟩, D.fk⟩

/-! ### values of plain kinds -/
inductive Kd (H : Hp) : V → String → Prop where
  | non : Kd H .non "NoneType"
  | bl (b : Bool) : Kd H (.bl b) "bool"
  | int (i : Int) : Kd H (.int i) "int"
  | str (x : Str) : Kd H (.str x) "str"
  | lst {a : Addr} {xs : List V} (e : H a = some (.lst xs)) : Kd H (.ref a) "list"
  | tup {a : Addr} {xs : List V} (e : H a = some (.tup xs)) : Kd H (.ref a) "tuple"
  | dK {a : Addr} {xs : List (Key × V)} (e : H a = some (.dK xs)) : Kd H (.ref a) "dict"
theorem Kd.ty {K : PySem.W.Frag} {H : Hp} {v : V} {n : String} (h : Kd H v n) : TyX K H v (.type n) := by
  cases h with
  | non => exact .base .non
  | bl b => exact .base (.bl b)
  | int i => exact .base (.int i)
  | str x => exact .base (.str x)
  | lst e => exact .base (.lst e)
  | tup e => exact .base (.tup e)
  | dK e => exact .base (.dK e)
def isI : V → Bool
  | .int _ => true
  | _ => false
def toI : V → Int
  | .int i => i
  | _ => 0
theorem Kd.kit {K : PySem.W.Frag} {H : Hp} {v : V} {n : String} (h : Kd H v n) (c : String) (b : Bool) (hc : c = "int" ∧ b = (n == "int" || n == "bool") ∨ c ≠ "int" ∧ c ∈ ["bool", "list", "tuple"] ∧ b = (n == c)) : PySem.W.kitOne K (.type n) (.type c) = some b := by
  rcases hc with ⟨rfl, rfl⟩ | ⟨_, hc, rfl⟩
  · cases h <;> exact kit_ty (by decide +kernel)
  · simp only [List.mem_cons, List.mem_nil_iff, or_false] at hc
    rcases hc with rfl | rfl | rfl <;> cases h <;> exact kit_ty (by decide +kernel)
theorem Kd.same {H H' : Hp} {v : V} {n : String} (h : Kd H v n) (s : ∀ b o, v = .ref b → H b = some o → H' b = some o) : Kd H' v n := by
  cases h with
  | non => exact .non
  | bl b => exact .bl b
  | int i => exact .int i
  | str x => exact .str x
  | lst e => exact .lst (s _ _ rfl e)
  | tup e => exact .tup (s _ _ rfl e)
  | dK e => exact .dK (s _ _ rfl e)
/-- all but what stands at a is kept -/
def Kp (a : Addr) (H H' : Hp) : Prop := ∀ b o, b ≠ a → H b = some o → H' b = some o
theorem Kp.refl {a : Addr} {H : Hp} : Kp a H H := fun _ _ _ h => h
theorem Kp.trans {a : Addr} {H H1 H2 : Hp} (h : Kp a H H1) (h' : Kp a H1 H2) : Kp a H H2 := fun b o n e => h' b o n (h b o n e)
theorem Kp.of {a : Addr} {H H' : Hp} (s : Same H H') : Kp a H H' := fun b o _ e => s b o e
theorem Kp.upd {a : Addr} {H : Hp} {o : HO} : Kp a H (upd H a o) := fun b _ n e => by rw [upd_ne n]; exact e
theorem Same.upd {H : Hp} {p : Addr} {o : HO} (h : H p = none) : Same H (L2.upd H p o) := fun b u e => by rw [upd_ne (ne_of_none e h)]; exact e
theorem Kp.free {a b : Addr} {H H' : Hp} {o : HO} (k : Kp a H H') (ha : H a = some o) (h : H' b = none) (n : b ≠ a) : H b = none := by
  cases q : H b with
  | none => rfl
  | some u => rw [k b u n q] at h; cases h

/-! ### the promises of the small defs -/
def spIsInt : Sp := fun vs H Q _ => ∃ v n, vs = [v] ∧ Kd H v n ∧ Q (.bl (isI v)) H
def spAtL : Sp := fun vs H Q _ => ∃ v n l, vs = [v, .int l] ∧ Kd H v n ∧ Q (.bl (isI v && decide (l ≤ toI v))) H
def spWithin : Sp := fun vs H Q _ => ∃ v n l m, vs = [v, .int l, .int m] ∧ Kd H v n ∧ Q (.bl (isI v && (decide (l ≤ toI v) && decide (toI v ≤ m)))) H
/-- how many steps -/
def stepsUp (d s : Int) : Int := if -(-d / s) > 0 then -(-d / s) else 0
def spSteps : Sp := fun vs H Q _ => ∃ d s, vs = [.int d, .int s] ∧ 0 < s ∧ s.natAbs.log2 < 9000 ∧ Q (.int (stepsUp d s)) H

/-- what is no list is kept -/
def NL (H H' : Hp) : Prop := ∀ b o, H b = some o → (∀ xs, o ≠ .lst xs) → H' b = some o
theorem NL.refl {H : Hp} : NL H H := fun _ _ h _ => h
theorem NL.trans {H H1 H2 : Hp} (a : NL H H1) (b : NL H1 H2) : NL H H2 := fun c o h n => b c o (a c o h n) n
theorem NL.of {H H' : Hp} (s : Same H H') : NL H H' := fun b o e _ => s b o e
theorem Kp.nl {a : Addr} {H H' : Hp} {xs : List V} (k : Kp a H H') (h : H a = some (.lst xs)) : NL H H' := fun b o e n => k b o (fun z => by subst z; rw [h] at e; exact n xs (Option.some.inj e).symm) e
theorem NL.upd {H : Hp} {p : Addr} {xs : List V} {o : HO} (h : H p = some (.lst xs)) : NL H (L2.upd H p o) := Kp.nl Kp.upd h
theorem pe_gI {X : Cx} {x : Str} {i : Int} {t : Tok} {pos : Pos} (hm : X.mg x = some (.int i t)) (hg : Gl X x := by rfl) (hd : (x == ("__debug__" : Str)) = false := by decide) : PE X (.Name x pos) (tC (.int i)) := pe_glob hg hm ⟨t, rfl⟩ hd
@[irreducible] def PB (n : Nat) : Int := 2 ^ n
theorem PB_succ (n : Nat) : PB (n + 1) = PB n + PB n := by
  unfold PB
  rw [Int.pow_succ]
  omega
theorem PB_pos (n : Nat) : 1 ≤ PB n := by
  unfold PB
  have : (0 : Int) < 2 ^ n := Int.pow_pos (by decide)
  omega
theorem PB_le {n m : Nat} (h : n ≤ m) : PB n ≤ PB m := by
  induction m with
  | zero => rw [Nat.le_zero.mp h]; exact Int.le_refl _
  | succ m ih =>
    by_cases e : n = m + 1
    · rw [e]; exact Int.le_refl _
    · have h1 := ih (by omega)
      have h2 := PB_succ m
      have h3 := PB_pos m
      omega
theorem PB_abs {i : Int} {n : Nat} (h0 : 0 ≤ i) (h : i ≤ PB n) : i.natAbs < 2 ^ (n + 1) := by
  unfold PB at h
  have e : (2 : Nat) ^ (n + 1) = 2 ^ n * 2 := Nat.pow_succ 2 n
  have e2 : ((2 ^ n : Nat) : Int) = 2 ^ n := by rw [Int.natCast_pow]; rfl
  rw [← e2] at h
  have : 0 < 2 ^ n := Nat.pow_pos (by decide)
  rw [e]
  generalize 2 ^ n = w at *
  omega
theorem PB_of {i : Int} {n : Nat} (h : i.natAbs < 2 ^ n) : i ≤ PB n := by
  unfold PB
  have e2 : ((2 ^ n : Nat) : Int) = 2 ^ n := by rw [Int.natCast_pow]; rfl
  rw [← e2]
  generalize 2 ^ n = w at *
  omega
def BB : Int := PB 5000
theorem BB0 : 0 ≤ BB := by
  have := PB_pos 5000
  unfold BB
  omega
theorem bb_lt {i : Int} (h0 : 0 ≤ i) (h : i ≤ BB + BB) : i.natAbs < 2 ^ 5002 := PB_abs h0 (by rw [PB_succ]; exact h)
theorem mulBB {i j : Int} (i0 : 0 ≤ i) (i1 : i ≤ BB + BB) (j0 : 0 ≤ j) (j1 : j ≤ BB + BB) : CMulW i j := wide_mul (bb_lt i0 i1) (bb_lt j0 j1) (by decide) (by decide) (by decide)
theorem BB1 : 1 ≤ BB := PB_pos 5000
theorem divBB {j : Int} (j0 : 1 ≤ j) (j1 : j ≤ BB) : j.natAbs.log2 < 9000 := (wide_div (i := 0) (by omega : 0 < j) (bb_lt (by omega) (by have := BB0; omega)) (by decide) (by decide)).2
theorem small2 {n : Nat} (h : n ≤ 100000) : n ≤ sizeLine := Nat.le_trans h (by decide)
theorem small1 {n : Nat} (h : n ≤ 100000) : n < sizeLine := Nat.lt_of_le_of_lt h (by decide)
theorem tYes_of {σ : L2.St} {H : Hp} {A B : Hp → Prop} (h : A H) : tYes σ H (fun b H3 => if b = true then A H3 else B H3) := by
  show if true = true then A H else B H
  rw [if_pos rfl]
  exact h
theorem cut_init (xs : List V) : cutV xs none (some (-1)) = xs.take (xs.length - 1) := by
  show (xs.drop 0).take ((if (-1 : Int) < 0 then ((-1 : Int) + (xs.length : Int)).toNat else min (-1 : Int).toNat xs.length) - 0) = _
  rw [if_pos (by decide), List.drop_zero]
  congr 1
  omega
theorem cut_last (xs : List V) : cutV xs (some (-1)) none = xs.drop (xs.length - 1) := by
  show (xs.drop (if (-1 : Int) < 0 then ((-1 : Int) + (xs.length : Int)).toNat else min (-1 : Int).toNat xs.length)).take (xs.length - (if (-1 : Int) < 0 then ((-1 : Int) + (xs.length : Int)).toNat else min (-1 : Int).toNat xs.length)) = _
  rw [if_pos (by decide)]
  have e : ((-1 : Int) + (xs.length : Int)).toNat = xs.length - 1 := by omega
  rw [e]
  refine List.take_of_length_le ?_
  rw [List.length_drop]
  exact Nat.le_refl _
theorem none_of {H H' : Hp} {l : Addr} (s : Same H H') (h : H' l = none) : H l = none := by
  cases q : H l with
  | none => rfl
  | some o => rw [s _ _ q] at h; cases h
theorem for_enum {K : PySem.W.Frag} {a : Addr} {xs : List V} {g : TG} {tb : TS} {D : Ends} {σ : L2.St} {H : Hp} (Pv : Nat → L2.St → Hp → Prop) (h0 : Pv 0 σ H) (hl : ∀ i σ H, i ≤ xs.length → Pv i σ H → SqL K H a xs)
    (hs : ∀ i x T σ H, xs[i]? = some x → Pv i σ H → H T = none → g (.ref T) σ (upd H T (.tup [.int (i : Nat), x])) fun σ2 H2 => tb { D with nx := Pv (i + 1), ct := Pv (i + 1), bk := D.nx } σ2 H2) (hd : ∀ σ H, Pv xs.length σ H → D.nx σ H) :
    ∃ W : Nat → Nat → L2.St → Hp → Prop, (∃ m, W 0 m σ H) ∧ ∀ i m σ H, W i m σ H →
      ((Ite K a).stop i H ∧ D.nx σ H) ∨ ((Ite K a).go i H ∧ ∃ N : L2.St → Hp → Prop, (∀ σ' H', N σ' H' → ∃ m', m' < m ∧ W (i + 1) m' σ' H') ∧ ∀ x H', (Ite K a).yld i H x H' → g x σ H' fun σ2 H2 => tb { D with nx := N, ct := N, bk := D.nx } σ2 H2) := by
  refine ⟨fun i m σ H => m = xs.length - i ∧ i ≤ xs.length ∧ Pv i σ H, ⟨xs.length, by simp, Nat.zero_le _, h0⟩, ?_⟩
  rintro i m σ H ⟨rfl, hi, p⟩
  have q := hl i σ H hi p
  by_cases hlt : i < xs.length
  · refine .inr ⟨⟨xs, xs[i], q, by simp [hlt]⟩, Pv (i + 1), fun σ' H' p' => ⟨xs.length - (i + 1), by omega, rfl, hlt, p'⟩, fun x H' y => ?_⟩
    obtain ⟨T, x', rfl, hT, rfl, hx⟩ := y
    exact hs i x' T σ H (hx xs q) p hT
  · have e : i = xs.length := by omega
    subst e
    exact .inl ⟨⟨xs, q, Nat.le_refl _⟩, hd σ H p⟩
theorem pe_callN0 {X : Cx} {CX : CXT} {k : Nat} {f : Addr} {fd : FuncData} {ps ks : List Str} {sp : Sp} {E : XK} {x : Str} {p pos : Pos} {kws : List Keyword} {tk : TA} {g : List Value → List Value → List Value} {gV : List V → List V → List V}
    (F : FnOk X.prog X.w X.K X.mg X.base CX k f fd ps sp) (hr : Room k X.A) (hg : Gl X x) (hm : X.mg x = some (.ref f)) (hk : PySem.W.keepIn X.K (.ref f) = true) (hb : KBn X.K fd ps 0 ks g gV) (hx : Passes CX X E) (hkw : PK X kws tk)
    (hall : (backToKw pos (keywordEach kws X.env)).all (·.1.isSome) = true := by rfl) (hks : (backToKw pos (keywordEach kws X.env)).filterMap (·.1) = ks := by rfl) (hdb : (x == ("__debug__" : Str)) = false := by decide)
    (hpl : ((backTo pos (starEach [] X.env)).any (·.1) || (backToKw pos (keywordEach kws X.env)).any (·.1.isNone)) = false := by rfl) :
    PE X (.Call (.Name x p) [] kws pos) (tCallN 0 ks.length sp gV E tNil tk) := by
  refine ⟨fun pins s σ H Q I h => ?_⟩
  refine wpAny_Call_Name_kw (ld_glob I hg hm ?_ hdb)
  refine PySem.W.callWith_KW0 (h₀ := X.base) I.ok.mod.kin hk hall ?_ hpl
  refine thn (hkw.run pos pins s σ H _ I h) fun ws s2 ⟨zs, H2, I2, rz, l1, l2, q2⟩ => ⟨I2.kIn, ?_⟩
  rw [hks]
  exact run_fnN F hr hb hx I2 .nil rz rfl l2 q2
section
variable {X : Cx} {C : Addr} {k : Nat} {f : Addr} {ps : List Str} {sp : Sp}
theorem Met.op_in (c : Met X.prog X.w X.K X.mg X.base C "__contains__" k f ps sp) (hr : Room k X.A) : OpR X (compareOp .In) (rOwnIn C sp E0 _root_.id) := by
  obtain ⟨fd, F, b⟩ := c.ex
  exact op_own_in F hr c.me.at_ c.me.fn b pass0
theorem Met.op_notin (c : Met X.prog X.w X.K X.mg X.base C "__contains__" k f ps sp) (hr : Room k X.A) : OpR X (compareOp .NotIn) (rOwnIn C sp E0 Bool.not) := by
  obtain ⟨fd, F, b⟩ := c.ex
  exact op_own_notin F hr c.me.at_ c.me.fn b pass0
theorem Met.c_len (c : Met X.prog X.w X.K X.mg X.base C "__len__" k f ps sp) (hr : Room (k + 1) X.A) : CallR X (.builtin "len") (rOwnLen C sp E0) := by
  obtain ⟨fd, F, b⟩ := c.ex
  exact call_own_len F hr c.me.at_ c.me.fn b pass0
theorem Met.op_add (c : Met X.prog X.w X.K X.mg X.base C "__add__" k f ps sp) (hr : Room k X.A) (hc : PySem.W.selfFirst X.K C = true) : OpR X (binaryOp .Add) (rOwnAdd C sp E0) := by
  obtain ⟨fd, F, b⟩ := c.ex
  exact op_own_add F hr hc c.me.at_ c.me.fn b pass0
theorem Met.op_eq (c : Met X.prog X.w X.K X.mg X.base C "__eq__" k f ps sp) (hr : Room k X.A) : OpR X (compareOp .Eq) (rOwnEq C sp E0 _root_.id) := by
  obtain ⟨fd, F, b⟩ := c.ex
  exact op_own_eq F hr c.me.at_ c.me.fn b pass0
theorem Met.op_ne (c : Met X.prog X.w X.K X.mg X.base C "__eq__" k f ps sp) (hr : Room (k + 1) X.A) (hm : PySem.W.mroIn X.K C (.type "object") = some true) (hne : PySem.W.findIn X.K (.ref C) "__ne__" = some (some (.builtin "object.__ne__"))) : OpR X (compareOp .NotEq) (rOwnEq C sp E0 Bool.not) := by
  obtain ⟨fd, F, b⟩ := c.ex
  exact op_own_ne F hr hm hne c.me.at_ c.me.fn b pass0
theorem Met.p_ix {a b : Expr} {ta tb : TE} {pos : Pos} (c : Met X.prog X.w X.K X.mg X.base C "__getitem__" k f ps sp) (hr : Room (k + 1) X.A) (ha : PE X a ta) (hb' : PE X b tb) (hsl : ∀ o i, subscripted b true o i = runValue (.builtin "lifetime.subscript" ⟨[o, i], []⟩) := by exact fun _ _ => rfl) :
    PE X (.Subscript a b pos) (tOp (rOwnIx C sp E0) ta tb) := by
  obtain ⟨fd, F, bb⟩ := c.ex
  exact pe_own_ix F hr c.me.at_ c.fk c.me.fn bb pass0 ha hb' hsl
end
theorem Met.p_m0 {X : Cx} {C : Addr} {k : Nat} {f : Addr} {ps : List Str} {sp : Sp} {m : Str} {o : Expr} {ta : TE} {apos pos : Pos} {pl : Sem Bool} (c : Met X.prog X.w X.K X.mg X.base C m k f ps sp) (cl : Cls X.K C) (hr : Room k X.A) (he : PE X o ta)
    (ht : eval (.Call (.Attribute o m apos) [] [] pos) X.env = (do
      let ov ← eval o X.env
      standAt apos.atName
      let (f, first) ← holding [ov] (getMethod ov m pl)
      callWith pos f first (backTo pos (starEach [] X.env)) (backToKw pos (keywordEach [] X.env))) := by rfl) :
    PE X (.Call (.Attribute o m apos) [] [] pos) (tMeth C m sp [] E0 ta tNil) := by
  obtain ⟨fd, F, b⟩ := c.ex
  exact pe_meth0 he cl c.me F hr b .nil pass0 ht
/-! ### a class of the text -/
structure CF (K : PySem.W.Frag) (C : Addr) : Prop where
  cl : Cls K C
  cls : PySem.W.isClsIn K C = true
  ty : PySem.W.typeIn K (.ref C) = some (.type "type")
  oc : PySem.W.findIn K (.ref C) "__class__" = some (some (.builtin "object.__class__"))
  og : PySem.W.specialIn K (.builtin "object.__class__") "__get__" = some (some (.builtin "getset_descriptor.__get__"))
  ot : PySem.W.takesIn K (.builtin "object.__class__") = some true
  om : PySem.W.mroIn K C (.type "object") = some true
  sf : PySem.W.selfFirst K C = true
  ne : PySem.W.findIn K (.ref C) "__ne__" = some (some (.builtin "object.__ne__"))
theorem CF.kitT {K : PySem.W.Frag} {C : Addr} (M : CF K C) {H : Hp} {v : V} {n : String} (h : Kd H v n) : PySem.W.kitOne K (.type n) (.ref C) = some false := by
  have e1 : ((PySem.W.clsIn K C).isSome && PySem.W.typeIn K (.ref C) == some (.type "type")) = true := by
    have h2 : (PySem.W.clsIn K C).isSome = true := M.cls
    rw [h2, M.ty] <;> rfl
  have e2 : PySem.W.subIn K (.type n) (.ref C) = some false := by
    cases h with
    | non => exact sub_ty (l := ["NoneType", "object"]) (by decide +kernel)
    | bl _ => exact sub_ty (l := ["bool", "int", "object"]) (by decide +kernel)
    | int _ => exact sub_ty (l := ["int", "object"]) (by decide +kernel)
    | str _ => exact sub_ty (l := ["str", "object"]) (by decide +kernel)
    | lst _ => exact sub_ty (l := ["list", "object"]) (by decide +kernel)
    | tup _ => exact sub_ty (l := ["tuple", "object"]) (by decide +kernel)
    | dK _ => exact sub_ty (l := ["dict", "object"]) (by decide +kernel)
  show (if (Value.type n == Value.ref C) = true then some true else PySem.W.kitCls K (.type n) (.ref C)) = some false
  rw [if_neg (by intro z; cases z)]
  show (if ((PySem.W.clsIn K C).isSome && PySem.W.typeIn K (.ref C) == some (.type "type")) = true then PySem.W.subIn K (.type n) (.ref C) else none) = some false
  rw [if_pos e1, e2]
theorem CF.tyR {K : PySem.W.Frag} {C : Addr} (M : CF K C) {H : Hp} {p dx : Addr} {fs : List (Str × V)} (h : H p = some (.ins C dx fs)) : TyX K H (.ref p) (.ref C) := .base (.ins h M.cl M.oc M.og M.ot M.om)
theorem vals_rev {vs : List V} {us : List Value} (r : Vals vs us) : Vals vs.reverse us.reverse := by
  induction r with
  | nil => exact .nil
  | cons h t ih =>
    rw [List.reverse_cons, List.reverse_cons]
    exact ih.append (.cons h .nil)
/-- f(c = .., b = .., a = ..) of a def f(a, b, c) -/
theorem pe_kr {X : Cx} {k : Nat} {f : Addr} {sp : Sp} {x : Str} {ps : List Str} {st : Stmt} {kws : List Keyword} {tk : TA} {p pos : Pos} (D : Dfn X.K X.mg x st f ps) (h : ∀ fd, Fun X.K x x st f fd → FnOk X.prog X.w X.K X.mg X.base CX0 k f fd ps sp)
    (hbind : ∀ (kV doc pm : Value) (an : Option Addr) (cdv ct : Value) (us : List Value), us.length = ps.reverse.length → bindArgs (PySem.W.fnOf x x (defArgs st) (defBody st) (defScope st) .none kV doc pm an cdv ct) ⟨[], ps.reverse.zip us⟩ = pure (ps.zip us.reverse))
    (hr : Room k X.A) (hg : Gl X x) (hkw : PK X kws tk) (hall : (backToKw pos (keywordEach kws X.env)).all (·.1.isSome) = true := by rfl) (hks : (backToKw pos (keywordEach kws X.env)).filterMap (·.1) = ps.reverse := by rfl) (hdb : (x == ("__debug__" : Str)) = false := by decide)
    (hpl : ((backTo pos (starEach [] X.env)).any (·.1) || (backToKw pos (keywordEach kws X.env)).any (·.1.isNone)) = false := by rfl) :
    PE X (.Call (.Name x p) [] kws pos) (tCallN 0 ps.reverse.length sp (fun us ws => us ++ ws.reverse) E0 tNil tk) := by
  obtain ⟨fd, F, _⟩ := D.ex
  have hb : KBn X.K fd ps 0 ps.reverse (fun us ws => us ++ ws.reverse) (fun us ws => us ++ ws.reverse) := by
    refine ⟨fun s us ws hX h1 h2 => ?_, fun r1 r2 => r1.append (vals_rev r2)⟩
    obtain ⟨oc, od, kV, doc, pm, an, cdv, ct, osl, rfl, lk, hcd⟩ := F.ex
    match us, h1 with
    | [], _ => exact .of_eq (hbind kV doc pm an cdv ct ws h2)
  exact pe_callN0 (h fd F) hr hg D.g F.kp hb pass0 hkw hall hks hdb hpl
/-- where the defs and classes of the text stand -/
structure LA where
  f_is_integer : Addr
  f_is_at_least : Addr
  f_is_within : Addr
  f_is_breaker : Addr
  f_passes : Addr
  f_state_behind : Addr
  f_check_times : Addr
  f_log_of : Addr
  f_is_entry : Addr
  f_check_log : Addr
  f_passes_ahead : Addr
  f_gaps_of : Addr
  f_narrowed : Addr
  f_explanations : Addr
  f_first_conflict : Addr
  f_forecast : Addr
  f__law_mixed : Addr
  f__law_well : Addr
  f__law_draw : Addr
  f__law_one : Addr
  f__law_place : Addr
  f__law_far_times : Addr
  f__law_bounds_right : Addr
  f__law_right : Addr
/-- what the text says of them -/
structure LX (K : PySem.W.Frag) (mg : Str → Option Value) (L : LA) : Prop where
  b_bool : mg "bool" = none
  b_dict : mg "dict" = none
  b_enumerate : mg "enumerate" = none
  b_int : mg "int" = none
  b_isinstance : mg "isinstance" = none
  b_len : mg "len" = none
  b_list : mg "list" = none
  b_max : mg "max" = none
  b_min : mg "min" = none
  b_range : mg "range" = none
  b_sorted : mg "sorted" = none
  b_tuple : mg "tuple" = none
  n_MOST_COUNT : ∃ t, mg "MOST_COUNT" = some (.int 1000000000000 t)
  n_MOST_TIME : ∃ t, mg "MOST_TIME" = some (.int 1000000000000000000000000000000 t)
  n_MOST_ENTRIES : ∃ t, mg "MOST_ENTRIES" = some (.int 1000 t)
  d_is_integer : Dfn K mg "is_integer" st_is_integer L.f_is_integer ["value"]
  d_is_at_least : Dfn K mg "is_at_least" st_is_at_least L.f_is_at_least ["value", "least"]
  d_is_within : Dfn K mg "is_within" st_is_within L.f_is_within ["value", "least", "most"]
  d_is_breaker : Dfn K mg "is_breaker" st_is_breaker L.f_is_breaker ["value"]
  d_passes : Dfn K mg "passes" st_passes L.f_passes ["breaker", "state", "time"]
  d_state_behind : Dfn K mg "state_behind" st_state_behind L.f_state_behind ["breaker", "state", "time", "succeeded"]
  d_check_times : Dfn K mg "check_times" st_check_times L.f_check_times ["times"]
  d_log_of : Dfn K mg "log_of" st_log_of L.f_log_of ["breaker", "times"]
  d_is_entry : Dfn K mg "is_entry" st_is_entry L.f_is_entry ["value"]
  d_check_log : Dfn K mg "check_log" st_check_log L.f_check_log ["log"]
  d_passes_ahead : Dfn K mg "passes_ahead" st_passes_ahead L.f_passes_ahead ["log"]
  d_gaps_of : Dfn K mg "gaps_of" st_gaps_of L.f_gaps_of ["log"]
  d_narrowed : Dfn K mg "narrowed" st_narrowed L.f_narrowed ["bounds", "gap", "passed"]
  d_explanations : Dfn K mg "explanations" st_explanations L.f_explanations ["log"]
  d_first_conflict : Dfn K mg "first_conflict" st_first_conflict L.f_first_conflict ["log"]
  d_forecast : Dfn K mg "forecast" st_forecast L.f_forecast ["log", "time"]
  d__law_mixed : Dfn K mg "_law_mixed" st__law_mixed L.f__law_mixed ["_law_cell", "_law_k"]
  d__law_well : Dfn K mg "_law_well" st__law_well L.f__law_well ["_law_cell"]
  d__law_draw : Dfn K mg "_law_draw" st__law_draw L.f__law_draw ["_law_well_here", "_law_many"]
  d__law_one : Dfn K mg "_law_one" st__law_one L.f__law_one ["_law_well_here", "_law_some"]
  d__law_place : Dfn K mg "_law_place" st__law_place L.f__law_place ["_law_well_here", "_law_many"]
  d__law_far_times : Dfn K mg "_law_far_times" st__law_far_times L.f__law_far_times ["_law_well_here", "_law_most"]
  d__law_bounds_right : Dfn K mg "_law_bounds_right" st__law_bounds_right L.f__law_bounds_right ["_law_log", "_law_times", "_law_failures", "_law_low", "_law_high"]
  d__law_right : Dfn K mg "_law_right" st__law_right L.f__law_right ["_law_well_here"]

/-- a comprehension over zip of two lists -/
theorem lc_zip {K : PySem.W.Frag} {a b : Addr} {xs ys : List V} {g : TG} {tt : TT} {te : TE} {vs : List Nat} {σ : L2.St} {H1 : Hp} {D : Addr} {Qd : Hp → Prop} (hlen : ys.length ≤ xs.length) (Pv : Nat → Hp → Prop) (h0 : Pv 0 (upd H1 D (.lst []))) (hl : ∀ i H, Pv i H → SqL K H a xs ∧ SqL K H b ys)
    (hs : ∀ (i : Nat) (x y : V) (T : Addr) (H : Hp), xs[i]? = some x → ys[i]? = some y → Pv i H → H T = none → g (.ref T) (wipe σ vs) (upd H T (.tup [x, y])) fun σ2 H2 => wipe σ2 vs = wipe σ vs ∧ tt σ2 H2 fun b H3 =>
      if b = true then te σ2 H3 fun y H4 => ∃ acc, H4 D = some (.lst acc) ∧ acc.length < sizeLine ∧ Pv (i + 1) (upd H4 D (.lst (acc ++ [y]))) else Pv (i + 1) H3) (hd : ∀ H, Pv ys.length H → Qd H) :
    ∃ W : Nat → Nat → Hp → Prop, (∃ m, W 0 m (upd H1 D (.lst []))) ∧ ∀ i m H, W i m H → ((Itz K a b).stop i H ∧ Qd H) ∨ ((Itz K a b).go i H ∧ ∃ Nx : Hp → Prop, (∀ H', Nx H' → ∃ m', m' < m ∧ W (i + 1) m' H') ∧ ∀ x H', (Itz K a b).yld i H x H' → g x (wipe σ vs) H' fun σ2 H2 => wipe σ2 vs = wipe σ vs ∧ tt σ2 H2 fun b H3 =>
        if b = true then te σ2 H3 fun y H4 => ∃ acc, H4 D = some (.lst acc) ∧ acc.length < sizeLine ∧ Nx (upd H4 D (.lst (acc ++ [y]))) else Nx H3) := by
  refine ⟨fun i m H => m = ys.length - i ∧ i ≤ ys.length ∧ Pv i H, ⟨ys.length, by omega, Nat.zero_le _, h0⟩, ?_⟩
  rintro i m H ⟨rfl, hi, p⟩
  obtain ⟨qx, qy⟩ := hl i H p
  by_cases hlt : i < ys.length
  · have hx : xs[i]? = some xs[i] := List.getElem?_eq_getElem (by omega)
    have hy : ys[i]? = some ys[i] := List.getElem?_eq_getElem hlt
    refine .inr ⟨⟨xs, ys, _, _, qx, qy, hx, hy⟩, Pv (i + 1), fun H' p' => ⟨ys.length - (i + 1), by omega, rfl, hlt, p'⟩, fun v H' y => ?_⟩
    obtain ⟨T, x', y', rfl, hT, rfl, f1, f2⟩ := y
    exact hs i x' y' T H (f1 xs qx) (f2 ys qy) p hT
  · have e : i = ys.length := by omega
    subst e
    exact .inl ⟨⟨xs, ys, qx, qy, .inr (Nat.le_refl _)⟩, hd H p⟩
/-- an attribute inside a comprehension -/
theorem pe_fldK {X : Cx} {K : PySem.W.Frag} {e : Expr} {f : Str} {pos : Pos} {ta : TE} (hK : X.K = K) (he : PE X e ta) (hb : attributeBase e f X.env (eval e X.env) = eval e X.env) : PE X (.Attribute e f pos) (tFld K ta f) := by
  subst hK
  exact pe_fld he hb
theorem putF_len (f : Str) (v : V) (fs : List (Str × V)) {n : Nat} (h : fs.length ≤ n) : (putF f v fs).length ≤ n + 1 := Nat.le_trans (length_putF f v fs) (Nat.succ_le_succ h)
def spRup : Sp := fun vs H Q _ => ∃ v u : Int, vs = [.int v, .int u] ∧ 0 < u ∧ u.natAbs.log2 < 9000 ∧ CMulW (stepsUp v u) u ∧ Q (.int (stepsUp v u * u)) H
/-! ### the small defs -/
section
variable {P : Program} {w : World} {K : PySem.W.Frag} {mg : Str → Option Value} {base : Heap} {L : LA}
abbrev N_isinteger : List Str := ["value"]
theorem sc_isinteger : FnScope N_isinteger ["value"] (defScope st_is_integer) := ⟨rfl, rfl, rfl, by decide +kernel, rfl, by decide +kernel, by decide +kernel⟩
theorem fn_isinteger (T : LX K mg L) {fd : FuncData} (F : Fun K "is_integer" "is_integer" st_is_integer L.f_is_integer fd) : FnOk P w K mg base CX0 1 L.f_is_integer fd ["value"] (spIsInt) := by
  have nd := sc_isinteger.nd
  refine F.ok sc_isinteger (fun vs H Q E h => ?_) (fun cdv A outer S H vs Q E hr h => ?_)
  · obtain ⟨v, n, rfl, _⟩ := h
    rfl
  · obtain ⟨v, n, rfl, hv, k⟩ := h
    refine ⟨_, (pss_one (ps_ret (pe_and (pe_callB call_isi (by rfl) T.b_isinstance (by decide +kernel) (pa_cons (pv 0) (pa_cons (pe_bltn (by rfl) T.b_int (by decide +kernel : bootBuiltins "int" = some (.type "int")) (v := .ty "int") rfl) pa_nil))) (pe_one (pe_not (pe_callB call_isi (by rfl) T.b_isinstance (by decide +kernel) (pa_cons (pv 0) (pa_cons (pe_bltn (by rfl) T.b_bool (by decide +kernel : bootBuiltins "bool" = some (.type "bool")) (v := .ty "bool") rfl) pa_nil)))))))), ?_⟩
    refine ⟨_, rfl, v, .ty "int", _, _, _, rfl, .ty "int", hv.ty, hv.kit "int" _ (.inl ⟨rfl, rfl⟩), _, rfl, ?_⟩
    refine ite2 (fun c => ?_) (fun c => ?_)
    · refine ⟨_, rfl, v, .ty "bool", _, _, _, rfl, .ty "bool", hv.ty, hv.kit "bool" _ (.inr ⟨by decide, by decide, rfl⟩), _, rfl, ?_⟩
      cases hv <;> first | exact k | (exact absurd c (by decide))
    · cases hv <;> first | exact k | (exact absurd (by decide) c)
theorem ok_isinteger (T : LX K mg L) : Cal P w K mg base "is_integer" 1 L.f_is_integer ["value"] (spIsInt) := T.d_is_integer.cal fun fd F => fn_isinteger T F
abbrev N_isatleast : List Str := ["value", "least"]
theorem sc_isatleast : FnScope N_isatleast ["value", "least"] (defScope st_is_at_least) := ⟨rfl, rfl, rfl, by decide +kernel, rfl, by decide +kernel, by decide +kernel⟩
theorem fn_isatleast (T : LX K mg L) {fd : FuncData} (F : Fun K "is_at_least" "is_at_least" st_is_at_least L.f_is_at_least fd) : FnOk P w K mg base CX0 2 L.f_is_at_least fd ["value", "least"] (spAtL) := by
  have G_isinteger := ok_isinteger (P := P) (w := w) (base := base) T
  have nd := sc_isatleast.nd
  refine F.ok sc_isatleast (fun vs H Q E h => ?_) (fun cdv A outer S H vs Q E hr h => ?_)
  · obtain ⟨v, n, l, rfl, _⟩ := h
    rfl
  · obtain ⟨v, n, l, rfl, hv, k⟩ := h
    refine ⟨_, (pss_one (ps_ret (pe_and (pe_c G_isinteger (hr.mono (by decide)) rfl (pa_cons (pv 0) pa_nil)) (pe_one (pe_cmpR op_ge (pv 0) (pv 1) (nomark _)))))), ?_⟩
    refine ⟨_, rfl, v, n, rfl, hv, _, rfl, ?_⟩
    cases v with
    | int i => exact iteT ⟨_, rfl, _, rfl, _, _, rfl, rfl, k⟩
    | _ => exact iteF k
theorem ok_isatleast (T : LX K mg L) : Cal P w K mg base "is_at_least" 2 L.f_is_at_least ["value", "least"] (spAtL) := T.d_is_at_least.cal fun fd F => fn_isatleast T F
abbrev N_iswithin : List Str := ["value", "least", "most"]
theorem sc_iswithin : FnScope N_iswithin ["value", "least", "most"] (defScope st_is_within) := ⟨rfl, rfl, rfl, by decide +kernel, rfl, by decide +kernel, by decide +kernel⟩
theorem fn_iswithin (T : LX K mg L) {fd : FuncData} (F : Fun K "is_within" "is_within" st_is_within L.f_is_within fd) : FnOk P w K mg base CX0 2 L.f_is_within fd ["value", "least", "most"] (spWithin) := by
  have G_isinteger := ok_isinteger (P := P) (w := w) (base := base) T
  have nd := sc_iswithin.nd
  refine F.ok sc_iswithin (fun vs H Q E h => ?_) (fun cdv A outer S H vs Q E hr h => ?_)
  · obtain ⟨v, n, l, m, rfl, _⟩ := h
    rfl
  · obtain ⟨v, n, l, m, rfl, hv, k⟩ := h
    refine ⟨_, (pss_one (ps_ret (pe_and (pe_c G_isinteger (hr.mono (by decide)) rfl (pa_cons (pv 0) pa_nil)) (pe_one (pe_chain op_le op_le (pv 1) (pv 0) (pv 2)))))), ?_⟩
    refine ⟨_, rfl, v, n, rfl, hv, _, rfl, ?_⟩
    cases v with
    | int i =>
      refine iteT ⟨_, rfl, _, rfl, _, _, rfl, rfl, _, rfl, ?_⟩
      refine ite2 (fun c => ?_) (fun c => ?_)
      · refine ⟨_, rfl, _, _, rfl, rfl, ?_⟩
        have c' : decide (l ≤ i) = true := c
        have k' : Q (.bl (decide (l ≤ i) && decide (i ≤ m))) H := k
        rw [c', Bool.true_and] at k'
        exact k'
      · have c' : decide (l ≤ i) = false := by simpa using c
        have k' : Q (.bl (decide (l ≤ i) && decide (i ≤ m))) H := k
        rw [c', Bool.false_and] at k'
        exact k'
    | _ => exact iteF k
theorem ok_iswithin (T : LX K mg L) : Cal P w K mg base "is_within" 2 L.f_is_within ["value", "least", "most"] (spWithin) := T.d_is_within.cal fun fd F => fn_iswithin T F
end
/-! ### trains as data -/
abbrev Trn := Int × Int × Option Int
def OkTr (t : Trn) : Prop := 0 ≤ t.1 ∧ 1 ≤ t.2.1 ∧ ∀ c, t.2.2 = some c → 1 ≤ c
/-- all times of the first are before the second -/
def Lt (t u : Trn) : Prop := ∃ c, t.2.2 = some c ∧ t.1 + (c - 1) * t.2.1 < u.1
def Srt (ts : List Trn) : Prop := (∀ t ∈ ts, OkTr t) ∧ ts.Pairwise Lt
def minO (n : Int) : Option Int → Int
  | none => n
  | some c => if c < n then c else n
/-- how many times of a train are before x -/
def nbT (t : Trn) (x : Int) : Int := minO (stepsUp (x - t.1) t.2.1) t.2.2
def NB : List Trn → Int → Int
  | [], _ => 0
  | t :: ts, x => nbT t x + NB ts x
def At : List Trn → Int → Option Int
  | [], _ => none
  | t :: ts, i => match t.2.2 with
    | none => some (t.1 + i * t.2.1)
    | some c => if i < c then some (t.1 + i * t.2.1) else At ts (i - c)
def addO (c : Int) : Option Int → Option Int
  | none => none
  | some n => some (c + n)
def Tot : List Trn → Option Int
  | [] => some 0
  | t :: ts => match t.2.2 with
    | none => none
    | some c => addO c (Tot ts)
/-- d / s, rounded up -/
def cl (d s : Int) : Int := -(-d / s)
theorem stepsUp_cl (d s : Int) : stepsUp d s = if cl d s > 0 then cl d s else 0 := rfl
theorem cl_sub (d s c : Int) (hs : 0 < s) : cl (d - c * s) s = cl d s - c := by
  unfold cl
  have e : -(d - c * s) = -d + c * s := by omega
  rw [e, Int.add_mul_ediv_right _ _ (show s ≠ 0 by omega)]
  omega
theorem cl_le {d s n : Int} (hs : 0 < s) : cl d s ≤ n ↔ d ≤ n * s := by
  unfold cl
  have h : -n ≤ -d / s ↔ -n * s ≤ -d := Int.le_ediv_iff_mul_le hs
  rw [Int.neg_mul] at h
  omega
theorem cl_gt {d s n : Int} (hs : 0 < s) : n < cl d s ↔ n * s < d := by
  have h := cl_le (d := d) (s := s) (n := n) hs
  omega
def subO (k : Option Int) (c : Int) : Option Int := match k with
  | none => none
  | some n => some (n - c)
/-- a train is its first c times, and the others -/
theorem nbT_split {s p c : Int} {k : Option Int} (hp : 0 < p) (hc : 0 ≤ c) (hk : ∀ n, k = some n → c ≤ n) (x : Int) : nbT (s, p, k) x = nbT (s, p, some c) x + nbT (s + c * p, p, subO k c) x := by
  have e : x - (s + c * p) = x - s - c * p := by omega
  show minO (stepsUp (x - s) p) k = minO (stepsUp (x - s) p) (some c) + minO (stepsUp (x - (s + c * p)) p) (subO k c)
  rw [e, stepsUp_cl, stepsUp_cl, cl_sub _ _ _ hp]
  cases k with
  | none =>
    show (if cl (x - s) p > 0 then cl (x - s) p else 0) = (if c < (if cl (x - s) p > 0 then cl (x - s) p else 0) then c else (if cl (x - s) p > 0 then cl (x - s) p else 0)) + (if cl (x - s) p - c > 0 then cl (x - s) p - c else 0)
    split <;> split <;> split <;> omega
  | some n =>
    have := hk n rfl
    show (if n < (if cl (x - s) p > 0 then cl (x - s) p else 0) then n else (if cl (x - s) p > 0 then cl (x - s) p else 0)) = (if c < (if cl (x - s) p > 0 then cl (x - s) p else 0) then c else (if cl (x - s) p > 0 then cl (x - s) p else 0)) + (if n - c < (if cl (x - s) p - c > 0 then cl (x - s) p - c else 0) then n - c else (if cl (x - s) p - c > 0 then cl (x - s) p - c else 0))
    split <;> split <;> split <;> split <;> (try split) <;> omega
/-- the step of a single time is nothing -/
theorem nbT_one {s p q : Int} (hp : 0 < p) (hq : 0 < q) (x : Int) : nbT (s, p, some 1) x = nbT (s, q, some 1) x := by
  have one : ∀ p : Int, 0 < p → nbT (s, p, some 1) x = if s < x then 1 else 0 := fun p hp => by
    show (if (1 : Int) < (if cl (x - s) p > 0 then cl (x - s) p else 0) then (1 : Int) else (if cl (x - s) p > 0 then cl (x - s) p else 0)) = _
    have h0 : 0 < cl (x - s) p ↔ 0 * p < x - s := cl_gt hp
    rw [Int.zero_mul] at h0
    split <;> split <;> split <;> omega
  rw [one p hp, one q hq]
theorem NB_app : ∀ (ts us : List Trn) (x : Int), NB (ts ++ us) x = NB ts x + NB us x
  | [], us, x => by show NB us x = 0 + NB us x; omega
  | t :: ts, us, x => by
    show nbT t x + NB (ts ++ us) x = nbT t x + NB ts x + NB us x
    rw [NB_app ts us x]
    omega
theorem addO_addO (a b : Int) (k : Option Int) : addO a (addO b k) = addO (a + b) k := by
  cases k with
  | none => rfl
  | some n => show some (a + (b + n)) = some (a + b + n); rw [Int.add_assoc]
theorem nbT_nn {t : Trn} (h : OkTr t) (x : Int) : 0 ≤ nbT t x := by
  obtain ⟨s, p, k⟩ := t
  show 0 ≤ minO (stepsUp (x - s) p) k
  rw [stepsUp_cl]
  cases k with
  | none => show 0 ≤ if cl (x - s) p > 0 then cl (x - s) p else 0; split <;> omega
  | some c =>
    have := h.2.2 c rfl
    show 0 ≤ if c < (if cl (x - s) p > 0 then cl (x - s) p else 0) then c else (if cl (x - s) p > 0 then cl (x - s) p else 0)
    split <;> (try split) <;> omega
theorem nbT_zero {t : Trn} (h : OkTr t) {x : Int} (hx : x ≤ t.1) : nbT t x = 0 := by
  obtain ⟨s, p, k⟩ := t
  have hp : 0 < p := by
    have h2 : 1 ≤ p := h.2.1
    omega
  have h1 : cl (x - s) p ≤ 0 := (cl_le hp).mpr (by
    have h2 : x ≤ s := hx
    omega)
  show minO (stepsUp (x - s) p) k = 0
  rw [stepsUp_cl, if_neg (by omega)]
  cases k with
  | none => rfl
  | some c =>
    have := h.2.2 c rfl
    show (if c < 0 then c else 0) = 0
    rw [if_neg (by omega)]
theorem nbT_all {t : Trn} (h : OkTr t) {x c : Int} (hc : t.2.2 = some c) (hx : t.1 + (c - 1) * t.2.1 < x) : nbT t x = c := by
  obtain ⟨s, p, k⟩ := t
  have hp : 0 < p := by
    have h2 : 1 ≤ p := h.2.1
    omega
  have h0 : k = some c := hc
  subst h0
  have h1 : c - 1 < cl (x - s) p := (cl_gt hp).mpr (by
    have h2 : s + (c - 1) * p < x := hx
    omega)
  have := h.2.2 c rfl
  show (if c < stepsUp (x - s) p then c else stepsUp (x - s) p) = c
  rw [stepsUp_cl]
  split <;> (try split at *) <;> omega
theorem NB_nn {ts : List Trn} (h : ∀ t ∈ ts, OkTr t) (x : Int) : 0 ≤ NB ts x := by
  induction ts with
  | nil => exact Int.le_refl _
  | cons t ts ih =>
    have h1 := nbT_nn (h t (List.mem_cons_self ..)) x
    have h2 := ih fun u hu => h u (List.mem_cons_of_mem _ hu)
    show 0 ≤ nbT t x + NB ts x
    omega
theorem NB_zero {ts : List Trn} (h : ∀ t ∈ ts, OkTr t) {x : Int} (hx : ∀ t ∈ ts, x ≤ t.1) : NB ts x = 0 := by
  induction ts with
  | nil => rfl
  | cons t ts ih =>
    show nbT t x + NB ts x = 0
    rw [nbT_zero (h t (List.mem_cons_self ..)) (hx t (List.mem_cons_self ..)), ih (fun u hu => h u (List.mem_cons_of_mem _ hu)) fun u hu => hx u (List.mem_cons_of_mem _ hu)]
    rfl
theorem Srt.tail {t : Trn} {ts : List Trn} (h : Srt (t :: ts)) : Srt ts := ⟨fun u hu => h.1 u (List.mem_cons_of_mem _ hu), (List.pairwise_cons.mp h.2).2⟩
theorem Srt.head {t : Trn} {ts : List Trn} (h : Srt (t :: ts)) : OkTr t := h.1 t (List.mem_cons_self ..)
theorem Srt.lt {t : Trn} {ts : List Trn} (h : Srt (t :: ts)) : ∀ u ∈ ts, Lt t u := (List.pairwise_cons.mp h.2).1
theorem lt_start {t u : Trn} (h : OkTr t) (l : Lt t u) : t.1 < u.1 := by
  obtain ⟨c, e, q⟩ := l
  have hc := h.2.2 c e
  have : 0 ≤ (c - 1) * t.2.1 := Int.mul_nonneg (by omega) (by have := h.2.1; omega)
  omega
/-! what is before x, and which time is the i-th -/
theorem nbT_le {t : Trn} {x c : Int} (e : t.2.2 = some c) : nbT t x ≤ c := by
  unfold nbT
  rw [e]
  show (if c < stepsUp (x - t.1) t.2.1 then c else stepsUp (x - t.1) t.2.1) ≤ c
  split <;> omega
/-- the times before x are those with an index below nbT -/
theorem nbT_lt {t : Trn} (h : OkTr t) {x i : Int} (i0 : 0 ≤ i) (hi : ∀ c, t.2.2 = some c → i < c) : i < nbT t x ↔ t.1 + i * t.2.1 < x := by
  obtain ⟨s, p, k⟩ := t
  have hp : 0 < p := by
    have h2 : 1 ≤ p := h.2.1
    omega
  have h1 : i < cl (x - s) p ↔ i * p < x - s := cl_gt hp
  have e : (s + i * p < x) ↔ i * p < x - s := by omega
  show i < minO (stepsUp (x - s) p) k ↔ s + i * p < x
  rw [stepsUp_cl, e, ← h1]
  cases k with
  | none =>
    show i < (if cl (x - s) p > 0 then cl (x - s) p else 0) ↔ _
    split <;> omega
  | some c =>
    have := hi c rfl
    show i < (if c < (if cl (x - s) p > 0 then cl (x - s) p else 0) then c else (if cl (x - s) p > 0 then cl (x - s) p else 0)) ↔ _
    split <;> (try split) <;> (try split at *) <;> omega
theorem At_lt : ∀ {ts : List Trn}, Srt ts → ∀ {i y : Int}, 0 ≤ i → At ts i = some y → ∀ x, i < NB ts x ↔ y < x
  | [], _, i, y, _, e, _ => by cases e
  | t :: ts, h, i, y, i0, e, x => by
    have ht := h.head
    have hs := h.tail
    have nn := NB_nn hs.1 x
    cases hk : t.2.2 with
    | none =>
      have e' : At (t :: ts) i = some (t.1 + i * t.2.1) := by
        show (match t.2.2 with | none => some (t.1 + i * t.2.1) | some c => if i < c then some (t.1 + i * t.2.1) else At ts (i - c)) = _
        rw [hk]
      rw [e'] at e
      have ey := Option.some.inj e
      subst ey
      have nt : ts = [] := by
        cases ts with
        | nil => rfl
        | cons u us =>
          obtain ⟨c, hc, _⟩ := h.lt u (List.mem_cons_self ..)
          rw [hk] at hc
          cases hc
      subst nt
      have := nbT_lt ht (x := x) i0 (fun c hc => by rw [hk] at hc; cases hc)
      show i < nbT t x + 0 ↔ _
      rw [Int.add_zero]
      exact this
    | some c =>
      have e' : At (t :: ts) i = if i < c then some (t.1 + i * t.2.1) else At ts (i - c) := by
        show (match t.2.2 with | none => some (t.1 + i * t.2.1) | some c => if i < c then some (t.1 + i * t.2.1) else At ts (i - c)) = _
        rw [hk]
      rw [e'] at e
      show i < nbT t x + NB ts x ↔ y < x
      by_cases hi : i < c
      · rw [if_pos hi] at e
        have ey := Option.some.inj e
        have h1 := nbT_lt ht (x := x) i0 (fun c' hc => by rw [hk] at hc; cases hc; exact hi)
        by_cases hl : t.1 + (c - 1) * t.2.1 < x
        · have h2 := nbT_all ht hk hl
          omega
        · have h3 : NB ts x = 0 := NB_zero hs.1 fun u hu => by
            obtain ⟨c', hc, q⟩ := h.lt u hu
            rw [hk] at hc
            cases hc
            omega
          omega
      · rw [if_neg hi] at e
        have ih := At_lt hs (i := i - c) (by omega) e x
        have h2 := nbT_le (x := x) hk
        by_cases hl : t.1 + (c - 1) * t.2.1 < x
        · have h3 := nbT_all ht hk hl
          omega
        · have h3 : NB ts x = 0 := NB_zero hs.1 fun u hu => by
            obtain ⟨c', hc, q⟩ := h.lt u hu
            rw [hk] at hc
            cases hc
            omega
          omega
theorem tot_nn : ∀ {ts : List Trn}, (∀ t ∈ ts, OkTr t) → ∀ n, Tot ts = some n → 0 ≤ n
  | [], _, n, e => by cases e; exact Int.le_refl _
  | t :: ts, h, n, e => by
    cases hk : t.2.2 with
    | none =>
      have e2 : Tot (t :: ts) = none := by
        show (match t.2.2 with | none => none | some c => addO c (Tot ts)) = _
        rw [hk]
      rw [e2] at e
      cases e
    | some c =>
      have e2 : Tot (t :: ts) = addO c (Tot ts) := by
        show (match t.2.2 with | none => none | some c => addO c (Tot ts)) = _
        rw [hk]
      rw [e2] at e
      cases ht : Tot ts with
      | none => rw [ht] at e; cases e
      | some m =>
        rw [ht] at e
        have z' : c + m = n := Option.some.inj e
        have := tot_nn (fun u hu => h u (List.mem_cons_of_mem _ hu)) m ht
        have := (h t (List.mem_cons_self ..)).2.2 c hk
        omega
theorem At_none : ∀ {ts : List Trn}, (∀ t ∈ ts, OkTr t) → ∀ {i : Int}, 0 ≤ i → (At ts i = none ↔ ∃ n, Tot ts = some n ∧ n ≤ i)
  | [], _, i, i0 => ⟨fun _ => ⟨0, rfl, i0⟩, fun _ => rfl⟩
  | t :: ts, h, i, i0 => by
    cases hk : t.2.2 with
    | none =>
      have e' : At (t :: ts) i = some (t.1 + i * t.2.1) := by
        show (match t.2.2 with | none => some (t.1 + i * t.2.1) | some c => if i < c then some (t.1 + i * t.2.1) else At ts (i - c)) = _
        rw [hk]
      have e2 : Tot (t :: ts) = none := by
        show (match t.2.2 with | none => none | some c => addO c (Tot ts)) = _
        rw [hk]
      rw [e', e2]
      exact ⟨fun z => (by cases z), fun ⟨n, z, _⟩ => (by cases z)⟩
    | some c =>
      have e' : At (t :: ts) i = if i < c then some (t.1 + i * t.2.1) else At ts (i - c) := by
        show (match t.2.2 with | none => some (t.1 + i * t.2.1) | some c => if i < c then some (t.1 + i * t.2.1) else At ts (i - c)) = _
        rw [hk]
      have e2 : Tot (t :: ts) = addO c (Tot ts) := by
        show (match t.2.2 with | none => none | some c => addO c (Tot ts)) = _
        rw [hk]
      have tn : ∀ n, Tot ts = some n → 0 ≤ n := tot_nn fun u hu => h u (List.mem_cons_of_mem _ hu)
      rw [e', e2]
      by_cases hi : i < c
      · rw [if_pos hi]
        refine ⟨fun z => (by cases z), fun ⟨n, z, hn⟩ => ?_⟩
        cases ht : Tot ts with
        | none => rw [ht] at z; cases z
        | some m =>
          rw [ht] at z
          have := tn m ht
          have z' : c + m = n := Option.some.inj z
          omega
      · rw [if_neg hi]
        have ih := At_none (ts := ts) (fun u hu => h u (List.mem_cons_of_mem _ hu)) (i := i - c) (by omega)
        rw [ih]
        constructor
        · rintro ⟨n, e, hn⟩
          exact ⟨c + n, by rw [e]; rfl, by omega⟩
        · rintro ⟨n, e, hn⟩
          cases ht : Tot ts with
          | none => rw [ht] at e; cases e
          | some m =>
            rw [ht] at e
            have z' : c + m = n := Option.some.inj e
            exact ⟨m, rfl, by omega⟩
theorem NB_tot : ∀ {ts : List Trn}, (∀ t ∈ ts, OkTr t) → ∀ {n : Int}, Tot ts = some n → ∀ x, NB ts x ≤ n
  | [], _, n, e, x => by cases e; exact Int.le_refl _
  | t :: ts, h, n, e, x => by
    cases hk : t.2.2 with
    | none =>
      have e2 : Tot (t :: ts) = none := by
        show (match t.2.2 with | none => none | some c => addO c (Tot ts)) = _
        rw [hk]
      rw [e2] at e
      cases e
    | some c =>
      have e2 : Tot (t :: ts) = addO c (Tot ts) := by
        show (match t.2.2 with | none => none | some c => addO c (Tot ts)) = _
        rw [hk]
      rw [e2] at e
      cases ht : Tot ts with
      | none => rw [ht] at e; cases e
      | some m =>
        rw [ht] at e
        have z' : c + m = n := Option.some.inj e
        have h1 := nbT_le (x := x) hk
        have h2 := NB_tot (fun u hu => h u (List.mem_cons_of_mem _ hu)) ht x
        show nbT t x + NB ts x ≤ n
        omega
theorem nbT_step {t : Trn} (h : OkTr t) (x : Int) : nbT t (x + 1) ≤ nbT t x + 1 := by
  obtain ⟨s, p, k⟩ := t
  have hp : 1 ≤ p := h.2.1
  have h1 : cl (x + 1 - s) p ≤ cl (x - s) p + 1 := by
    refine (cl_le (by omega)).mpr ?_
    have h2 : x - s ≤ cl (x - s) p * p := (cl_le (by omega)).mp (Int.le_refl _)
    rw [Int.add_mul, Int.one_mul]
    omega
  show minO (stepsUp (x + 1 - s) p) k ≤ minO (stepsUp (x - s) p) k + 1
  rw [stepsUp_cl, stepsUp_cl]
  cases k with
  | none =>
    show (if cl (x + 1 - s) p > 0 then cl (x + 1 - s) p else 0) ≤ (if cl (x - s) p > 0 then cl (x - s) p else 0) + 1
    split <;> split <;> omega
  | some c =>
    show (if c < (if cl (x + 1 - s) p > 0 then cl (x + 1 - s) p else 0) then c else (if cl (x + 1 - s) p > 0 then cl (x + 1 - s) p else 0)) ≤ (if c < (if cl (x - s) p > 0 then cl (x - s) p else 0) then c else (if cl (x - s) p > 0 then cl (x - s) p else 0)) + 1
    repeat' split
    all_goals omega
theorem NB_step : ∀ {ts : List Trn}, Srt ts → ∀ x, NB ts (x + 1) ≤ NB ts x + 1
  | [], _, x => by show (0 : Int) ≤ 0 + 1; omega
  | t :: ts, h, x => by
    have ht := h.head
    have hs := h.tail
    have st := nbT_step ht x
    show nbT t (x + 1) + NB ts (x + 1) ≤ nbT t x + NB ts x + 1
    cases hk : t.2.2 with
    | none =>
      have nt : ts = [] := by
        cases ts with
        | nil => rfl
        | cons u us =>
          obtain ⟨c, hc, _⟩ := h.lt u (List.mem_cons_self ..)
          rw [hk] at hc
          cases hc
      subst nt
      show nbT t (x + 1) + 0 ≤ nbT t x + 0 + 1
      omega
    | some c =>
      by_cases hl : t.1 + (c - 1) * t.2.1 < x
      · have h1 := nbT_all ht hk hl
        have h2 := nbT_all ht hk (show t.1 + (c - 1) * t.2.1 < x + 1 by omega)
        have h3 := NB_step hs x
        omega
      · have z : ∀ y, y ≤ x + 1 → NB ts y = 0 := fun y hy => NB_zero hs.1 fun u hu => by
          obtain ⟨c', hc, q⟩ := h.lt u hu
          rw [hk] at hc
          cases hc
          omega
        have h1 := z x (by omega)
        have h2 := z (x + 1) (Int.le_refl _)
        omega
/-- the i-th time is told by what is before x -/
theorem At_iff {ts : List Trn} (h : Srt ts) {i y : Int} (i0 : 0 ≤ i) : At ts i = some y ↔ NB ts y = i ∧ NB ts (y + 1) = i + 1 := by
  have one : ∀ {z}, At ts i = some z → NB ts z = i ∧ NB ts (z + 1) = i + 1 := fun {z} e => by
    have h1 := At_lt h i0 e z
    have h2 := At_lt h i0 e (z + 1)
    have h3 := NB_step h z
    omega
  refine ⟨one, fun ⟨e1, e2⟩ => ?_⟩
  cases q : At ts i with
  | none =>
    obtain ⟨n, e3, e4⟩ := (At_none h.1 i0).mp q
    have := NB_tot h.1 e3 (y + 1)
    omega
  | some w =>
    have h3 := At_lt h i0 q y
    have h4 := At_lt h i0 q (y + 1)
    congr 1
    omega
/-- trains with the same counts have the same times -/
theorem At_same {ts us : List Trn} (h : Srt ts) (h' : Srt us) (e : ∀ x, NB ts x = NB us x) {i : Int} (i0 : 0 ≤ i) : At ts i = At us i := by
  cases q : At ts i with
  | some y =>
    obtain ⟨e1, e2⟩ := (At_iff h i0).mp q
    exact ((At_iff h' i0).mpr ⟨by rw [← e]; exact e1, by rw [← e]; exact e2⟩).symm
  | none =>
    cases q2 : At us i with
    | none => rfl
    | some y =>
      obtain ⟨e1, e2⟩ := (At_iff h' i0).mp q2
      rw [(At_iff h i0).mpr ⟨by rw [e]; exact e1, by rw [e]; exact e2⟩] at q
      cases q
/-! ### rows in the heap -/
/-! ### breakers and rows -/
abbrev Tri := Int × Int × Int
def TriV (t : Tri) : List V := [.int t.1, .int t.2.1, .int t.2.2]
def BrAt (H : Hp) (x : V) (t : Tri) : Prop := ∃ a, x = .ref a ∧ H a = some (.tup (TriV t))
def OkT (t : Tri) : Prop := 1 ≤ t.1 ∧ t.1 ≤ 1000000000000 ∧ 1 ≤ t.2.1 ∧ t.2.1 ≤ 1000000000000000000000000000000 ∧ 1 ≤ t.2.2 ∧ t.2.2 ≤ 1000000000000
abbrev Brs (H : Hp) (xs : List V) (ts : List Tri) : Prop := Paired (BrAt H) xs ts
theorem BrAt.nl {H H' : Hp} (k : NL H H') {x : V} {t : Tri} (h : BrAt H x t) : BrAt H' x t := by
  obtain ⟨a, e, h⟩ := h
  exact ⟨a, e, k _ _ h fun _ z => nomatch z⟩
theorem Brs.nl {H H' : Hp} (k : NL H H') {xs : List V} {ts : List Tri} (h : Brs H xs ts) : Brs H' xs ts := L2.Paired.mapP h fun _ _ z => z.nl k
theorem Brs.len {H : Hp} : ∀ {xs : List V} {ts : List Tri}, Brs H xs ts → xs.length = ts.length
  | _, _, .nil => rfl
  | _, _, .cons _ t => congrArg Nat.succ (Brs.len t)
theorem Brs.get {H : Hp} : ∀ {xs : List V} {ts : List Tri} {i : Nat} {x : V}, Brs H xs ts → xs[i]? = some x → ∃ t, ts[i]? = some t ∧ BrAt H x t
  | _, _, _, _, .nil, e => by simp at e
  | _, _, 0, _, .cons r _, e => by simp at e; subst e; exact ⟨_, rfl, r⟩
  | _, _, i + 1, x, .cons _ t, e => by
    obtain ⟨u, h1, h2⟩ := Brs.get (i := i) (x := x) t (by simpa using e)
    exact ⟨u, by simpa using h1, h2⟩
theorem Brs.app {H : Hp} : ∀ {xs ys : List V} {ts us : List Tri}, Brs H xs ts → Brs H ys us → Brs H (xs ++ ys) (ts ++ us)
  | _, _, _, _, .nil, s => s
  | _, _, _, _, .cons r t, s => .cons r (Brs.app t s)
theorem Brs.rev {H : Hp} : ∀ {xs : List V} {ts : List Tri}, Brs H xs ts → Brs H xs.reverse ts.reverse
  | _, _, .nil => .nil
  | _, _, .cons r t => by
    rw [List.reverse_cons, List.reverse_cons]
    exact Brs.app (Brs.rev t) (.cons r .nil)
theorem Brs.take {H : Hp} : ∀ {xs : List V} {ts : List Tri} (n : Nat), Brs H xs ts → Brs H (xs.take n) (ts.take n)
  | _, _, 0, _ => .nil
  | _, _, _ + 1, .nil => .nil
  | _, _, n + 1, .cons r t => .cons r (Brs.take n t)
theorem Brs.drop {H : Hp} : ∀ {xs : List V} {ts : List Tri} (n : Nat), Brs H xs ts → Brs H (xs.drop n) (ts.drop n)
  | _, _, 0, r => r
  | _, _, _ + 1, .nil => .nil
  | _, _, n + 1, .cons _ t => Brs.drop n t
/-! the attributes of a row, as __init__ stores them -/
theorem k1 : ¬ (("breakers" : Str) = "step") := by decide +kernel
theorem k2 : ¬ (("breakers" : Str) = "phase") := by decide +kernel
theorem k3 : ¬ (("step" : Str) = "phase") := by decide +kernel
def rowF (T : Addr) (st ph : Int) : List (Str × V) := putF "phase" (.int ph) (putF "step" (.int st) (putF "breakers" (.ref T) []))
theorem rowF_b (T : Addr) (st ph : Int) : (rowF T st ph).lookup ("breakers" : Str) = some (.ref T) := by
  unfold rowF
  rw [lookup_putF, if_neg k2, lookup_putF, if_neg k1, lookup_putF, if_pos rfl]
theorem rowF_s (T : Addr) (st ph : Int) : (rowF T st ph).lookup ("step" : Str) = some (.int st) := by
  unfold rowF
  rw [lookup_putF, if_neg k3, lookup_putF, if_pos rfl]
theorem rowF_p (T : Addr) (st ph : Int) : (rowF T st ph).lookup ("phase" : Str) = some (.int ph) := by
  unfold rowF
  rw [lookup_putF, if_pos rfl]
theorem rowF_no (T : Addr) (st ph : Int) {m : Str} (h1 : ¬ m = "phase") (h2 : ¬ m = "step") (h3 : ¬ m = "breakers") : (rowF T st ph).lookup m = none := by
  unfold rowF
  rw [lookup_putF, if_neg h1, lookup_putF, if_neg h2, lookup_putF, if_neg h3]
  all_goals rfl
/-- a Row stands at p -/
structure RowAt (C : Addr) (H : Hp) (p T : Addr) (xs : List V) (ts : List Tri) (st ph : Int) : Prop where
  ob : ∃ dx, H p = some (.ins C dx (rowF T st ph))
  tp : H T = some (.tup xs)
  br : Brs H xs ts
  ok : ∀ t ∈ ts, OkT t
  ln : ts.length ≤ 12
  s0 : 1 ≤ st
  s1 : st ≤ 1000000000000000000000000000000
  p0 : 0 ≤ ph
  p1 : ph ≤ 1000000000000000000000000000000
theorem RowAt.nl {C : Addr} {H H' : Hp} {p T : Addr} {xs : List V} {ts : List Tri} {st ph : Int} (R : RowAt C H p T xs ts st ph) (k : NL H H') : RowAt C H' p T xs ts st ph := by
  obtain ⟨dx, h⟩ := R.ob
  exact ⟨⟨dx, k _ _ h fun _ z => nomatch z⟩, k _ _ R.tp fun _ z => (nomatch z), R.br.nl k, R.ok, R.ln, R.s0, R.s1, R.p0, R.p1⟩
/-! ### promises -/
def spIsBr : Sp := fun vs H Q _ => ∃ x t, vs = [x] ∧ BrAt H x t ∧ OkT t ∧ Q (.bl true) H
def spRChk : Sp := fun vs H Q _ => ∃ a xs ts pt, vs = [.ref a, .str pt] ∧ H a = some (.lst xs) ∧ Brs H xs ts ∧ (∀ t ∈ ts, OkT t) ∧ ts.length ≤ 12 ∧ ∀ H', Same H H' → Q .non H'
def spRStep : Sp := fun vs H Q _ => ∃ st : Int, vs = [.int st] ∧ 1 ≤ st ∧ st ≤ 1000000000000000000000000000000 ∧ Q .non H
def spRInit (C : Addr) : Sp := fun vs H Q _ => ∃ p a st ph xs ts dx, vs = [.ref p, .ref a, .int st, .int ph] ∧ H p = some (.ins C dx []) ∧ H a = some (.lst xs) ∧ Brs H xs ts ∧ (∀ t ∈ ts, OkT t) ∧ ts.length ≤ 12 ∧
  (1 ≤ st ∧ st ≤ 1000000000000000000000000000000 ∧ 0 ≤ ph ∧ ph ≤ 1000000000000000000000000000000) ∧ ∀ T H', RowAt C H' p T xs ts st ph → Kp p H H' → Q .non H'
def spRBl (C : Addr) : Sp := fun vs H Q _ => ∃ p T xs ts st ph, vs = [.ref p] ∧ RowAt C H p T xs ts st ph ∧ ∀ l H', H l = none → H' = upd H l (.lst xs) → Q (.ref l) H'
def spRSt (C : Addr) : Sp := fun vs H Q _ => ∃ p T xs ts st ph, vs = [.ref p] ∧ RowAt C H p T xs ts st ph ∧ Q (.int st) H
def spRPh (C : Addr) : Sp := fun vs H Q _ => ∃ p T xs ts st ph, vs = [.ref p] ∧ RowAt C H p T xs ts st ph ∧ Q (.int ph) H
def spRLen (C : Addr) : Sp := fun vs H Q _ => ∃ p T xs ts st ph, vs = [.ref p] ∧ RowAt C H p T xs ts st ph ∧ Q (.int xs.length) H
def spRGet (C : Addr) : Sp := fun vs H Q _ => ∃ p T xs ts st ph i x, vs = [.ref p, .int i] ∧ RowAt C H p T xs ts st ph ∧ 0 ≤ i ∧ atI xs i = some x ∧ i < xs.length ∧ Q x H
def spRCon (C : Addr) : Sp := fun vs H Q _ => ∃ p T xs ts st ph x n, vs = [.ref p, x] ∧ RowAt C H p T xs ts st ph ∧ Kd H x n ∧ Q (.bl (isI x && (decide (ph ≤ toI x) && decide ((toI x - ph) % st = 0)))) H
def spRRt (C : Addr) : Sp := fun vs H Q _ => ∃ p T xs ts st ph i, vs = [.ref p, .int i] ∧ RowAt C H p T xs ts st ph ∧ 0 ≤ i ∧ i ≤ BB ∧ Q (.int (ph + i * st)) H
def spRFr (C : Addr) : Sp := fun vs H Q _ => ∃ p T xs ts st ph i, vs = [.ref p, .int i] ∧ RowAt C H p T xs ts st ph ∧ 0 ≤ i ∧ Q (.int (stepsUp (i - ph) st)) H
theorem row_made {C : Addr} {H : Hp} {Q : Addr → Hp → Prop} {a : Addr} {st ph : Int} {xs : List V} {ts : List Tri} (ha : H a = some (.lst xs)) (hb : Brs H xs ts) (ho : ∀ t ∈ ts, OkT t) (hl : ts.length ≤ 12)
    (bd : 1 ≤ st ∧ st ≤ 1000000000000000000000000000000 ∧ 0 ≤ ph ∧ ph ≤ 1000000000000000000000000000000) (k : ∀ p T H', RowAt C H' p T xs ts st ph → Same H H' → H p = none → Q p H') :
    ∀ x dx, H x = none → H dx = none → dx ≠ x → spRInit C [.ref x, .ref a, .int st, .int ph] (upd (upd H dx (.own x)) x (.ins C dx [])) (fun v H3 => v = .non ∧ Q x H3) E0 := by
  intro x dx hx hd hne
  have s0 : Same H (upd (upd H dx (.own x)) x (.ins C dx [])) := fun b o e => by
    rw [upd_ne (ne_of_none e hx), upd_ne (ne_of_none e hd)]
    exact e
  refine ⟨x, a, st, ph, xs, ts, dx, rfl, upd_same, s0 _ _ ha, hb.nl (NL.of s0), ho, hl, bd, fun T H' R kp => ⟨rfl, k x T H' R (fun b o e => kp b o (ne_of_none e hx) (s0 b o e)) hx⟩⟩
abbrev RDat := List Tri × Int × Int
/-- what == is asked of -/
inductive EqOf (C : Addr) (H : Hp) (d : RDat) : V → Bool → Prop where
  | row {q U : Addr} {ys : List V} {us : List Tri} {st ph : Int} (R : RowAt C H q U ys us st ph) : EqOf C H d (.ref q) (decide (d = (us, st, ph)))
  | non : EqOf C H d .non false
  | lst {a : Addr} {xs : List V} (e : H a = some (.lst xs)) : EqOf C H d (.ref a) false
  | tup {a : Addr} {xs : List V} (e : H a = some (.tup xs)) : EqOf C H d (.ref a) false
theorem EqOf.nl {C : Addr} {H H' : Hp} {d : RDat} {v : V} {b : Bool} (h : EqOf C H d v b) (k : Same H H') : EqOf C H' d v b := by
  cases h with
  | row R => exact .row (R.nl (NL.of k))
  | non => exact .non
  | lst e => exact .lst (k _ _ e)
  | tup e => exact .tup (k _ _ e)
/-- breakers as data -/
def triD (t : Tri) : PyData := .tuple [.int t.1, .int t.2.1, .int t.2.2]
theorem Brs.dp {K : PySem.W.Frag} {H : Hp} : ∀ {xs : List V} {ts : List Tri}, Brs H xs ts → DpAll K H xs (ts.map triD)
  | _, _, .nil => .nil
  | _, _, .cons ⟨a, e, h⟩ t => by
    subst e
    exact .cons (.tup (SqT.of h) (.cons (.int _) (.cons (.int _) (.cons (.int _) .nil)))) (Brs.dp t)
theorem triD_eq (t u : Tri) : PyData.eqv (triD t) (triD u) = decide (t = u) := by
  obtain ⟨a, b, c⟩ := t
  obtain ⟨a', b', c'⟩ := u
  simp only [triD, PyData.eqv, PyData.eqvAll, Bool.and_true]
  rw [Bool.eq_iff_iff]
  simp [Prod.ext_iff]
theorem triDs_eq : ∀ ts us : List Tri, PyData.eqvAll (ts.map triD) (us.map triD) = decide (ts = us)
  | [], [] => by simp [PyData.eqvAll]
  | [], _ :: _ => by simp [PyData.eqvAll]
  | _ :: _, [] => by simp [PyData.eqvAll]
  | t :: ts, u :: us => by
    rw [List.map_cons, List.map_cons, PyData.eqvAll, triD_eq, triDs_eq ts us, Bool.eq_iff_iff]
    simp
theorem canAll : ∀ ts : List Tri, PyData.canLayAll0 (ts.map triD) = true
  | [] => by simp [PyData.canLayAll0]
  | t :: ts => by
    rw [List.map_cons, PyData.canLayAll0, canAll ts]
    simp [triD, PyData.canLay0, PyData.canLayAll0]
theorem depAll : ∀ ts : List Tri, PyData.depthAll (ts.map triD) ≤ 10
  | [] => by simp [PyData.depthAll]
  | t :: ts => by
    have := depAll ts
    rw [List.map_cons, PyData.depthAll]
    have h2 : (triD t).depth ≤ 10 := by simp [triD, PyData.depth, PyData.depthAll]
    omega
theorem shT (ts : List Tri) : SeqAt.shaped (.tuple (ts.map triD)) = true := by
  refine Bool.and_eq_true_iff.mpr ⟨?_, decide_eq_true ?_⟩
  · rw [PyData.canLay0]
    exact canAll ts
  · have := depAll ts
    rw [PyData.depth]
    omega

theorem wide200 {i j : Int} (h1 : i.natAbs < 2 ^ 200) (h2 : j.natAbs < 2 ^ 200) : CMulW i j := wide_mul h1 h2 (by decide) (by decide) (by decide)
theorem lt200 {i : Int} (h0 : 0 ≤ i) (h : i ≤ 1000000000000000000000000000000) : i.natAbs < 2 ^ 200 := Nat.lt_of_le_of_lt (show i.natAbs ≤ 1000000000000000000000000000000 by omega) (by decide)
theorem log200 {i : Int} (h0 : 1 ≤ i) (h : i ≤ 1000000000000000000000000000000) : i.natAbs.log2 < 9000 := (wide_div (by omega : 0 < i) (lt200 (by omega) h) (by decide) (by decide) (i := 0)).2
theorem st_bb {s : Int} (h : s ≤ 1000000000000000000000000000000) : s ≤ BB := Int.le_trans h (Int.le_trans (PB_of (n := 100) (by decide +kernel)) (PB_le (by decide)))
theorem k6_pos {P : Prop} {q : Prop} [Decidable P] [Decidable q] (h : P) (h' : q) : (decide P && decide q) = true := by rw [decide_eq_true h, decide_eq_true h']; rfl
section
variable {P : Program} {w : World} {K : PySem.W.Frag} {mg : Str → Option Value} {base : Heap} {L : LA}
abbrev N_isbreaker : List Str := ["value", "failures", "wait", "successes"]
theorem sc_isbreaker : FnScope N_isbreaker ["value"] (defScope st_is_breaker) := ⟨rfl, rfl, rfl, by decide +kernel, rfl, by decide +kernel, by decide +kernel⟩
theorem fn_isbreaker (T : LX K mg L) {fd : FuncData} (F : Fun K "is_breaker" "is_breaker" st_is_breaker L.f_is_breaker fd) : FnOk P w K mg base CX0 3 L.f_is_breaker fd ["value"] (spIsBr) := by
  have G_iswithin := ok_iswithin (P := P) (w := w) (base := base) T
  obtain ⟨tk_MOST_COUNT, c_MOST_COUNT⟩ := T.n_MOST_COUNT
  obtain ⟨tk_MOST_TIME, c_MOST_TIME⟩ := T.n_MOST_TIME
  have nd := sc_isbreaker.nd
  refine F.ok sc_isbreaker (fun vs H Q E h => ?_) (fun cdv A outer S H vs Q E hr h => ?_)
  · obtain ⟨x, t, rfl, _⟩ := h
    rfl
  · obtain ⟨x, t, rfl, ⟨a, rfl, ha⟩, ⟨h1, h2, h3, h4, h5, h6⟩, k⟩ := h
    refine ⟨_, (pss_cons (ps_if (PW.pt (pw_or (pt_not (pt_val (pe_callB call_isi (by rfl) T.b_isinstance (by decide +kernel) (pa_cons (pv 0) (pa_cons (pe_bltn (by rfl) T.b_tuple (by decide +kernel : bootBuiltins "tuple" = some (.type "tuple")) (v := .ty "tuple") rfl) pa_nil))))) (pw_or1 (pt_cmpR op_ne (pe_callB call_len_seq (by rfl) T.b_len PySem.boot_len (pa_cons (pv 0) pa_nil)) pe_int (nomark _))))) (pss_one (ps_ret pe_bl)) pss_nil)
       (pss_cons (ps_asg (pv 0) (pg_tup rfl (pgs_cons (pg_name (i := 1) nd rfl (Or.inl rfl)) (pgs_cons (pg_name (i := 2) nd rfl (Or.inl rfl)) (pgs_cons (pg_name (i := 3) nd rfl (Or.inl rfl)) pgs_nil)))))
       (pss_one (ps_ret (pe_and (pe_c G_iswithin (hr.mono (by decide)) rfl (pa_cons (pv 1) (pa_cons pe_int (pa_cons (pe_gI c_MOST_COUNT) pa_nil)))) (pe_and (pe_c G_iswithin (hr.mono (by decide)) rfl (pa_cons (pv 2) (pa_cons pe_int (pa_cons (pe_gI c_MOST_TIME) pa_nil)))) (pe_one (pe_c G_iswithin (hr.mono (by decide)) rfl (pa_cons (pv 3) (pa_cons pe_int (pa_cons (pe_gI c_MOST_COUNT) pa_nil))))))))))), ?_⟩
    refine ⟨_, rfl, _, .ty "tuple", _, _, _, rfl, .ty "tuple", (Kd.tup ha).ty, (Kd.tup ha).kit "tuple" _ (.inr ⟨by decide, by decide, rfl⟩), _, rfl, iteF ?_⟩
    refine ⟨_, rfl, a, _, rfl, .inr (SqT.of ha), rfl, _, rfl, iteF ?_⟩
    refine ⟨_, rfl, a, _, rfl, SqT.of ha, rfl, _, _, rfl, _, _, rfl, _, _, rfl, rfl, ?_⟩
    refine ⟨_, rfl, _, _, _, _, rfl, .int _, _, rfl, ?_⟩
    have e1 : (decide ((1 : Int) ≤ t.1) && decide (t.1 ≤ 1000000000000)) = true := k6_pos h1 h2
    have e2 : (decide ((1 : Int) ≤ t.2.1) && decide (t.2.1 ≤ 1000000000000000000000000000000)) = true := k6_pos h3 h4
    have e3 : (decide ((1 : Int) ≤ t.2.2) && decide (t.2.2 ≤ 1000000000000)) = true := k6_pos h5 h6
    show if (decide ((1 : Int) ≤ t.1) && decide (t.1 ≤ 1000000000000)) = true then _ else _
    rw [e1]
    refine iteT ?_
    refine ⟨_, rfl, _, _, _, _, rfl, .int _, _, rfl, ?_⟩
    show if (decide ((1 : Int) ≤ t.2.1) && decide (t.2.1 ≤ 1000000000000000000000000000000)) = true then _ else _
    rw [e2]
    refine iteT ?_
    refine ⟨_, rfl, _, _, _, _, rfl, .int _, ?_⟩
    show Q (.bl (decide ((1 : Int) ≤ t.2.2) && decide (t.2.2 ≤ 1000000000000))) H
    rw [e3]
    exact k
theorem ok_isbreaker (T : LX K mg L) : Cal P w K mg base "is_breaker" 3 L.f_is_breaker ["value"] (spIsBr) := T.d_is_breaker.cal fun fd F => fn_isbreaker T F
end
/-! ### states of breakers, and data of them -/
abbrev StD := Str × Int
def StAt (H : Hp) (x : V) (s : StD) : Prop := ∃ a, x = .ref a ∧ H a = some (.tup [.str s.1, .int s.2])
abbrev Sts (H : Hp) (xs : List V) (ss : List StD) : Prop := Paired (StAt H) xs ss
theorem StAt.nl {H H' : Hp} (k : NL H H') {x : V} {d : StD} (h : StAt H x d) : StAt H' x d := by
  obtain ⟨a, e, h⟩ := h
  exact ⟨a, e, k _ _ h fun _ z => nomatch z⟩
theorem Sts.nl {H H' : Hp} (k : NL H H') {xs : List V} {ss : List StD} (h : Sts H xs ss) : Sts H' xs ss := L2.Paired.mapP h fun _ _ z => z.nl k
theorem paired_len {α β : Type} {F : α → β → Prop} : ∀ {xs : List α} {ys : List β}, Paired F xs ys → xs.length = ys.length
  | _, _, .nil => rfl
  | _, _, .cons _ p => by rw [List.length_cons, List.length_cons, paired_len p]
theorem paired_get {α β : Type} {F : α → β → Prop} : ∀ {xs : List α} {ys : List β} {i : Nat} {x : α}, Paired F xs ys → xs[i]? = some x → ∃ y, ys[i]? = some y ∧ F x y
  | _, _, i, x, .nil, e => by cases e
  | _, _, 0, x, .cons h _, e => by cases e; exact ⟨_, rfl, h⟩
  | _, _, i + 1, x, .cons _ p, e => paired_get (i := i) p e
theorem paired_get2 {α β : Type} {F : α → β → Prop} : ∀ {xs : List α} {ys : List β} {i : Nat} {y : β}, Paired F xs ys → ys[i]? = some y → ∃ x, xs[i]? = some x ∧ F x y
  | _, _, i, x, .nil, e => by cases e
  | _, _, 0, x, .cons h _, e => by cases e; exact ⟨_, rfl, h⟩
  | _, _, i + 1, x, .cons _ p, e => paired_get2 (i := i) p e
theorem paired_app {α β : Type} {F : α → β → Prop} : ∀ {xs us : List α} {ys vs : List β}, Paired F xs ys → Paired F us vs → Paired F (xs ++ us) (ys ++ vs)
  | _, _, _, _, .nil, q => q
  | _, _, _, _, .cons h p, q => .cons h (paired_app p q)
theorem StAt.same {H H' : Hp} (s : Same H H') {x : V} {d : StD} (h : StAt H x d) : StAt H' x d := by
  obtain ⟨a, e, h⟩ := h
  exact ⟨a, e, s _ _ h⟩
theorem Sts.same {H H' : Hp} (s : Same H H') {xs : List V} {ss : List StD} (h : Sts H xs ss) : Sts H' xs ss := L2.Paired.mapP h fun _ _ z => z.same s
/-- the breaker passes a request at t -/
def psB (b : Tri) (s : StD) (t : Int) : Prop := s.1 = "open" → b.2.1 ≤ t - s.2
def hfS (s : StD) : StD := if s.1 = "open" then ("half", 0) else s
def okS (b : Tri) (s : StD) : StD := if (hfS s).1 = "half" ∧ (hfS s).2 + 1 < b.2.2 then ("half", (hfS s).2 + 1) else ("closed", 0)
def badS (b : Tri) (s : StD) (t : Int) : StD := if (hfS s).1 = "closed" ∧ (hfS s).2 + 1 < b.1 then ("closed", (hfS s).2 + 1) else ("open", t)
theorem sC_O : ¬ (("closed" : Str) = "open") := by decide +kernel
theorem sH_O : ¬ (("half" : Str) = "open") := by decide +kernel
theorem sO_C : ¬ (("open" : Str) = "closed") := by decide +kernel
theorem sH_C : ¬ (("half" : Str) = "closed") := by decide +kernel
theorem sC_H : ¬ (("closed" : Str) = "half") := by decide +kernel
theorem sO_H : ¬ (("open" : Str) = "half") := by decide +kernel
theorem hf_closed (n : Int) : hfS (("closed" : Str), n) = (("closed" : Str), n) := if_neg sC_O
theorem hf_half (n : Int) : hfS (("half" : Str), n) = (("half" : Str), n) := if_neg sH_O
theorem hf_open (n : Int) : hfS (("open" : Str), n) = (("half" : Str), 0) := if_pos rfl
/-- what is told of a request that k of n breakers pass -/
def outV (n k : Nat) (inS : Bool) : List V := if k < n then [.str "rejected", .int k] else if inS then [.str "failed"] else [.str "served"]
def okW (s : StD) : Prop := s.1 = "closed" ∨ s.1 = "open" ∨ s.1 = "half"
def stD (s : StD) : PyData := .tuple [.str s.1, .int s.2]
theorem Sts.dp {K : PySem.W.Frag} {H : Hp} : ∀ {xs : List V} {ss : List StD}, Sts H xs ss → DpAll K H xs (ss.map stD)
  | _, _, .nil => .nil
  | _, _, .cons ⟨a, e, h⟩ t => by
    subst e
    exact .cons (.tup (SqT.of h) (.cons (.str _) (.cons (.int _) .nil))) (Sts.dp t)
theorem stD_eq (s u : StD) : PyData.eqv (stD s) (stD u) = decide (s = u) := by
  obtain ⟨a, b⟩ := s
  obtain ⟨a', b'⟩ := u
  simp only [stD, PyData.eqv, PyData.eqvAll, Bool.and_true]
  rw [Bool.eq_iff_iff]
  simp [Prod.ext_iff]
theorem stDs_eq : ∀ ss us : List StD, PyData.eqvAll (ss.map stD) (us.map stD) = decide (ss = us)
  | [], [] => by simp [PyData.eqvAll]
  | [], _ :: _ => by simp [PyData.eqvAll]
  | _ :: _, [] => by simp [PyData.eqvAll]
  | t :: ts, u :: us => by
    rw [List.map_cons, List.map_cons, PyData.eqvAll, stD_eq, stDs_eq ts us, Bool.eq_iff_iff]
    simp
theorem sok_W {s : StD} (h : okW s) : PyData.strOk s.1 = true := by
  obtain ⟨a, b⟩ := s
  rcases h with h | h | h
  · have h : a = "closed" := h
    subst h
    show PyData.strOk "closed" = true
    decide +kernel
  · have h : a = "open" := h
    subst h
    show PyData.strOk "open" = true
    decide +kernel
  · have h : a = "half" := h
    subst h
    show PyData.strOk "half" = true
    decide +kernel
theorem canSts : ∀ {ss : List StD}, (∀ s ∈ ss, okW s) → PyData.canLayAll0 (ss.map stD) = true
  | [], _ => by simp [PyData.canLayAll0]
  | t :: ts, h => by
    rw [List.map_cons, PyData.canLayAll0, canSts fun s hs => h s (List.mem_cons_of_mem _ hs)]
    simp [stD, PyData.canLay0, PyData.canLayAll0, sok_W (h t (List.mem_cons_self ..))]
theorem depSts : ∀ ss : List StD, PyData.depthAll (ss.map stD) ≤ 10
  | [] => by simp [PyData.depthAll]
  | t :: ts => by
    have := depSts ts
    rw [List.map_cons, PyData.depthAll]
    have h2 : (stD t).depth ≤ 10 := by simp [stD, PyData.depth, PyData.depthAll]
    omega
theorem shSts {ss : List StD} (h : ∀ s ∈ ss, okW s) : SeqAt.shaped (.list (ss.map stD)) = true := by
  refine Bool.and_eq_true_iff.mpr ⟨?_, decide_eq_true ?_⟩
  · rw [PyData.canLay0]
    exact canSts h
  · have := depSts ss
    rw [PyData.depth]
    omega
theorem Sts.dpl {K : PySem.W.Frag} {H : Hp} {l : Addr} {ys : List V} {ss : List StD} (h : H l = some (.lst ys)) (s : Sts H ys ss) : Dp K H (.ref l) (.list (ss.map stD)) := .lst (SqL.of h) s.dp
theorem eqSts (ss us : List StD) : PyData.eqv (.list (ss.map stD)) (.list (us.map stD)) = decide (ss = us) := by
  rw [PyData.eqv]
  exact stDs_eq ss us
/-! ### lists of ints as data; what the law asks of told times -/
def intsD (ns : List Int) : PyData := .list (ns.map PyData.int)
theorem ints_dp {K : PySem.W.Frag} {H : Hp} : ∀ ns : List Int, DpAll K H (ns.map V.int) (ns.map PyData.int)
  | [] => .nil
  | n :: ns => .cons (.int n) (ints_dp ns)
theorem canInts : ∀ ns : List Int, PyData.canLayAll0 (ns.map PyData.int) = true
  | [] => by simp [PyData.canLayAll0]
  | n :: ns => by rw [List.map_cons, PyData.canLayAll0, canInts ns]; simp [PyData.canLay0]
theorem depInts : ∀ ns : List Int, PyData.depthAll (ns.map PyData.int) ≤ 10
  | [] => by simp [PyData.depthAll]
  | n :: ns => by
    have := depInts ns
    rw [List.map_cons, PyData.depthAll]
    have h2 : (PyData.int n).depth ≤ 10 := by simp [PyData.depth]
    omega
theorem shInts (ns : List Int) : SeqAt.shaped (intsD ns) = true := by
  refine Bool.and_eq_true_iff.mpr ⟨?_, decide_eq_true ?_⟩
  · unfold intsD
    rw [PyData.canLay0]
    exact canInts ns
  · have := depInts ns
    unfold intsD
    rw [PyData.depth]
    omega
theorem eqInts1 : ∀ ns ms : List Int, PyData.eqvAll (ns.map PyData.int) (ms.map PyData.int) = decide (ns = ms)
  | [], [] => by simp [PyData.eqvAll]
  | [], _ :: _ => by simp [PyData.eqvAll]
  | _ :: _, [] => by simp [PyData.eqvAll]
  | n :: ns, m :: ms => by
    rw [List.map_cons, List.map_cons, PyData.eqvAll, eqInts1 ns ms, Bool.eq_iff_iff]
    simp [PyData.eqv]
theorem eqInts (ns ms : List Int) : PyData.eqv (intsD ns) (intsD ms) = decide (ns = ms) := by
  unfold intsD
  rw [PyData.eqv]
  exact eqInts1 ns ms
theorem Dp.ints {K : PySem.W.Frag} {H : Hp} {a : Addr} {ns : List Int} (h : H a = some (.lst (ns.map V.int))) : Dp K H (.ref a) (intsD ns) := .lst (SqL.of h) (ints_dp ns)
/-! ### rules inside comprehensions -/
theorem call_lenK {X : Cx} {K : PySem.W.Frag} (h : X.K = K) : CallR X (.builtin "len") (fun xs H Q => ∃ p ys, xs = [.ref p] ∧ (SqL K H p ys ∨ SqT K H p ys) ∧ Q (.int ys.length) H) := h ▸ call_len_seq
theorem call_listK {X : Cx} {K : PySem.W.Frag} (h : X.K = K) : CallR X (.type "list") (fun xs H Q => ∃ p ys, xs = [.ref p] ∧ (SqL K H p ys ∨ SqT K H p ys) ∧ ∀ l, H l = none → Q (.ref l) (upd H l (.lst ys))) := h ▸ call_list_of
theorem op_neDK {X : Cx} {K : PySem.W.Frag} (h : X.K = K) (hu : X.A.units + 64 < cLine) : OpR X (compareOp .NotEq) (rNeD K) := h ▸ op_neD hu
theorem op_eqDK {X : Cx} {K : PySem.W.Frag} (h : X.K = K) (hu : X.A.units + 64 < cLine) : OpR X (compareOp .Eq) (rEqD K) := h ▸ op_eqD hu
theorem op_inK {X : Cx} {K : PySem.W.Frag} (h : X.K = K) : OpR X (compareOp CmpOp.In) (rIn K false) := h ▸ op_in_seq
theorem op_notInK {X : Cx} {K : PySem.W.Frag} (h : X.K = K) : OpR X (compareOp CmpOp.NotIn) (rIn K true) := h ▸ op_notIn_seq
/-! ### list.count of strings -/
def eqs (k : Str) (v : Value) : Bool := match v with
  | .str n _ => n == k
  | _ => false
def rCntS (K : PySem.W.Frag) : V → List V → Hp → VK → Prop := fun x xs H Q => ∃ (p : Addr) (ss : List Str) (k : Str), x = .ref p ∧ xs = [.str k] ∧ SqL K H p (ss.map V.str) ∧ Q (.int (ss.countP (fun y => decide (y = k)) : Nat)) H
theorem eqs_at {k : Str} {t : Tok} {A : Around} {s : Shared} : ∀ {ss : List Str} {us : List Value}, Vals (ss.map V.str) us → ∀ y ∈ us, SeqAt.EqAt A s y (.str k t) (eqs k y)
  | [], us, r => by
    rw [List.map_nil] at r
    cases r
    exact fun y hy => nomatch hy
  | n :: ss, us, r => by
    rw [List.map_cons] at r
    cases r with
    | cons r1 r2 =>
      obtain ⟨t', rfl⟩ := r1
      intro y hy
      rcases List.mem_cons.mp hy with q | q
      · rw [q]
        exact SeqAt.EqAt.str_str n t' k t
      · exact eqs_at r2 y q
theorem eqs_count {k : Str} : ∀ {ss : List Str} {us : List Value}, Vals (ss.map V.str) us → us.countP (eqs k) = ss.countP fun y => decide (y = k)
  | [], us, r => by
    rw [List.map_nil] at r
    cases r
    rfl
  | n :: ss, us, r => by
    rw [List.map_cons] at r
    cases r with
    | cons r1 r2 =>
      obtain ⟨t', rfl⟩ := r1
      have ih := eqs_count (k := k) r2
      rw [List.countP_cons, List.countP_cons, ih]
      rfl
theorem mt_scount {X : Cx} : MtR X "list.count" (rCntS X.K) := by
  intro pins s σ H x xs v us Q I rx rxs h
  obtain ⟨p, ns, k, rfl, rfl, hs, q⟩ := h
  cases rx
  obtain ⟨u, rfl, ru⟩ := rxs.one
  obtain ⟨t, rfl⟩ := ru
  obtain ⟨its, rv, ⟨⟨cls, dd, data, sl⟩, n, ho, hc, hdn, hd⟩, hlen⟩ := I.list hs
  simp only at hc hd
  subst hc hd
  refine call_meets PySem.F.slot_list_count ⟨_, ho, rfl⟩ PySem.F.entry_list_count (PySem.F.args_list_count_2 _ _)
    (SeqAt.list_countAt p its.toArray n dd sl (.str k t) (eqs k)) ⟨ho, fun y hy => eqs_at rv y (by simpa using hy), ?_⟩
  have ec : its.toArray.toList.countP (eqs k) = ns.countP fun y => decide (y = k) := eqs_count rv
  refine ⟨.int (ns.countP (fun y => decide (y = k)) : Nat), H, I.tok _, ⟨s.toks, ?_⟩, q⟩
  show Value.int ((its.toArray.toList.countP (eqs k) : Nat) : Int) s.toks = Value.int ((ns.countP (fun y => decide (y = k)) : Nat) : Int) s.toks
  rw [ec]
/-- a comprehension over enumerate -/
theorem lc_enum {K : PySem.W.Frag} {a : Addr} {xs : List V} {g : TG} {tt : TT} {te : TE} {vs : List Nat} {σ : L2.St} {H1 : Hp} {D : Addr} {Qd : Hp → Prop} (Pv : Nat → Hp → Prop) (h0 : Pv 0 (upd H1 D (.lst []))) (hl : ∀ i H, Pv i H → SqL K H a xs)
    (hs : ∀ (i : Nat) (x : V) (T : Addr) (H : Hp), xs[i]? = some x → Pv i H → H T = none → g (.ref T) (wipe σ vs) (upd H T (.tup [.int (i : Nat), x])) fun σ2 H2 => wipe σ2 vs = wipe σ vs ∧ tt σ2 H2 fun b H3 =>
      if b = true then te σ2 H3 fun y H4 => ∃ acc, H4 D = some (.lst acc) ∧ acc.length < sizeLine ∧ Pv (i + 1) (upd H4 D (.lst (acc ++ [y]))) else Pv (i + 1) H3) (hd : ∀ H, Pv xs.length H → Qd H) :
    ∃ W : Nat → Nat → Hp → Prop, (∃ m, W 0 m (upd H1 D (.lst []))) ∧ ∀ i m H, W i m H → ((Ite K a).stop i H ∧ Qd H) ∨ ((Ite K a).go i H ∧ ∃ Nx : Hp → Prop, (∀ H', Nx H' → ∃ m', m' < m ∧ W (i + 1) m' H') ∧ ∀ x H', (Ite K a).yld i H x H' → g x (wipe σ vs) H' fun σ2 H2 => wipe σ2 vs = wipe σ vs ∧ tt σ2 H2 fun b H3 =>
        if b = true then te σ2 H3 fun y H4 => ∃ acc, H4 D = some (.lst acc) ∧ acc.length < sizeLine ∧ Nx (upd H4 D (.lst (acc ++ [y]))) else Nx H3) := by
  refine ⟨fun i m H => m = xs.length - i ∧ i ≤ xs.length ∧ Pv i H, ⟨xs.length, by omega, Nat.zero_le _, h0⟩, ?_⟩
  rintro i m H ⟨rfl, hi, p⟩
  have q := hl i H p
  by_cases hlt : i < xs.length
  · refine .inr ⟨⟨xs, xs[i], q, List.getElem?_eq_getElem hlt⟩, Pv (i + 1), fun H' p' => ⟨xs.length - (i + 1), by omega, rfl, hlt, p'⟩, fun v H' y => ?_⟩
    obtain ⟨T, x', rfl, hT, rfl, f⟩ := y
    exact hs i x' T H (f xs q) p hT
  · have e : i = xs.length := by omega
    subst e
    exact .inl ⟨⟨xs, q, Nat.le_refl _⟩, hd H p⟩
theorem op_powW {X : Cx} : OpR X (binaryOp .Pow) (rI (fun i j => 0 ≤ j ∧ (Builtin.Int.intBits i : Int) * j ≤ 2 ^ 27) fun i j => .int (i ^ j.toNat)) := opI fun _ _ _ _ _ _ _ hc q => PyProof.Rows.pow_int hc.1 hc.2 q
/-! ### draws, mixed -/
/-- a source of draws at a: at most n were drawn -/
def Src (H : Hp) (a : Addr) (n : Nat) : Prop := ∃ x y z : Int, H a = some (.lst [.int x, .int y, .int z]) ∧ 0 ≤ x ∧ 0 ≤ z ∧ z ≤ n
theorem Src.mono {H : Hp} {a : Addr} {n m : Nat} (h : Src H a n) (l : n ≤ m) : Src H a m := by
  obtain ⟨x, y, z, e, h1, h2, h3⟩ := h
  exact ⟨x, y, z, e, h1, h2, by omega⟩
theorem Src.same {H H' : Hp} {a : Addr} {n : Nat} (h : Src H a n) (s : Same H H') : Src H' a n := by
  obtain ⟨x, y, z, e, r⟩ := h
  exact ⟨x, y, z, s _ _ e, r⟩
theorem Src.has {H : Hp} {a : Addr} {n : Nat} (h : Src H a n) : ∃ xs, H a = some (.lst xs) := by
  obtain ⟨x, y, z, e, r⟩ := h
  exact ⟨_, e⟩
def spMix : Sp := fun vs H Q _ => ∃ c k, vs = [.int c, .int k] ∧ 0 ≤ k ∧ k ≤ 2000000 ∧ ∀ r, 0 ≤ r → r < 2147483399 → Q (.int r) H
def spWell : Sp := fun vs H Q _ => ∃ c, vs = [.int c] ∧ ∀ a H', H a = none → Same H H' → Src H' a 0 → Q (.ref a) H'
def spNext : Sp := fun vs H Q _ => ∃ (a : Addr) (m : Int) (n : Nat), vs = [.ref a, .int m] ∧ 0 < m ∧ m.natAbs < 2 ^ 1100 ∧ Src H a n ∧ n ≤ 900000 ∧ ∀ (r : Int) H', 0 ≤ r → r < m → Src H' a (n + 1) → Kp a H H' → Q (.int r) H'
def spOne : Sp := fun vs H Q _ => ∃ (a l : Addr) (xs : List V) (n : Nat), vs = [.ref a, .ref l] ∧ a ≠ l ∧ H l = some (.lst xs) ∧ 0 < xs.length ∧ xs.length ≤ 100000 ∧ Src H a n ∧ n ≤ 900000 ∧ ∀ v H', v ∈ xs → Src H' a (n + 1) → Kp a H H' → Q v H'
theorem atI_of {α : Type} {xs : List α} {i : Int} (h0 : 0 ≤ i) (h1 : i < xs.length) : ∃ v, atI xs i = some v ∧ v ∈ xs := by
  have hj : i.toNat < xs.length := by omega
  refine ⟨xs[i.toNat], ?_, List.getElem_mem _⟩
  have e : ((i.toNat : Nat) : Int) = i := by omega
  have := atI_nat (xs := xs) (j := i.toNat) (v := xs[i.toNat]) (List.getElem?_eq_getElem hj)
  rwa [e] at this
section
variable {P : Program} {w : World} {K : PySem.W.Frag} {mg : Str → Option Value} {base : Heap} {L : LA}
abbrev N_wmixed : List Str := ["_law_cell", "_law_k", "_law_figure"]
theorem sc_wmixed : FnScope N_wmixed ["_law_cell", "_law_k"] (defScope st__law_mixed) := ⟨rfl, rfl, rfl, by decide +kernel, rfl, by decide +kernel, by decide +kernel⟩
theorem fn_wmixed (T : LX K mg L) {fd : FuncData} (F : Fun K "_law_mixed" "_law_mixed" st__law_mixed L.f__law_mixed fd) : FnOk P w K mg base CX0 1 L.f__law_mixed fd ["_law_cell", "_law_k"] (spMix) := by
  have nd := sc_wmixed.nd
  refine F.ok sc_wmixed (fun vs H Q E h => ?_) (fun cdv A outer S H vs Q E hr h => ?_)
  · obtain ⟨c, kk, rfl, _⟩ := h
    rfl
  · obtain ⟨c, kk, rfl, k0, k1, k⟩ := h
    refine ⟨_, (pss_cons (ps_set (i := 2) nd rfl (Or.inl rfl) (pe_op op_mod (pe_callTy call_int1 (by rfl) T.b_int (by decide +kernel) (pa_cons (pe_op op_pow (pe_op op_add (pe_op op_add (pe_op op_mod (pe_callTy call_int1 (by rfl) T.b_int (by decide +kernel) (pa_cons (pv 0) pa_nil)) pe_int) (pe_op op_mulW pe_int (pv 1))) pe_int) pe_int) pa_nil)) pe_int))
       (pss_cons (ps_set (i := 2) nd rfl (Or.inl rfl) (pe_op op_mod (pe_callTy call_int1 (by rfl) T.b_int (by decide +kernel) (pa_cons (pe_op op_add (pv 2) (pe_op op_mulW (pe_op op_mod (pe_callTy call_int1 (by rfl) T.b_int (by decide +kernel) (pa_cons (pe_op op_fdivW (pv 0) pe_int) pa_nil)) pe_int) (pe_op op_add (pv 1) pe_int))) pa_nil)) pe_int))
       (pss_cons (ps_set (i := 2) nd rfl (Or.inl rfl) (pe_op op_mod (pe_callTy call_int1 (by rfl) T.b_int (by decide +kernel) (pa_cons (pe_op op_mulW (pv 2) (pe_op op_add (pe_op op_add (pe_op op_fdivW (pv 2) pe_int) pe_int) (pv 1))) pa_nil)) pe_int))
       (pss_one (ps_ret (pe_op op_mod (pe_callTy call_int1 (by rfl) T.b_int (by decide +kernel) (pa_cons (pe_op op_mulW (pv 2) (pe_op op_add (pe_op op_fdivW (pv 2) pe_int) pe_int)) pa_nil)) pe_int)))))), ?_⟩
    have cm1 : CMulW 30011 kk := wide_mul (a := 30) (b := 30) (by decide) (Nat.lt_of_le_of_lt (show kk.natAbs ≤ 2000000 by omega) (by decide)) (by decide) (by decide) (by decide)
    have m0 := Int.emod_nonneg c (show (2147483629 : Int) ≠ 0 by decide)
    have m1 := Int.emod_lt_of_pos c (show (0 : Int) < 2147483629 by decide)
    refine ⟨_, rfl, .inl ⟨_, rfl, _, _, rfl, rfl, (by show (0 : Int) < 2147483629; decide), _, rfl, _, _, rfl, rfl, cm1, _, _, rfl, rfl, _, _, rfl, rfl, _, _, rfl, rfl, ⟨by decide, by decide, ?_⟩, .inl ⟨_, rfl, _, _, rfl, rfl, (by show (0 : Int) < 2147483647; decide), ?_⟩⟩⟩
    · exact Nat.lt_of_le_of_lt (show (c % 2147483629 + 30011 * kk + 7).natAbs ≤ 100000000000 by omega) (by decide)
    have a0 := Int.emod_nonneg ((c % 2147483629 + 30011 * kk + 7) ^ (3 : Int).toNat) (show (2147483647 : Int) ≠ 0 by decide)
    have a1 := Int.emod_lt_of_pos ((c % 2147483629 + 30011 * kk + 7) ^ (3 : Int).toNat) (show (0 : Int) < 2147483647 by decide)
    dsimp only
    generalize (c % 2147483629 + 30011 * kk + 7) ^ (3 : Int).toNat % 2147483647 = f1 at a0 a1 ⊢
    have b0 := Int.emod_nonneg (c / 2147483629) (show (65537 : Int) ≠ 0 by decide)
    have b1 := Int.emod_lt_of_pos (c / 2147483629) (show (0 : Int) < 65537 by decide)
    have cm2 : CMulW (c / 2147483629 % 65537) (kk + 5) := wide_mul (a := 30) (b := 30) (Nat.lt_of_le_of_lt (show (c / 2147483629 % 65537).natAbs ≤ 70000 by omega) (by decide)) (Nat.lt_of_le_of_lt (show (kk + 5).natAbs ≤ 2000005 by omega) (by decide)) (by decide) (by decide) (by decide)
    refine ⟨_, rfl, _, rfl, _, _, rfl, rfl, wide_div (b := 40) (by decide) (by decide) (by decide) (by decide), .inl ⟨_, rfl, _, _, rfl, rfl, (by show (0 : Int) < 65537; decide), _, rfl, _, _, rfl, rfl, _, _, rfl, rfl, cm2, _, _, rfl, rfl, .inl ⟨_, rfl, _, _, rfl, rfl, (by show (0 : Int) < 2147483587; decide), ?_⟩⟩⟩
    have c0 := Int.emod_nonneg (f1 + c / 2147483629 % 65537 * (kk + 5)) (show (2147483587 : Int) ≠ 0 by decide)
    have c1 := Int.emod_lt_of_pos (f1 + c / 2147483629 % 65537 * (kk + 5)) (show (0 : Int) < 2147483587 by decide)
    dsimp only
    generalize (f1 + c / 2147483629 % 65537 * (kk + 5)) % 2147483587 = f2 at c0 c1 ⊢
    have d2 : f2 / 1009 ≤ f2 := Int.ediv_le_self _ c0
    have d3 : 0 ≤ f2 / 1009 := Int.ediv_nonneg c0 (by decide)
    have cm3 : CMulW f2 (f2 / 1009 + 69621 + kk) := wide_mul (a := 40) (b := 40) (Nat.lt_of_le_of_lt (show f2.natAbs ≤ 3000000000 by omega) (by decide)) (Nat.lt_of_le_of_lt (show (f2 / 1009 + 69621 + kk).natAbs ≤ 3000000000 by omega) (by decide)) (by decide) (by decide) (by decide)
    refine ⟨_, rfl, _, rfl, _, _, rfl, rfl, wide_div (b := 40) (by decide) (by decide) (by decide) (by decide), _, _, rfl, rfl, _, rfl, _, _, rfl, rfl, _, _, rfl, rfl, cm3, .inl ⟨_, rfl, _, _, rfl, rfl, (by show (0 : Int) < 2147483563; decide), ?_⟩⟩
    have g0 := Int.emod_nonneg (f2 * (f2 / 1009 + 69621 + kk)) (show (2147483563 : Int) ≠ 0 by decide)
    have g1 := Int.emod_lt_of_pos (f2 * (f2 / 1009 + 69621 + kk)) (show (0 : Int) < 2147483563 by decide)
    dsimp only
    generalize f2 * (f2 / 1009 + 69621 + kk) % 2147483563 = f3 at g0 g1 ⊢
    have h2 : f3 / 2003 ≤ f3 := Int.ediv_le_self _ g0
    have h3 : 0 ≤ f3 / 2003 := Int.ediv_nonneg g0 (by decide)
    have cm4 : CMulW f3 (f3 / 2003 + 40692) := wide_mul (a := 40) (b := 40) (Nat.lt_of_le_of_lt (show f3.natAbs ≤ 3000000000 by omega) (by decide)) (Nat.lt_of_le_of_lt (show (f3 / 2003 + 40692).natAbs ≤ 3000000000 by omega) (by decide)) (by decide) (by decide) (by decide)
    refine ⟨_, rfl, _, rfl, _, _, rfl, rfl, wide_div (b := 40) (by decide) (by decide) (by decide) (by decide), _, _, rfl, rfl, _, _, rfl, rfl, cm4, .inl ⟨_, rfl, _, _, rfl, rfl, (by show (0 : Int) < 2147483399; decide), ?_⟩⟩
    exact k _ (Int.emod_nonneg _ (by decide)) (Int.emod_lt_of_pos _ (by decide))
theorem ok_wmixed (T : LX K mg L) : Cal P w K mg base "_law_mixed" 1 L.f__law_mixed ["_law_cell", "_law_k"] (spMix) := T.d__law_mixed.cal fun fd F => fn_wmixed T F
abbrev N_wwell : List Str := ["_law_cell"]
theorem sc_wwell : FnScope N_wwell ["_law_cell"] (defScope st__law_well) := ⟨rfl, rfl, rfl, by decide +kernel, rfl, by decide +kernel, by decide +kernel⟩
theorem fn_wwell (T : LX K mg L) {fd : FuncData} (F : Fun K "_law_well" "_law_well" st__law_well L.f__law_well fd) : FnOk P w K mg base CX0 1 L.f__law_well fd ["_law_cell"] (spWell) := by
  have nd := sc_wwell.nd
  refine F.ok sc_wwell (fun vs H Q E h => ?_) (fun cdv A outer S H vs Q E hr h => ?_)
  · obtain ⟨c, rfl, _⟩ := h
    rfl
  · obtain ⟨c, rfl, k⟩ := h
    refine ⟨_, (pss_one (ps_ret (pe_lst (pa_cons (pe_op op_mul (pv 0) (pe_callTy call_int1 (by rfl) T.b_int (by decide +kernel) (pa_cons (pe_cmpR op_ge (pv 0) (pe_op op_pow pe_int pe_int) (nomark _)) pa_nil))) (pa_cons (pv 0) (pa_cons pe_int pa_nil)))))), ?_⟩
    refine ⟨_, rfl, _, rfl, _, _, rfl, rfl, ⟨by decide, by decide, by decide⟩, _, _, rfl, rfl, .inr ⟨_, rfl, _, _, rfl, rfl, ?_, ?_⟩⟩
    · refine .inr ?_
      split <;> decide
    · refine ⟨_, rfl, (by show 3 ≤ sizeLine; decide), fun l hl => ?_⟩
      refine k l _ hl (Same.upd hl) ⟨_, _, _, upd_same, ?_, Int.le_refl _, Int.le_refl _⟩
      by_cases hc : (10 : Int) ^ (18 : Int).toNat ≤ c
      · rw [decide_eq_true hc, if_pos rfl, Int.mul_one]
        exact Int.le_trans (by decide) hc
      · rw [decide_eq_false hc, if_neg Bool.false_ne_true, Int.mul_zero]
        exact Int.le_refl _
theorem ok_wwell (T : LX K mg L) : Cal P w K mg base "_law_well" 1 L.f__law_well ["_law_cell"] (spWell) := T.d__law_well.cal fun fd F => fn_wwell T F
abbrev N_wdraw : List Str := ["_law_well_here", "_law_many", "_law_found"]
theorem sc_wdraw : FnScope N_wdraw ["_law_well_here", "_law_many"] (defScope st__law_draw) := ⟨rfl, rfl, rfl, by decide +kernel, rfl, by decide +kernel, by decide +kernel⟩
theorem fn_wdraw (T : LX K mg L) {fd : FuncData} (F : Fun K "_law_draw" "_law_draw" st__law_draw L.f__law_draw fd) : FnOk P w K mg base CX0 2 L.f__law_draw fd ["_law_well_here", "_law_many"] (spNext) := by
  have G_wmixed := ok_wmixed (P := P) (w := w) (base := base) T
  have nd := sc_wdraw.nd
  refine F.ok sc_wdraw (fun vs H Q E h => ?_) (fun cdv A outer S H vs Q E hr h => ?_)
  · obtain ⟨a, m, n, rfl, _⟩ := h
    rfl
  · obtain ⟨a, m, n, rfl, m0, m1, ⟨x, y, z, ha, x0, z0, z1⟩, hn, k⟩ := h
    refine ⟨_, (pss_cons (ps_if (pt_cmpR op_gt (pe_ix (r := rIxL K) ix_list (pv 0) pe_int (fun _ _ => rfl)) pe_int (nomark _)) (pss_cons (ps_set (i := 2) nd rfl (Or.inl rfl) (pe_op op_mod (pe_callTy call_int1 (by rfl) T.b_int (by decide +kernel) (pa_cons (pe_ix (r := rIxL K) ix_list (pv 0) pe_int (fun _ _ => rfl)) pa_nil)) (pv 1)))
       (pss_cons (ps_asg (pe_op op_fdivW (pe_ix (r := rIxL K) ix_list (pv 0) pe_int (fun _ _ => rfl)) (pv 1)) (pg_sub (pv 0) pe_int set_list))
       (pss_one (ps_ret (pv 2))))) pss_nil)
       (pss_cons (ps_asg (pe_op op_add (pe_ix (r := rIxL K) ix_list (pv 0) pe_int (fun _ _ => rfl)) pe_int) (pg_sub (pv 0) pe_int set_list))
       (pss_one (ps_ret (pe_op op_mod (pe_callTy call_int1 (by rfl) T.b_int (by decide +kernel) (pa_cons (pe_c G_wmixed (hr.mono (by decide)) rfl (pa_cons (pe_ix (r := rIxL K) ix_list (pv 0) pe_int (fun _ _ => rfl)) (pa_cons (pe_ix (r := rIxL K) ix_list (pv 0) pe_int (fun _ _ => rfl)) pa_nil))) pa_nil)) (pv 1)))))), ?_⟩
    refine ⟨_, rfl, _, _, _, _, rfl, rfl, SqL.of ha, rfl, _, _, rfl, rfl, _, rfl, ?_⟩
    refine ite2 (fun c => ?_) (fun c => ?_)
    · refine ⟨_, rfl, _, _, _, _, rfl, rfl, SqL.of ha, rfl, .inl ⟨_, rfl, _, rfl, _, _, rfl, rfl, m0, ?_⟩⟩
      refine ⟨_, rfl, _, _, _, _, rfl, rfl, SqL.of ha, rfl, _, rfl, _, _, rfl, rfl, wide_div m0 m1 (by decide) (by decide), ?_⟩
      refine ⟨_, rfl, _, _, _, 0, rfl, rfl, ha, rfl, ?_⟩
      refine ⟨_, rfl, ?_⟩
      exact k _ _ (Int.emod_nonneg _ (by omega)) (Int.emod_lt_of_pos _ m0) ⟨_, _, _, upd_same, Int.ediv_nonneg x0 (by omega), z0, by omega⟩ Kp.upd
    · refine ⟨_, rfl, _, _, _, _, rfl, rfl, SqL.of ha, rfl, _, _, rfl, rfl, ?_⟩
      refine ⟨_, rfl, _, _, _, 2, rfl, rfl, ha, rfl, ?_⟩
      have hA : (upd H a (.lst [.int x, .int y, .int (z + 1)])) a = some (.lst [.int x, .int y, .int (z + 1)]) := upd_same
      refine ⟨_, rfl, _, _, _, _, rfl, rfl, SqL.of hA, rfl, _, rfl, _, _, _, _, rfl, rfl, SqL.of hA, rfl, y, z + 1, rfl, by omega, by omega, fun r r0 r1 => .inl ⟨_, rfl, _, rfl, _, _, rfl, rfl, m0, ?_⟩⟩
      exact k _ _ (Int.emod_nonneg _ (by omega)) (Int.emod_lt_of_pos _ m0) ⟨_, _, _, hA, x0, by omega, by omega⟩ Kp.upd
theorem ok_wdraw (T : LX K mg L) : Cal P w K mg base "_law_draw" 2 L.f__law_draw ["_law_well_here", "_law_many"] (spNext) := T.d__law_draw.cal fun fd F => fn_wdraw T F
abbrev N_wone : List Str := ["_law_well_here", "_law_some"]
theorem sc_wone : FnScope N_wone ["_law_well_here", "_law_some"] (defScope st__law_one) := ⟨rfl, rfl, rfl, by decide +kernel, rfl, by decide +kernel, by decide +kernel⟩
theorem fn_wone (T : LX K mg L) {fd : FuncData} (F : Fun K "_law_one" "_law_one" st__law_one L.f__law_one fd) : FnOk P w K mg base CX0 3 L.f__law_one fd ["_law_well_here", "_law_some"] (spOne) := by
  have G_wdraw := ok_wdraw (P := P) (w := w) (base := base) T
  have nd := sc_wone.nd
  refine F.ok sc_wone (fun vs H Q E h => ?_) (fun cdv A outer S H vs Q E hr h => ?_)
  · obtain ⟨a, l, xs, n, rfl, _⟩ := h
    rfl
  · obtain ⟨a, l, xs, n, rfl, hal, hl, x0, x1, hs, hn, k⟩ := h
    refine ⟨_, (pss_one (ps_ret (pe_ix (r := rIxL K) ix_list (pv 1) (pe_c G_wdraw (hr.mono (by decide)) rfl (pa_cons (pv 0) (pa_cons (pe_callB call_len_seq (by rfl) T.b_len PySem.boot_len (pa_cons (pv 1) pa_nil)) pa_nil))) (fun _ _ => rfl)))), ?_⟩
    refine ⟨_, rfl, _, rfl, _, rfl, l, xs, rfl, .inl (SqL.of hl), a, _, n, rfl, by omega, ?_, hs, hn, fun r H' r0 r1 hs' hk => ?_⟩
    · exact Nat.lt_of_le_of_lt (show ((xs.length : Int)).natAbs ≤ 100000 by omega) (by decide)
    · obtain ⟨v, hv, hm⟩ := atI_of (xs := xs) r0 r1
      exact ⟨l, xs, r, v, rfl, rfl, SqL.of (hk _ _ hal.symm hl), hv, k v H' hm hs' hk⟩
theorem ok_wone (T : LX K mg L) : Cal P w K mg base "_law_one" 3 L.f__law_one ["_law_well_here", "_law_some"] (spOne) := T.d__law_one.cal fun fd F => fn_wone T F
end
/-! ### a request at one breaker -/
instance psDec (b : Tri) (s : StD) (t : Int) : Decidable (psB b s t) := by
  unfold psB
  infer_instance
def stpS (b : Tri) (s : StD) (t : Int) (g : Bool) : StD := if g = true then okS b s else badS b s t
theorem okS_closed {b : Tri} {s : StD} (h : s.1 = "closed") : okS b s = (("closed", 0) : StD) := by
  have e : hfS s = s := if_neg (by rw [h]; exact sC_O)
  unfold okS
  rw [e]
  exact if_neg fun q => sC_H (h.symm.trans q.1)
theorem okS_half {b : Tri} {s : StD} (h : s.1 = "half") : okS b s = if s.2 + 1 < b.2.2 then (("half", s.2 + 1) : StD) else ("closed", 0) := by
  have e : hfS s = s := if_neg (by rw [h]; exact sH_O)
  unfold okS
  rw [e]
  by_cases c : s.2 + 1 < b.2.2
  · rw [if_pos c, if_pos ⟨h, c⟩]
  · rw [if_neg c, if_neg fun q => c q.2]
theorem okS_open {b : Tri} {s : StD} (h : s.1 = "open") : okS b s = if 1 < b.2.2 then (("half", 1) : StD) else ("closed", 0) := by
  have e : hfS s = (("half", 0) : StD) := if_pos h
  unfold okS
  rw [e]
  by_cases c : (1 : Int) < b.2.2
  · rw [if_pos c, if_pos ⟨rfl, by show (0 : Int) + 1 < b.2.2; omega⟩]
    rfl
  · rw [if_neg c, if_neg fun q => c (by have q2 : (0 : Int) + 1 < b.2.2 := q.2; omega)]
theorem badS_closed {b : Tri} {s : StD} {t : Int} (h : s.1 = "closed") : badS b s t = if s.2 + 1 < b.1 then (("closed", s.2 + 1) : StD) else ("open", t) := by
  have e : hfS s = s := if_neg (by rw [h]; exact sC_O)
  unfold badS
  rw [e]
  by_cases c : s.2 + 1 < b.1
  · rw [if_pos c, if_pos ⟨h, c⟩]
  · rw [if_neg c, if_neg fun q => c q.2]
theorem badS_other {b : Tri} {s : StD} {t : Int} (h : ¬ s.1 = "closed") : badS b s t = (("open", t) : StD) := by
  unfold badS
  refine if_neg fun q => ?_
  have q1 := q.1
  unfold hfS at q1
  split at q1
  · exact sH_C q1
  · exact h q1
def spPasses : Sp := fun vs H Q _ => ∃ x y b s t, vs = [x, y, .int t] ∧ BrAt H x b ∧ StAt H y s ∧ Q (.bl (decide (psB b s t))) H
def spBehind : Sp := fun vs H Q _ => ∃ x y b s t g, vs = [x, y, .int t, .bl g] ∧ BrAt H x b ∧ StAt H y s ∧ okW s ∧ ∀ c H', H' c = some (.tup [.str (stpS b s t g).1, .int (stpS b s t g).2]) → Same H H' → H c = none → Q (.ref c) H'
section
variable {P : Program} {w : World} {K : PySem.W.Frag} {mg : Str → Option Value} {base : Heap} {L : LA}
abbrev N_passes : List Str := ["breaker", "state", "time"]
theorem sc_passes : FnScope N_passes ["breaker", "state", "time"] (defScope st_passes) := ⟨rfl, rfl, rfl, by decide +kernel, rfl, by decide +kernel, by decide +kernel⟩
theorem fn_passes (T : LX K mg L) {fd : FuncData} (F : Fun K "passes" "passes" st_passes L.f_passes fd) : FnOk P w K mg base CX0 1 L.f_passes fd ["breaker", "state", "time"] (spPasses) := by
  have nd := sc_passes.nd
  refine F.ok sc_passes (fun vs H Q E h => ?_) (fun cdv A outer S H vs Q E hr h => ?_)
  · obtain ⟨x, y, b, s, t, rfl, _⟩ := h
    rfl
  · obtain ⟨x, y, b, s, t, rfl, ⟨ab, rfl, hb⟩, ⟨as, rfl, hs⟩, k⟩ := h
    refine ⟨_, (pss_one (ps_ret (pe_or (pe_cmpR op_ne (pe_ix (r := rIxT K) ix_tup (pv 1) pe_int (fun _ _ => rfl)) pe_str (nomark _)) (pe_one (pe_cmpR op_ge (pe_op op_sub (pv 2) (pe_ix (r := rIxT K) ix_tup (pv 1) pe_int (fun _ _ => rfl))) (pe_ix (r := rIxT K) ix_tup (pv 0) pe_int (fun _ _ => rfl)) (nomark _)))))), ?_⟩
    refine ⟨_, rfl, as, _, 0, .str s.1, rfl, rfl, SqT.of hs, rfl, rfl, _, rfl, ite2 (fun c => ?_) (fun c => ?_)⟩
    · have c' : ¬ s.1 = "open" := fun e => by simp [e] at c
      rw [decide_eq_true (show psB b s t from fun e => absurd e c')] at k
      exact k
    · have c' : s.1 = "open" := by simpa using c
      have e : decide (psB b s t) = decide (b.2.1 ≤ t - s.2) := by
        rw [Bool.eq_iff_iff, decide_eq_true_iff, decide_eq_true_iff]
        exact ⟨fun h => h c', fun h _ => h⟩
      rw [e] at k
      exact ⟨_, rfl, _, rfl, as, _, 1, .int s.2, rfl, rfl, SqT.of hs, rfl, _, _, rfl, rfl, _, rfl, ab, _, 1, .int b.2.1, rfl, rfl, SqT.of hb, rfl, _, _, rfl, rfl, k⟩
theorem ok_passes (T : LX K mg L) : Cal P w K mg base "passes" 1 L.f_passes ["breaker", "state", "time"] (spPasses) := T.d_passes.cal fun fd F => fn_passes T F
abbrev N_statebehind : List Str := ["breaker", "state", "time", "succeeded", "failures", "wait", "successes", "kind", "number", "reached"]
theorem sc_statebehind : FnScope N_statebehind ["breaker", "state", "time", "succeeded"] (defScope st_state_behind) := ⟨rfl, rfl, rfl, by decide +kernel, rfl, by decide +kernel, by decide +kernel⟩
theorem fn_statebehind (T : LX K mg L) {fd : FuncData} (F : Fun K "state_behind" "state_behind" st_state_behind L.f_state_behind fd) : FnOk P w K mg base CX0 1 L.f_state_behind fd ["breaker", "state", "time", "succeeded"] (spBehind) := by
  have nd := sc_statebehind.nd
  refine F.ok sc_statebehind (fun vs H Q E h => ?_) (fun cdv A outer S H vs Q E hr h => ?_)
  · obtain ⟨x, y, b, s, t, g, rfl, _⟩ := h
    rfl
  · obtain ⟨x, y, b, s, t, g, rfl, ⟨ab, rfl, hb⟩, ⟨as, rfl, hs⟩, ok, k⟩ := h
    refine ⟨_, (pss_cons (ps_asg (pv 0) (pg_tup rfl (pgs_cons (pg_name (i := 4) nd rfl (Or.inl rfl)) (pgs_cons (pg_name (i := 5) nd rfl (Or.inl rfl)) (pgs_cons (pg_name (i := 6) nd rfl (Or.inl rfl)) pgs_nil)))))
       (pss_cons (ps_asg (pv 1) (pg_tup rfl (pgs_cons (pg_name (i := 7) nd rfl (Or.inl rfl)) (pgs_cons (pg_name (i := 8) nd rfl (Or.inl rfl)) pgs_nil))))
       (pss_cons (ps_if (PW.pt (pw_and (pt_val (pv 3)) (pw_and1 (pt_cmpR op_ne (pv 7) pe_str (nomark _))))) (pss_cons (ps_set (i := 9) nd rfl (Or.inl rfl) (pe_ifExp (pt_cmpR op_eq (pv 7) pe_str (nomark _)) (pe_op op_add (pv 8) pe_int) pe_int))
       (pss_one (ps_ret (pe_ifExp (pt_cmpR op_lt (pv 9) (pv 6) (nomark _)) (pe_tup (pa_cons pe_str (pa_cons (pv 9) pa_nil))) (pe_tup (pa_cons pe_str (pa_cons pe_int pa_nil))))))) pss_nil)
       (pss_cons (ps_if (pt_val (pv 3)) (pss_one (ps_ret (pe_tup (pa_cons pe_str (pa_cons pe_int pa_nil))))) pss_nil)
       (pss_cons (ps_if (PW.pt (pw_and (pt_cmpR op_eq (pv 7) pe_str (nomark _)) (pw_and1 (pt_cmpR op_lt (pe_op op_add (pv 8) pe_int) (pv 4) (nomark _))))) (pss_one (ps_ret (pe_tup (pa_cons pe_str (pa_cons (pe_op op_add (pv 8) pe_int) pa_nil))))) pss_nil)
       (pss_one (ps_ret (pe_tup (pa_cons pe_str (pa_cons (pv 2) pa_nil)))))))))), ?_⟩
    refine ⟨_, rfl, ab, _, rfl, SqT.of hb, rfl, _, _, rfl, _, _, rfl, _, _, rfl, rfl, ?_⟩
    refine ⟨_, rfl, as, _, rfl, SqT.of hs, rfl, _, _, rfl, _, _, rfl, rfl, ?_⟩
    have fin : ∀ (d : StD), stpS b s t g = d → ∀ p, H p = none → Q (.ref p) (upd H p (.tup [.str d.1, .int d.2])) := fun d e p hp => by
      subst e
      exact k p _ upd_same (Same.upd hp) hp
    clear k
    cases g with
    | true =>
      refine ⟨_, rfl, _, rfl, iteT ⟨_, rfl, rfl, _, rfl, ite2 (fun c => ?_) (fun c => ?_)⟩⟩
      · have c' : ¬ s.1 = "closed" := fun e => by simp [e] at c
        refine ⟨_, rfl, rfl, _, rfl, ite2 (fun h => ?_) (fun h => ?_)⟩
        · have h' : s.1 = "half" := V.str.inj (of_decide_eq_true h)
          refine ⟨_, rfl, _, _, rfl, rfl, _, rfl, _, rfl, _, _, rfl, rfl, _, rfl, ite2 (fun l => ?_) (fun l => ?_)⟩
          · exact ⟨_, rfl, (by show 2 ≤ sizeLine; decide), fin ("half", s.2 + 1) ((okS_half h').trans (if_pos (of_decide_eq_true l)))⟩
          · exact ⟨(by show 2 ≤ sizeLine; decide), fin ("closed", 0) ((okS_half h').trans (if_neg fun q => l (decide_eq_true q)))⟩
        · have h' : ¬ s.1 = "half" := fun e => h (decide_eq_true (congrArg V.str e))
          have o : s.1 = "open" := by
            rcases ok with e | e | e
            · exact absurd e c'
            · exact e
            · exact absurd e h'
          refine ⟨_, rfl, _, rfl, _, _, rfl, rfl, _, rfl, ite2 (fun l => ?_) (fun l => ?_)⟩
          · exact ⟨_, rfl, (by show 2 ≤ sizeLine; decide), fin ("half", 1) ((okS_open o).trans (if_pos (of_decide_eq_true l)))⟩
          · exact ⟨(by show 2 ≤ sizeLine; decide), fin ("closed", 0) ((okS_open o).trans (if_neg fun q => l (decide_eq_true q)))⟩
      · have c' : s.1 = "closed" := by simpa using c
        exact ⟨_, rfl, _, rfl, iteT ⟨(by show 2 ≤ sizeLine; decide), fin ("closed", 0) (okS_closed c')⟩⟩
    | false =>
      refine ⟨_, rfl, _, rfl, iteF ⟨_, rfl, _, rfl, iteF ⟨_, rfl, rfl, _, rfl, ite2 (fun c => ?_) (fun c => ?_)⟩⟩⟩
      · have c' : s.1 = "closed" := V.str.inj (of_decide_eq_true c)
        refine ⟨_, rfl, _, _, rfl, rfl, _, rfl, _, _, rfl, rfl, _, rfl, ite2 (fun l => ?_) (fun l => ?_)⟩
        · exact ⟨_, rfl, _, _, rfl, rfl, (by show 2 ≤ sizeLine; decide), fin ("closed", s.2 + 1) ((badS_closed c').trans (if_pos (of_decide_eq_true l)))⟩
        · exact ⟨_, rfl, (by show 2 ≤ sizeLine; decide), fin ("open", t) ((badS_closed c').trans (if_neg fun q => l (decide_eq_true q)))⟩
      · have c' : ¬ s.1 = "closed" := fun e => c (decide_eq_true (congrArg V.str e))
        refine iteF ⟨_, rfl, (by show 2 ≤ sizeLine; decide), fin ("open", t) (badS_other c')⟩
theorem ok_statebehind (T : LX K mg L) : Cal P w K mg base "state_behind" 1 L.f_state_behind ["breaker", "state", "time", "succeeded"] (spBehind) := T.d_state_behind.cal fun fd F => fn_statebehind T F
end
/-! ### logs of one breaker -/
def nxG (b : Tri) (s : StD) (t : Int) : StD := if psB b s t then badS b s t else s
def stG (b : Tri) (s : StD) (ns : List Int) : StD := ns.foldl (nxG b) s
def lgG (b : Tri) : StD → List Int → List (Int × Bool)
  | _, [] => []
  | s, t :: r => (t, decide (psB b s t)) :: lgG b (nxG b s t) r
theorem stG_app (b : Tri) (s : StD) (xs : List Int) (t : Int) : stG b s (xs ++ [t]) = nxG b (stG b s xs) t := by
  unfold stG
  rw [List.foldl_append]
  rfl
theorem lgG_app (b : Tri) : ∀ (xs : List Int) (s : StD) (t : Int), lgG b s (xs ++ [t]) = lgG b s xs ++ [(t, decide (psB b (stG b s xs) t))]
  | [], _, _ => rfl
  | x :: xs, s, t => by
    show (x, decide (psB b s x)) :: lgG b (nxG b s x) (xs ++ [t]) = _
    rw [lgG_app b xs]
    rfl
theorem lgG_len (b : Tri) : ∀ (xs : List Int) (s : StD), (lgG b s xs).length = xs.length
  | [], _ => rfl
  | x :: xs, s => congrArg Nat.succ (lgG_len b xs _)
theorem bad_W (b : Tri) (s : StD) (t : Int) : okW (badS b s t) := by
  unfold badS
  split
  · exact .inl rfl
  · exact .inr (.inl rfl)
theorem nxG_W {b : Tri} {s : StD} {t : Int} (h : okW s) : okW (nxG b s t) := by
  unfold nxG
  split
  · exact bad_W b s t
  · exact h
/-- what is counted of a breaker that only fails: the failures left, and the time of opening -/
inductive LfR (b : Tri) : StD → Int → V → Prop where
  | cl (n : Int) (n0 : 0 ≤ n) (n1 : n < b.1) : LfR b ("closed", n) (b.1 - n) .non
  | op (t : Int) : LfR b ("open", t) 0 (.int t)
def lfN (b : Tri) (s : StD) (t : Int) : StD := nxG b s t
def LgAt (H : Hp) (x : V) (p : Int × Bool) : Prop := ∃ a, x = .ref a ∧ H a = some (.tup [.int p.1, .bl p.2])
abbrev Lgs (H : Hp) (xs : List V) (ps : List (Int × Bool)) : Prop := Paired (LgAt H) xs ps
theorem Lgs.nl {H H' : Hp} (k : NL H H') {xs : List V} {ps : List (Int × Bool)} (h : Lgs H xs ps) : Lgs H' xs ps := L2.Paired.mapP h fun _ _ ⟨a, e, h⟩ => ⟨a, e, k _ _ h fun _ z => nomatch z⟩
theorem Lgs.same {H H' : Hp} (s : Same H H') {xs : List V} {ps : List (Int × Bool)} (h : Lgs H xs ps) : Lgs H' xs ps := h.nl (NL.of s)
def lgD (p : Int × Bool) : PyData := .tuple [.int p.1, .bool p.2]
theorem Lgs.dp {K : PySem.W.Frag} {H : Hp} : ∀ {xs : List V} {ps : List (Int × Bool)}, Lgs H xs ps → DpAll K H xs (ps.map lgD)
  | _, _, .nil => .nil
  | _, _, .cons ⟨a, e, h⟩ t => by
    subst e
    exact .cons (.tup (SqT.of h) (.cons (.int _) (.cons (.bl _) .nil))) (Lgs.dp t)
theorem Lgs.dpl {K : PySem.W.Frag} {H : Hp} {l : Addr} {ys : List V} {ps : List (Int × Bool)} (h : H l = some (.lst ys)) (s : Lgs H ys ps) : Dp K H (.ref l) (.list (ps.map lgD)) := .lst (SqL.of h) s.dp
theorem lg_can : ∀ ps : List (Int × Bool), PyData.canLayAll0 (ps.map lgD) = true ∧ PyData.depthAll (ps.map lgD) ≤ 10
  | [] => ⟨by simp [PyData.canLayAll0], by simp [PyData.depthAll]⟩
  | p :: ps => by
    obtain ⟨h1, h2⟩ := lg_can ps
    refine ⟨?_, ?_⟩
    · rw [List.map_cons, PyData.canLayAll0, h1]
      simp [lgD, PyData.canLay0, PyData.canLayAll0]
    · rw [List.map_cons, PyData.depthAll]
      have h3 : (lgD p).depth ≤ 10 := by simp [lgD, PyData.depth, PyData.depthAll]
      omega
theorem lg_sh (ps : List (Int × Bool)) : SeqAt.shaped (.list (ps.map lgD)) = true := by
  obtain ⟨h1, h2⟩ := lg_can ps
  refine Bool.and_eq_true_iff.mpr ⟨?_, decide_eq_true ?_⟩
  · rw [PyData.canLay0]
    exact h1
  · rw [PyData.depth]
    omega
theorem lgD_eq (p q : Int × Bool) : PyData.eqv (lgD p) (lgD q) = decide (p = q) := by
  obtain ⟨a, b⟩ := p
  obtain ⟨a', b'⟩ := q
  simp only [lgD, PyData.eqv, PyData.eqvAll, Bool.and_true]
  rw [Bool.eq_iff_iff]
  simp [Prod.ext_iff]
theorem lgDs_eq : ∀ ps qs : List (Int × Bool), PyData.eqvAll (ps.map lgD) (qs.map lgD) = decide (ps = qs)
  | [], [] => by simp [PyData.eqvAll]
  | [], _ :: _ => by simp [PyData.eqvAll]
  | _ :: _, [] => by simp [PyData.eqvAll]
  | p :: ps, q :: qs => by
    rw [List.map_cons, List.map_cons, PyData.eqvAll, lgD_eq, lgDs_eq ps qs, Bool.eq_iff_iff]
    simp
theorem lg_eq (ps qs : List (Int × Bool)) : PyData.eqv (.list (ps.map lgD)) (.list (qs.map lgD)) = decide (ps = qs) := by
  rw [PyData.eqv]
  exact lgDs_eq ps qs
/-- ascending times from a least one on -/
def Asc : Int → List Int → Prop
  | _, [] => True
  | lo, t :: r => lo ≤ t ∧ Asc (t + 1) r
/-- the least time that may follow -/
def lstG : Int → List Int → Int
  | lo, [] => lo
  | _, t :: r => lstG (t + 1) r
theorem asc_take : ∀ {lo : Int} {ns : List Int} {i : Nat} {t : Int}, Asc lo ns → ns[i]? = some t → (lstG lo (ns.take i)) ≤ t := by
  intro lo ns
  induction ns generalizing lo with
  | nil => intro i t h e; cases e
  | cons x r ih =>
    intro i t h e
    cases i with
    | zero => cases e; exact h.1
    | succ i =>
      show lstG (x + 1) (r.take i) ≤ t
      exact ih (i := i) h.2 e
theorem lst_app : ∀ (lo : Int) (ns : List Int) (t : Int), lstG lo (ns ++ [t]) = t + 1
  | _, [], _ => rfl
  | _, x :: r, t => lst_app (x + 1) r t
def spChkT : Sp := fun vs H Q _ => ∃ a ns, vs = [.ref a] ∧ H a = some (.lst (ns.map V.int)) ∧ Asc 0 ns ∧ ns.length ≤ 1000 ∧ ∀ H', Same H H' → Q .non H'
def spLogOf : Sp := fun vs H Q _ => ∃ x b a ns, vs = [x, .ref a] ∧ BrAt H x b ∧ OkT b ∧ H a = some (.lst (ns.map V.int)) ∧ Asc 0 ns ∧ ns.length ≤ 1000 ∧ ∀ l zs H', H' l = some (.lst zs) → Lgs H' zs (lgG b ("closed", 0) ns) → Same H H' → H l = none → Q (.ref l) H'
section
variable {P : Program} {w : World} {K : PySem.W.Frag} {mg : Str → Option Value} {base : Heap} {L : LA}
abbrev N_checktimes : List Str := ["times", "least", "at", "time"]
theorem sc_checktimes : FnScope N_checktimes ["times"] (defScope st_check_times) := ⟨rfl, rfl, rfl, by decide +kernel, rfl, by decide +kernel, by decide +kernel⟩
theorem fn_checktimes (T : LX K mg L) {fd : FuncData} (F : Fun K "check_times" "check_times" st_check_times L.f_check_times fd) : FnOk P w K mg base CX0 3 L.f_check_times fd ["times"] (spChkT) := by
  obtain ⟨tk_MOST_ENTRIES, c_MOST_ENTRIES⟩ := T.n_MOST_ENTRIES
  have G_isatleast := ok_isatleast (P := P) (w := w) (base := base) T
  have nd := sc_checktimes.nd
  refine F.ok sc_checktimes (fun vs H Q E h => ?_) (fun cdv A outer S H vs Q E hr h => ?_)
  · obtain ⟨a, ns, rfl, _⟩ := h
    rfl
  · obtain ⟨a, ns, rfl, ha, asc, hl, k⟩ := h
    refine ⟨_, (pss_cons (ps_if (PW.pt (pw_or (pt_not (pt_val (pe_callB call_isi (by rfl) T.b_isinstance (by decide +kernel) (pa_cons (pv 0) (pa_cons (pe_bltn (by rfl) T.b_list (by decide +kernel : bootBuiltins "list" = some (.type "list")) (v := .ty "list") rfl) pa_nil))))) (pw_or1 (pt_cmpR op_gt (pe_callB call_len_seq (by rfl) T.b_len PySem.boot_len (pa_cons (pv 0) pa_nil)) (pe_gI c_MOST_ENTRIES) (nomark _))))) (pss_one (ps_never)) pss_nil)
       (pss_cons (ps_set (i := 1) nd rfl (Or.inl rfl) pe_int)
       (pss_one (ps_for PassesOwn.never rfl (pi_enum (by rfl) T.b_enumerate (pa_cons (pv 0) pa_nil)) (pg_tup rfl (pgs_cons (pg_name (i := 2) nd rfl (Or.inl rfl)) (pgs_cons (pg_name (i := 3) nd rfl (Or.inl rfl)) pgs_nil))) (pss_cons (ps_if (pt_not (pt_val (pe_c G_isatleast (hr.mono (by decide)) rfl (pa_cons (pv 3) (pa_cons (pv 1) pa_nil))))) (pss_one (ps_never)) pss_nil)
       (pss_one (ps_set (i := 1) nd rfl (Or.inl rfl) (pe_op op_add (pv 3) pe_int)))))))), ?_⟩
    refine ⟨_, rfl, _, .ty "list", _, _, _, rfl, .ty "list", (Kd.lst ha).ty, (Kd.lst ha).kit "list" _ (.inr ⟨by decide, by decide, rfl⟩), _, rfl, iteF ?_⟩
    refine ⟨_, rfl, a, _, rfl, .inl (SqL.of ha), _, _, rfl, rfl, _, rfl, ?_⟩
    have hn : ¬ ((1000 : Int) < ((ns.map V.int).length : Nat)) := by rw [List.length_map]; omega
    rw [decide_eq_false hn]
    refine iteF ?_
    refine ⟨_, rfl, a, _, rfl, SqL.of ha, for_enum (K := K) (a := a) (xs := ns.map V.int) (fun i σ H2 => ∃ u v : Option V, σ = [some (.ref a), some (.int (lstG 0 (ns.take i))), u, v] ∧ Same H H2) ⟨none, none, rfl, Same.refl H⟩ (fun i σ H2 _ ⟨_, _, _, s2⟩ => SqL.of (s2 _ _ ha)) ?_ ?_⟩
    · rintro i x T' σ H2 hx ⟨u, v, rfl, s2⟩ hT
      rw [List.getElem?_map] at hx
      obtain ⟨t, ht, rfl⟩ := Option.map_eq_some_iff.mp hx
      have s3 : Same H (upd H2 T' (.tup [.int (i : Nat), .int t])) := s2.trans (Same.upd hT)
      refine ⟨T', _, rfl, SqT.of upd_same, rfl, _, _, rfl, _, _, rfl, rfl, ?_⟩
      refine ⟨_, rfl, _, rfl, _, _, _, rfl, .int _, _, rfl, ?_⟩
      show if (!(decide (lstG 0 (ns.take i) ≤ t))) = true then _ else _
      rw [decide_eq_true (asc_take asc ht)]
      refine iteF ?_
      have e : ns.take (i + 1) = ns.take i ++ [t] := by rw [List.take_add_one, ht]; rfl
      rw [e, lst_app]
      exact ⟨_, rfl, _, _, rfl, rfl, _, _, rfl, s3⟩
    · rintro σ H2 ⟨u, v, rfl, s2⟩
      exact k H2 s2
theorem ok_checktimes (T : LX K mg L) : Cal P w K mg base "check_times" 3 L.f_check_times ["times"] (spChkT) := T.d_check_times.cal fun fd F => fn_checktimes T F
abbrev N_logof : List Str := ["breaker", "times", "log", "state", "time", "passed"]
theorem sc_logof : FnScope N_logof ["breaker", "times"] (defScope st_log_of) := ⟨rfl, rfl, rfl, by decide +kernel, rfl, by decide +kernel, by decide +kernel⟩
theorem fn_logof (T : LX K mg L) {fd : FuncData} (F : Fun K "log_of" "log_of" st_log_of L.f_log_of fd) : FnOk P w K mg base CX0 4 L.f_log_of fd ["breaker", "times"] (spLogOf) := by
  have G_checktimes := ok_checktimes (P := P) (w := w) (base := base) T
  have G_isbreaker := ok_isbreaker (P := P) (w := w) (base := base) T
  have G_passes := ok_passes (P := P) (w := w) (base := base) T
  have G_statebehind := ok_statebehind (P := P) (w := w) (base := base) T
  have nd := sc_logof.nd
  refine F.ok sc_logof (fun vs H Q E h => ?_) (fun cdv A outer S H vs Q E hr h => ?_)
  · obtain ⟨x, b, a, ns, rfl, _⟩ := h
    rfl
  · obtain ⟨x, b, a, ns, rfl, hb, okb, ha, asc, hl, k⟩ := h
    refine ⟨_, (pss_cons (ps_if (pt_not (pt_val (pe_c G_isbreaker (hr.mono (by decide)) rfl (pa_cons (pv 0) pa_nil)))) (pss_one (ps_never)) pss_nil)
       (pss_cons (ps_expr (pe_c G_checktimes (hr.mono (by decide)) rfl (pa_cons (pv 1) pa_nil)))
       (pss_cons (ps_set (i := 2) nd rfl (Or.inl rfl) (pe_lst pa_nil))
       (pss_cons (ps_set (i := 3) nd rfl (Or.inl rfl) (pe_tup (pa_cons pe_str (pa_cons pe_int pa_nil))))
       (pss_cons (ps_for PassesOwn.never rfl (pi_list (pv 1)) (pg_name (i := 4) nd rfl (Or.inl rfl)) (pss_cons (ps_set (i := 5) nd rfl (Or.inl rfl) (pe_c G_passes (hr.mono (by decide)) rfl (pa_cons (pv 0) (pa_cons (pv 3) (pa_cons (pv 4) pa_nil)))))
       (C8.pss_cut (ps_if (pt_val (pv 5)) (pss_one (ps_set (i := 3) nd rfl (Or.inl rfl) (pe_c G_statebehind (hr.mono (by decide)) rfl (pa_cons (pv 0) (pa_cons (pv 3) (pa_cons (pv 4) (pa_cons pe_bl pa_nil))))))) pss_nil)
       (pss_one (ps_expr (pe_bm PySem.F.plainAttrs_list PySem.F.slot_list_append PySem.F.type_list_append mt_append (pv 2) (pa_cons (pe_tup (pa_cons (pv 4) (pa_cons (pv 5) pa_nil))) pa_nil)))))))
       (pss_one (ps_ret (pv 2)))))))), ?_⟩
    refine ⟨_, rfl, x, b, rfl, hb, okb, _, rfl, iteF ?_⟩
    refine ⟨_, rfl, a, ns, rfl, ha, asc, hl, fun H1 s1 => ?_⟩
    refine ⟨(by show 0 ≤ sizeLine; decide), fun l nl => ⟨(by show 2 ≤ sizeLine; decide), fun c nc => ?_⟩⟩
    have s2 := Same.upd (o := .lst []) nl
    have s3 := Same.upd (o := .tup [.str "closed", .int 0]) nc
    have hl3 := s3 _ _ (upd_same : upd H1 l (.lst []) l = _)
    have ha3 := s3 _ _ (s2 _ _ (s1 _ _ ha))
    refine ⟨_, rfl, a, rfl, ⟨_, SqL.of ha3⟩, ?_⟩
    refine for_list (K := K) (a := a) (xs := ns.map V.int) (fun i σ Hx => ∃ (y : V) (v4 v5 : Option V) (zs : List V), σ = [some x, some (.ref a), some (.ref l), some y, v4, v5] ∧ StAt Hx y (stG b ("closed", 0) (ns.take i)) ∧ okW (stG b ("closed", 0) (ns.take i)) ∧ Hx l = some (.lst zs) ∧ Lgs Hx zs (lgG b ("closed", 0) (ns.take i)) ∧ Same H1 Hx)
      ⟨_, none, none, [], rfl, ⟨c, rfl, upd_same⟩, .inl rfl, hl3, .nil, s2.trans s3⟩ (fun i σ Hx _ ⟨_, _, _, _, _, _, _, _, _, sx⟩ => SqL.of (sx _ _ (s1 _ _ ha))) ?_ ?_
    · rintro i v σ Hx hxi ⟨y, v4, v5, zs, rfl, hy, wy, hlx, hz, sx⟩
      rw [List.getElem?_map] at hxi
      obtain ⟨t, ht, rfl⟩ := Option.map_eq_some_iff.mp hxi
      have e : ns.take (i + 1) = ns.take i ++ [t] := by rw [List.take_add_one, ht]; rfl
      have zl := paired_len hz
      rw [lgG_len, List.length_take] at zl
      rw [e, stG_app, lgG_app]
      generalize stG b ("closed", 0) (ns.take i) = s at hy wy ⊢
      have bx : BrAt Hx x b := hb.nl (NL.of (s1.trans sx))
      refine ⟨_, rfl, _, rfl, _, rfl, x, y, b, s, t, rfl, bx, hy, ?_⟩
      refine ⟨fun σ' H' => ∃ y', σ' = [some x, some (.ref a), some (.ref l), some y', some (.int t), some (.bl (decide (psB b s t)))] ∧ StAt H' y' (nxG b s t) ∧ Same Hx H', ?_, ?_⟩
      · refine ⟨_, rfl, _, rfl, ite2 (fun q => ?_) (fun q => ?_)⟩
        · refine ⟨_, rfl, _, rfl, _, rfl, x, y, b, s, t, false, rfl, bx, hy, wy, fun c2 H2 h2 s4 n2 => ?_⟩
          refine ⟨_, rfl, ?_, s4⟩
          rw [show nxG b s t = badS b s t from if_pos (of_decide_eq_true q)]
          exact ⟨c2, rfl, h2⟩
        · refine ⟨_, rfl, ?_, Same.refl _⟩
          rw [show nxG b s t = s from if_neg fun z => q (decide_eq_true z)]
          exact hy
      rintro σ' H2 ⟨y', rfl, hy', s4⟩
      have hl4 := s4 _ _ hlx
      refine ⟨_, rfl, .inl ⟨rfl, _, SqL.of hl4⟩, _, rfl, _, rfl, (by show 2 ≤ sizeLine; decide), fun p np => ?_⟩
      have s5 := Same.upd (o := .tup [.int t, .bl (decide (psB b s t))]) np
      have hl5 := s5 _ _ hl4
      refine ⟨l, _, _, rfl, rfl, hl5, small1 (by omega), ?_⟩
      have n6 := NL.upd (o := .lst (zs ++ [.ref p])) hl5
      refine ⟨y', _, _, zs ++ [.ref p], rfl, (hy'.same s5).nl n6, nxG_W wy, upd_same, ?_, fun u o h => ?_⟩
      · exact paired_app (((hz.same s4).same s5).nl n6) (.cons ⟨p, rfl, n6 _ _ upd_same fun _ z => nomatch z⟩ .nil)
      · rw [upd_ne (ne_of_none h nl)]
        exact s5 _ _ (s4 _ _ (sx _ _ h))
    · rintro σ Hx ⟨y, v4, v5, zs, rfl, hy, wy, hlx, hz, sx⟩
      rw [List.length_map, List.take_length] at hz
      exact ⟨_, rfl, k l zs Hx hlx hz (s1.trans sx) (none_of s1 nl)⟩
theorem ok_logof (T : LX K mg L) : Cal P w K mg base "log_of" 4 L.f_log_of ["breaker", "times"] (spLogOf) := T.d_log_of.cal fun fd F => fn_logof T F
end
/-! ### sources kept -/
theorem src_kp {H H' : Hp} {s l : Addr} {n : Nat} (k : Kp l H H') (h : s ≠ l) (S : Src H s n) : Src H' s n := by
  obtain ⟨x, y, z, e, r⟩ := S
  exact ⟨x, y, z, k _ _ h e, r⟩
/-! ### breakers that explain a log: what is true of them -/
abbrev Lg := List (Int × Bool)
def mtE : Int := 1000000000000000000000000000000
def nar (b : Int × Int) (g : Int) (p : Bool) : Int × Int := if p then (b.1, if g < b.2 then g else b.2) else (if b.1 < g + 1 then g + 1 else b.1, b.2)
def bndR : Int → Lg → Int × Int
  | _, [] => (1, mtE)
  | u, (t, p) :: r => nar (bndR (if p then t else u) r) (t - u) p
def fitR (w : Int) : Int → Lg → Bool
  | _, [] => true
  | u, (t, p) :: r => (p == decide (w ≤ t - u)) && fitR w (if p then t else u) r
def fitC (f w : Int) : Int → Lg → Bool
  | _, [] => true
  | k, (t, p) :: r => p && (if k + 1 < f then fitC f w (k + 1) r else fitR w t r)
theorem fit_bnd {w : Int} (w1 : 1 ≤ w) (w2 : w ≤ mtE) : ∀ (ps : Lg) (u : Int), fitR w u ps = (decide ((bndR u ps).1 ≤ w) && decide (w ≤ (bndR u ps).2))
  | [], u => by
    show true = (decide ((1 : Int) ≤ w) && decide (w ≤ mtE))
    rw [decide_eq_true w1, decide_eq_true w2]
    rfl
  | (t, p) :: r, u => by
    have ih := fit_bnd w1 w2 r (if p then t else u)
    show ((p == decide (w ≤ t - u)) && fitR w (if p then t else u) r) = _
    rw [ih]
    show _ = (decide ((nar (bndR (if p then t else u) r) (t - u) p).1 ≤ w) && decide (w ≤ (nar (bndR (if p then t else u) r) (t - u) p).2))
    generalize bndR (if p then t else u) r = b
    obtain ⟨lo, hi⟩ := b
    rw [Bool.eq_iff_iff]
    cases p with
    | true =>
      simp only [nar, if_true, Bool.and_eq_true, beq_iff_eq, decide_eq_true_iff]
      constructor
      · rintro ⟨h1, h2, h3⟩
        have h1 : w ≤ t - u := of_decide_eq_true h1.symm
        refine ⟨h2, ?_⟩
        split <;> omega
      · rintro ⟨h1, h2⟩
        split at h2
        · exact ⟨(decide_eq_true (by omega)).symm, h1, by omega⟩
        · exact ⟨(decide_eq_true (by omega)).symm, h1, by omega⟩
    | false =>
      simp only [nar, Bool.false_eq_true, if_false, Bool.and_eq_true, beq_iff_eq, decide_eq_true_iff]
      constructor
      · rintro ⟨h1, h2, h3⟩
        have h1 : ¬ w ≤ t - u := of_decide_eq_false h1.symm
        refine ⟨?_, h3⟩
        split <;> omega
      · rintro ⟨h1, h2⟩
        split at h1
        · exact ⟨(decide_eq_false (by omega)).symm, by omega, h2⟩
        · exact ⟨(decide_eq_false (by omega)).symm, h1, h2⟩
theorem lg_open (f w : Int) : ∀ (ps : Lg) (u : Int), decide (lgG (f, w, 1) ("open", u) (ps.map (·.1)) = ps) = fitR w u ps
  | [], u => rfl
  | (t, p) :: r, u => by
    have hp : psB (f, w, 1) (("open", u) : StD) t ↔ w ≤ t - u := ⟨fun h => h rfl, fun h _ => h⟩
    show decide ((t, decide (psB (f, w, 1) (("open", u) : StD) t)) :: lgG (f, w, 1) (nxG (f, w, 1) ("open", u) t) (r.map (·.1)) = (t, p) :: r) = _
    show _ = ((p == decide (w ≤ t - u)) && fitR w (if p then t else u) r)
    have ed : decide (psB (f, w, 1) (("open", u) : StD) t) = decide (w ≤ t - u) := by rw [decide_eq_decide]; exact hp
    have en : nxG (f, w, 1) (("open", u) : StD) t = if w ≤ t - u then (("open", t) : StD) else ("open", u) := by
      unfold nxG
      by_cases c : w ≤ t - u
      · rw [if_pos (hp.mpr c), if_pos c, badS_other sO_C]
      · rw [if_neg (fun h => c (hp.mp h)), if_neg c]
    rw [ed, en, ← lg_open f w r (if p then t else u), Bool.eq_iff_iff]
    simp only [Bool.and_eq_true, beq_iff_eq, decide_eq_true_iff, List.cons.injEq, Prod.mk.injEq, true_and]
    by_cases c : w ≤ t - u
    · rw [if_pos c, decide_eq_true c]
      cases p
      · simp
      · simp
    · rw [if_neg c, decide_eq_false c]
      cases p
      · simp
      · simp
theorem lg_closed (f w : Int) : ∀ (ps : Lg) (k : Int), decide (lgG (f, w, 1) ("closed", k) (ps.map (·.1)) = ps) = fitC f w k ps
  | [], k => rfl
  | (t, p) :: r, k => by
    have hp : psB (f, w, 1) (("closed", k) : StD) t := fun e => absurd e sC_O
    show decide ((t, decide (psB (f, w, 1) (("closed", k) : StD) t)) :: lgG (f, w, 1) (nxG (f, w, 1) ("closed", k) t) (r.map (·.1)) = (t, p) :: r) = _
    have en : nxG (f, w, 1) (("closed", k) : StD) t = if k + 1 < f then (("closed", k + 1) : StD) else ("open", t) := (if_pos hp).trans (badS_closed rfl)
    rw [decide_eq_true hp, en]
    show _ = (p && (if k + 1 < f then fitC f w (k + 1) r else fitR w t r))
    cases p with
    | false =>
      rw [Bool.false_and]
      exact decide_eq_false fun h => by simp at h
    | true =>
      rw [Bool.true_and]
      by_cases c : k + 1 < f
      · rw [if_pos c, if_pos c, ← lg_closed f w r (k + 1), decide_eq_decide]
        simp
      · rw [if_neg c, if_neg c, ← lg_open f w r t, decide_eq_decide]
        simp
/-- the last time that was passed -/
def latA (o : Option Int) : Lg → Option Int
  | [] => o
  | (t, p) :: r => latA (if p then some t else o) r
theorem latA_app : ∀ (xs : Lg) (o : Option Int) (t : Int) (p : Bool), latA o (xs ++ [(t, p)]) = if p then some t else latA o xs
  | [], _, _, _ => rfl
  | (t', p') :: r, o, t, p => latA_app r _ t p
theorem latA_some : ∀ (xs : Lg) (u : Int), ∃ v, latA (some u) xs = some v
  | [], u => ⟨u, rfl⟩
  | (t, p) :: r, u => by
    show ∃ v, latA (if p then some t else some u) r = some v
    cases p
    · exact latA_some r u
    · exact latA_some r t
def aheadG (ps : Lg) : Nat := (ps.takeWhile (·.2)).length
def uG (ps : Lg) (f : Nat) : Int := (latA none (ps.take f)).getD 0
def bnG (ps : Lg) (f : Nat) : Int × Int := bndR (uG ps f) (ps.drop f)
def exF (ps : Lg) (f : Nat) : List Tri := if f ≤ aheadG ps ∧ (bnG ps f).1 ≤ (bnG ps f).2 then [((f : Int), (bnG ps f).1, (bnG ps f).2)] else []
def exRev (ps : Lg) (i : Nat) : List Tri := (List.range i).flatMap fun j => exF ps (ps.length - j)
def exUp (ps : Lg) (i : Nat) : List Tri := (List.range i).flatMap fun j => exF ps (j + 1)
def exG (ps : Lg) : List Tri := if ps = [] then [(1, 1, mtE)] else exUp ps ps.length
theorem exF_rev (ps : Lg) (f : Nat) : (exF ps f).reverse = exF ps f := by
  unfold exF
  split <;> rfl
theorem exF_len (ps : Lg) (f : Nat) : (exF ps f).length ≤ 1 := by
  unfold exF
  split
  · exact Nat.le_refl _
  · exact Nat.zero_le _
theorem ex_rev (ps : Lg) : ∀ i : Nat, i ≤ ps.length → (exRev ps i).reverse = (List.range i).flatMap fun j => exF ps (ps.length - i + j + 1)
  | 0, _ => rfl
  | i + 1, h => by
    have ih := ex_rev ps i (by omega)
    unfold exRev at ih ⊢
    have e1 : (List.range (i + 1)).flatMap (fun j => exF ps (ps.length - j)) = (List.range i).flatMap (fun j => exF ps (ps.length - j)) ++ exF ps (ps.length - i) := by
      rw [List.range_succ, List.flatMap_append]
      simp
    rw [e1, List.reverse_append, ih, exF_rev, List.range_succ_eq_map, List.flatMap_cons, List.flatMap_map]
    congr 1
    · congr 1
      omega
    · refine congrArg (fun g => List.flatMap g (List.range i)) (funext fun j => ?_)
      congr 1
      show ps.length - i + j + 1 = ps.length - (i + 1) + (j + 1) + 1
      omega
theorem ex_all (ps : Lg) : (exRev ps ps.length).reverse = exUp ps ps.length := by
  rw [ex_rev ps ps.length (Nat.le_refl _)]
  unfold exUp
  refine congrArg (fun g => List.flatMap g (List.range ps.length)) (funext fun j => ?_)
  congr 1
  omega
theorem exRev_succ (ps : Lg) (i : Nat) : exRev ps (i + 1) = exRev ps i ++ exF ps (ps.length - i) := by
  unfold exRev
  rw [List.range_succ, List.flatMap_append]
  simp
theorem exUp_succ (ps : Lg) (i : Nat) : exUp ps (i + 1) = exUp ps i ++ exF ps (i + 1) := by
  unfold exUp
  rw [List.range_succ, List.flatMap_append]
  simp
theorem exRev_len (ps : Lg) : ∀ i : Nat, (exRev ps i).length ≤ i
  | 0 => Nat.le_refl _
  | i + 1 => by
    rw [exRev_succ, List.length_append]
    have := exRev_len ps i
    have := exF_len ps (ps.length - i)
    omega
theorem exUp_len (ps : Lg) : ∀ i : Nat, (exUp ps i).length ≤ i
  | 0 => Nat.le_refl _
  | i + 1 => by
    rw [exUp_succ, List.length_append]
    have := exUp_len ps i
    have := exF_len ps (i + 1)
    omega
theorem ahead_all {ps : Lg} {f : Nat} : f ≤ ps.length → ((ps.take f).all (·.2) = true ↔ f ≤ aheadG ps) := by
  induction ps generalizing f with
  | nil =>
    intro h
    have : f = 0 := Nat.le_zero.mp h
    subst this
    simp [aheadG]
  | cons p r ih =>
    intro h
    cases f with
    | zero => simp
    | succ f =>
      have := ih (f := f) (Nat.le_of_succ_le_succ h)
      unfold aheadG at this ⊢
      rw [List.take_succ_cons, List.all_cons, List.takeWhile_cons]
      cases p.2 with
      | true =>
        simp only [Bool.true_and, if_true, List.length_cons]
        rw [this]
        omega
      | false => simp
theorem ahead_le (ps : Lg) : aheadG ps ≤ ps.length := by
  unfold aheadG
  exact (List.takeWhile_sublist _).length_le
/-- behind a step of the program's loop -/
theorem bn_step {ps : Lg} {f : Nat} {t : Int} {p : Bool} (hf : ps[f]? = some (t, p)) (f1 : 1 ≤ f) (h0 : 1 ≤ aheadG ps) : bnG ps f = nar (bnG ps (f + 1)) (t - uG ps f) p ∧ ∃ v, latA none (ps.take f) = some v ∧ uG ps f = v := by
  have fl := (List.getElem?_eq_some_iff.mp hf).1
  have et : ps.take (f + 1) = ps.take f ++ [(t, p)] := by rw [List.take_add_one, hf]; rfl
  have ed : ps.drop f = (t, p) :: ps.drop (f + 1) := by
    rw [List.drop_eq_getElem_cons fl]
    congr 1
    exact (List.getElem?_eq_some_iff.mp hf).2
  have hs : ∃ v, latA none (ps.take f) = some v := by
    cases ps with
    | nil => cases hf
    | cons q r =>
      obtain ⟨t0, p0⟩ := q
      cases f with
      | zero => omega
      | succ f =>
        have : p0 = true := by
          unfold aheadG at h0
          rw [List.takeWhile_cons] at h0
          cases p0
          · simp at h0
          · rfl
        subst this
        exact latA_some (r.take f) t0
  obtain ⟨v, hv⟩ := hs
  have hu : uG ps f = v := by unfold uG; rw [hv]; rfl
  refine ⟨?_, v, hv, hu⟩
  have e1 : uG ps (f + 1) = if p then t else uG ps f := by
    rw [hu]
    unfold uG
    rw [et, latA_app, hv]
    cases p <;> rfl
  unfold bnG
  rw [ed, e1]
  rfl
theorem bn_end (ps : Lg) : bnG ps ps.length = (1, mtE) := by
  unfold bnG
  rw [List.drop_length]
  rfl
/-- a breaker with f failures, by its place -/
theorem fitC_at {f : Nat} {w : Int} : ∀ (ps : Lg) (k : Nat), k < f → fitC (f : Int) w (k : Int) ps = ((ps.take (f - k)).all (·.2) && (if f - k ≤ ps.length then fitR w ((ps.getD (f - k - 1) (0, true)).1) (ps.drop (f - k)) else true))
  | [], k, h => by
    have : ¬ f - k ≤ ([] : Lg).length := fun z => by have := Nat.le_zero.mp z; omega
    rw [if_neg this]
    simp [fitC]
  | (t, p) :: r, k, h => by
    obtain ⟨m, hm⟩ : ∃ m, f - k = m + 1 := ⟨f - k - 1, by omega⟩
    show (p && (if (k : Int) + 1 < f then fitC f w ((k : Int) + 1) r else fitR w t r)) = _
    rw [hm, List.take_succ_cons, List.all_cons, List.drop_succ_cons, Bool.and_assoc]
    congr 1
    by_cases c : (k : Int) + 1 < f
    · rw [if_pos c]
      have ih := fitC_at (f := f) (w := w) r (k + 1) (by omega)
      rw [show f - (k + 1) = m by omega, show (((k + 1 : Nat)) : Int) = (k : Int) + 1 by omega] at ih
      rw [ih]
      congr 1
      obtain ⟨m', hm'⟩ : ∃ m', m = m' + 1 := ⟨m - 1, by omega⟩
      subst hm'
      rw [List.length_cons]
      by_cases d : m' + 1 ≤ r.length
      · rw [if_pos d, if_pos (show m' + 1 + 1 ≤ r.length + 1 by omega)]
        congr 1
      · rw [if_neg d, if_neg (show ¬ m' + 1 + 1 ≤ r.length + 1 by omega)]
    · rw [if_neg c]
      have m0 : m = 0 := by omega
      subst m0
      rw [if_pos (by rw [List.length_cons]; omega)]
      simp
theorem latA_all : ∀ (xs : Lg) (o : Option Int) (q : Int × Bool), (xs ++ [q]).all (·.2) = true → latA o (xs ++ [q]) = some q.1
  | xs, o, (t, p), h => by
    rw [latA_app]
    rw [List.all_append] at h
    have : p = true := by
      have := (Bool.and_eq_true_iff.mp h).2
      simpa using this
    rw [this]
    rfl
/-- which waits fit with f failures -/
theorem fitC_bn {ps : Lg} {f : Nat} {w : Int} (f1 : 1 ≤ f) (fl : f ≤ ps.length) (w1 : 1 ≤ w) (w2 : w ≤ mtE) : fitC (f : Int) w 0 ps = (decide (f ≤ aheadG ps) && (decide ((bnG ps f).1 ≤ w) && decide (w ≤ (bnG ps f).2))) := by
  have h := fitC_at (f := f) (w := w) ps 0 (by omega)
  rw [show ((0 : Nat) : Int) = 0 from rfl, Nat.sub_zero, if_pos fl] at h
  rw [h]
  have ha := ahead_all fl
  by_cases c : f ≤ aheadG ps
  · rw [ha.mpr c, decide_eq_true c, Bool.true_and, Bool.true_and, fit_bnd w1 w2]
    have eu : (ps.getD (f - 1) (0, true)).1 = uG ps f := by
      have hl : f - 1 < ps.length := by omega
      have e2 : ps.take f = ps.take (f - 1) ++ [ps[f - 1]] := by
        have := List.take_add_one (l := ps) (i := f - 1)
        rw [show f - 1 + 1 = f by omega, List.getElem?_eq_getElem hl] at this
        exact this
      have h3 := ha.mpr c
      rw [e2] at h3
      unfold uG
      rw [e2, latA_all _ _ _ h3, List.getD_eq_getElem?_getD, List.getElem?_eq_getElem hl]
      rfl
    rw [eu]
    rfl
  · rw [show (ps.take f).all (·.2) = false from by
      cases z : (ps.take f).all (·.2) with
      | false => rfl
      | true => exact absurd (ha.mp z) c, decide_eq_false c]
    rfl
theorem fitC_past {ps : Lg} {f w : Int} (h : (ps.length : Int) < f) : fitC f w 0 ps = ps.all (·.2) := by
  obtain ⟨n, rfl⟩ := Int.eq_ofNat_of_zero_le (show 0 ≤ f by omega)
  have := fitC_at (f := n) (w := w) ps 0 (by omega)
  rw [show ((0 : Nat) : Int) = 0 from rfl, Nat.sub_zero, if_neg (by omega), Bool.and_true, List.take_of_length_le (by omega)] at this
  exact this
/-- the bounds of the bounds -/
theorem bnd_bd {M : Int} (M0 : 0 ≤ M) : ∀ (ps : Lg) (u : Int), 0 ≤ u → (∀ p ∈ ps, 0 ≤ p.1 ∧ p.1 ≤ M) → (1 ≤ (bndR u ps).1 ∧ (bndR u ps).1 ≤ M + 1) ∧ ((bndR u ps).2 = mtE ∨ (bndR u ps).2 ≤ M)
  | [], u, _, _ => ⟨⟨Int.le_refl _, by show (1 : Int) ≤ M + 1; omega⟩, .inl rfl⟩
  | (t, p) :: r, u, u0, h => by
    have ht := h (t, p) (List.mem_cons_self ..)
    have ht1 : 0 ≤ t := ht.1
    have ht2 : t ≤ M := ht.2
    have ih := bnd_bd M0 r (if p then t else u) (by split <;> omega) fun q hq => h q (List.mem_cons_of_mem _ hq)
    show (1 ≤ (nar (bndR (if p then t else u) r) (t - u) p).1 ∧ (nar (bndR (if p then t else u) r) (t - u) p).1 ≤ M + 1) ∧ ((nar (bndR (if p then t else u) r) (t - u) p).2 = mtE ∨ (nar (bndR (if p then t else u) r) (t - u) p).2 ≤ M)
    generalize bndR (if p then t else u) r = b at ih
    obtain ⟨lo, hi⟩ := b
    obtain ⟨⟨h1, h2⟩, h3⟩ := ih
    cases p with
    | true =>
      refine ⟨⟨h1, h2⟩, ?_⟩
      show (if t - u < hi then t - u else hi) = mtE ∨ (if t - u < hi then t - u else hi) ≤ M
      split
      · exact .inr (by omega)
      · exact h3
    | false =>
      refine ⟨?_, h3⟩
      have h1 : 1 ≤ lo := h1
      have h2 : lo ≤ M + 1 := h2
      show 1 ≤ (if lo < t - u + 1 then t - u + 1 else lo) ∧ (if lo < t - u + 1 then t - u + 1 else lo) ≤ M + 1
      split <;> omega
theorem latA_nn : ∀ (xs : Lg) (o : Option Int), (∀ v, o = some v → 0 ≤ v) → (∀ p ∈ xs, 0 ≤ p.1) → ∀ v, latA o xs = some v → 0 ≤ v
  | [], o, ho, _ => ho
  | (t, p) :: r, o, ho, h => latA_nn r _ (fun v e => by
      cases p
      · exact ho v e
      · have e : some t = some v := e
        rw [← Option.some.inj e]
        exact h (t, true) (List.mem_cons_self ..)) fun q hq => h q (List.mem_cons_of_mem _ hq)
theorem uG_nn {ps : Lg} (h : ∀ p ∈ ps, 0 ≤ p.1) (f : Nat) : 0 ≤ uG ps f := by
  unfold uG
  cases z : latA none (ps.take f) with
  | none => exact Int.le_refl _
  | some v => exact latA_nn _ none (fun _ e => nomatch e) (fun p hp => h p (List.mem_of_mem_take hp)) v z
theorem bnG_bd {ps : Lg} {M : Int} (M0 : 0 ≤ M) (h : ∀ p ∈ ps, 0 ≤ p.1 ∧ p.1 ≤ M) (f : Nat) : (1 ≤ (bnG ps f).1 ∧ (bnG ps f).1 ≤ M + 1) ∧ ((bnG ps f).2 = mtE ∨ (bnG ps f).2 ≤ M) :=
  bnd_bd M0 _ _ (uG_nn (fun p hp => (h p hp).1) f) fun p hp => h p (List.mem_of_mem_drop hp)
/-! ### breakers that explain a log: the program -/
def gpV : Option Int → V
  | none => .non
  | some c => .int c
def gapL (ps : Lg) : List (Option Int) := (List.range ps.length).map fun i => (latA none (ps.take i)).map fun u => (ps.getD i (0, true)).1 - u
theorem gapL_at {ps : Lg} {i : Nat} {t : Int} {p : Bool} (h : ps[i]? = some (t, p)) : (gapL ps)[i]? = some ((latA none (ps.take i)).map fun u => t - u) := by
  have hl := (List.getElem?_eq_some_iff.mp h).1
  unfold gapL
  rw [List.getElem?_map, List.getElem?_range hl]
  show some ((latA none (ps.take i)).map fun u => (ps.getD i (0, true)).1 - u) = _
  rw [List.getD_eq_getElem?_getD, h]
  rfl
structure OkLog (ps : Lg) : Prop where
  asc : Asc 0 (ps.map (·.1))
  ln : ps.length ≤ 1000
theorem asc_nn : ∀ {lo : Int} {ns : List Int}, 0 ≤ lo → Asc lo ns → ∀ t ∈ ns, 0 ≤ t
  | _, [], _, _, t, h => nomatch h
  | lo, x :: r, l0, ⟨h1, h2⟩, t, h => by
    rcases List.mem_cons.mp h with rfl | h
    · omega
    · exact asc_nn (by omega) h2 t h
def spIsEnt : Sp := fun vs H Q _ => ∃ x p, vs = [x] ∧ LgAt H x p ∧ 0 ≤ p.1 ∧ Q (.bl true) H
def spChkL : Sp := fun vs H Q _ => ∃ a xs ps, vs = [.ref a] ∧ H a = some (.lst xs) ∧ Lgs H xs ps ∧ OkLog ps ∧ ∀ H', Same H H' → Q .non H'
def spAhead : Sp := fun vs H Q _ => ∃ a xs ps, vs = [.ref a] ∧ H a = some (.lst xs) ∧ Lgs H xs ps ∧ ps.length ≤ 1000 ∧ ∀ H', Same H H' → Q (.int (aheadG ps : Int)) H'
def spGaps : Sp := fun vs H Q _ => ∃ a xs ps, vs = [.ref a] ∧ H a = some (.lst xs) ∧ Lgs H xs ps ∧ ps.length ≤ 1001 ∧ ∀ l H', H' l = some (.lst ((gapL ps).map gpV)) → Same H H' → H l = none → Q (.ref l) H'
def spNar : Sp := fun vs H Q _ => ∃ T b g p, vs = [.ref T, .int g, .bl p] ∧ H T = some (.tup [.int b.1, .int b.2]) ∧ ∀ T' H', H' T' = some (.tup [.int (nar b g p).1, .int (nar b g p).2]) → Same H H' → Q (.ref T') H'
def spExpl : Sp := fun vs H Q _ => ∃ a xs ps, vs = [.ref a] ∧ H a = some (.lst xs) ∧ Lgs H xs ps ∧ OkLog ps ∧ ∀ l ys H', H' l = some (.lst ys) → Brs H' ys (exG ps) → Same H H' → H l = none → Q (.ref l) H'
theorem ahead_at : ∀ {ps : Lg} {i : Nat} {t : Int}, ps[i]? = some (t, false) → (∀ q ∈ ps.take i, q.2 = true) → aheadG ps = i
  | [], i, t, h, _ => by cases h
  | q :: r, 0, t, h, _ => by
    have h := Option.some.inj h
    rw [h]
    rfl
  | q :: r, i + 1, t, h, k => by
    have hq := k q (by rw [List.take_succ_cons]; exact List.mem_cons_self ..)
    have ih := ahead_at (ps := r) (i := i) (t := t) h fun q hq => k q (by rw [List.take_succ_cons]; exact List.mem_cons_of_mem _ hq)
    unfold aheadG at ih ⊢
    rw [List.takeWhile_cons, if_pos hq, List.length_cons, ih]
theorem ahead_full : ∀ {ps : Lg}, (∀ q ∈ ps, q.2 = true) → aheadG ps = ps.length
  | [], _ => rfl
  | q :: r, k => by
    have hq := k q (List.mem_cons_self ..)
    have ih := ahead_full (ps := r) fun q hq => k q (List.mem_cons_of_mem _ hq)
    unfold aheadG at ih ⊢
    rw [List.takeWhile_cons, if_pos hq, List.length_cons, ih, List.length_cons]
theorem paired_rev {α β : Type} {F : α → β → Prop} : ∀ {xs : List α} {ys : List β}, Paired F xs ys → Paired F xs.reverse ys.reverse
  | _, _, .nil => .nil
  | _, _, .cons h t => by
    rw [List.reverse_cons, List.reverse_cons]
    exact paired_app (paired_rev t) (.cons h .nil)
section
variable {P : Program} {w : World} {K : PySem.W.Frag} {mg : Str → Option Value} {base : Heap} {L : LA}
abbrev N_isentry : List Str := ["value", "time", "passed"]
theorem sc_isentry : FnScope N_isentry ["value"] (defScope st_is_entry) := ⟨rfl, rfl, rfl, by decide +kernel, rfl, by decide +kernel, by decide +kernel⟩
theorem fn_isentry (T : LX K mg L) {fd : FuncData} (F : Fun K "is_entry" "is_entry" st_is_entry L.f_is_entry fd) : FnOk P w K mg base CX0 3 L.f_is_entry fd ["value"] (spIsEnt) := by
  have G_isatleast := ok_isatleast (P := P) (w := w) (base := base) T
  have nd := sc_isentry.nd
  refine F.ok sc_isentry (fun vs H Q E h => ?_) (fun cdv A outer S H vs Q E hr h => ?_)
  · obtain ⟨x, p, rfl, _⟩ := h
    rfl
  · obtain ⟨x, p, rfl, ⟨a, rfl, ha⟩, h0, k⟩ := h
    refine ⟨_, (pss_cons (ps_if (PW.pt (pw_or (pt_not (pt_val (pe_callB call_isi (by rfl) T.b_isinstance (by decide +kernel) (pa_cons (pv 0) (pa_cons (pe_bltn (by rfl) T.b_tuple (by decide +kernel : bootBuiltins "tuple" = some (.type "tuple")) (v := .ty "tuple") rfl) pa_nil))))) (pw_or1 (pt_cmpR op_ne (pe_callB call_len_seq (by rfl) T.b_len PySem.boot_len (pa_cons (pv 0) pa_nil)) pe_int (nomark _))))) (pss_one (ps_ret pe_bl)) pss_nil)
       (pss_cons (ps_asg (pv 0) (pg_tup rfl (pgs_cons (pg_name (i := 1) nd rfl (Or.inl rfl)) (pgs_cons (pg_name (i := 2) nd rfl (Or.inl rfl)) pgs_nil))))
       (pss_one (ps_ret (pe_and (pe_c G_isatleast (hr.mono (by decide)) rfl (pa_cons (pv 1) (pa_cons pe_int pa_nil))) (pe_one (pe_callB call_isi (by rfl) T.b_isinstance (by decide +kernel) (pa_cons (pv 2) (pa_cons (pe_bltn (by rfl) T.b_bool (by decide +kernel : bootBuiltins "bool" = some (.type "bool")) (v := .ty "bool") rfl) pa_nil))))))))), ?_⟩
    refine ⟨_, rfl, _, .ty "tuple", _, _, _, rfl, .ty "tuple", (Kd.tup ha).ty, (Kd.tup ha).kit "tuple" _ (.inr ⟨by decide, by decide, rfl⟩), _, rfl, iteF ?_⟩
    refine ⟨_, rfl, a, _, rfl, .inr (SqT.of ha), rfl, _, rfl, iteF ?_⟩
    refine ⟨_, rfl, a, _, rfl, SqT.of ha, rfl, _, _, rfl, _, _, rfl, rfl, ?_⟩
    refine ⟨_, rfl, _, _, _, rfl, .int _, _, rfl, ?_⟩
    show if (decide ((0 : Int) ≤ p.1)) = true then _ else _
    rw [decide_eq_true h0]
    refine iteT ⟨_, rfl, _, .ty "bool", _, _, _, rfl, .ty "bool", (Kd.bl (H := H) p.2).ty, (Kd.bl (H := H) p.2).kit "bool" _ (.inr ⟨by decide, by decide, rfl⟩), k⟩
theorem ok_isentry (T : LX K mg L) : Cal P w K mg base "is_entry" 3 L.f_is_entry ["value"] (spIsEnt) := T.d_is_entry.cal fun fd F => fn_isentry T F
abbrev N_checklog : List Str := ["log", "latest", "at", "entry"]
theorem sc_checklog : FnScope N_checklog ["log"] (defScope st_check_log) := ⟨rfl, rfl, rfl, by decide +kernel, rfl, by decide +kernel, by decide +kernel⟩
theorem fn_checklog (T : LX K mg L) {fd : FuncData} (F : Fun K "check_log" "check_log" st_check_log L.f_check_log fd) : FnOk P w K mg base CX0 4 L.f_check_log fd ["log"] (spChkL) := by
  obtain ⟨tk_MOST_ENTRIES, c_MOST_ENTRIES⟩ := T.n_MOST_ENTRIES
  have G_isentry := ok_isentry (P := P) (w := w) (base := base) T
  have nd := sc_checklog.nd
  refine F.ok sc_checklog (fun vs H Q E h => ?_) (fun cdv A outer S H vs Q E hr h => ?_)
  · obtain ⟨a, xs, ps, rfl, _⟩ := h
    rfl
  · obtain ⟨a, xs, ps, rfl, ha, hx, ok, k⟩ := h
    refine ⟨_, (pss_cons (ps_if (PW.pt (pw_or (pt_not (pt_val (pe_callB call_isi (by rfl) T.b_isinstance (by decide +kernel) (pa_cons (pv 0) (pa_cons (pe_bltn (by rfl) T.b_list (by decide +kernel : bootBuiltins "list" = some (.type "list")) (v := .ty "list") rfl) pa_nil))))) (pw_or1 (pt_cmpR op_gt (pe_callB call_len_seq (by rfl) T.b_len PySem.boot_len (pa_cons (pv 0) pa_nil)) (pe_gI c_MOST_ENTRIES) (nomark _))))) (pss_one (ps_never)) pss_nil)
       (pss_cons (ps_set (i := 1) nd rfl (Or.inl rfl) (pe_un un_neg pe_int))
       (pss_one (ps_for PassesOwn.never rfl (pi_enum (by rfl) T.b_enumerate (pa_cons (pv 0) pa_nil)) (pg_tup rfl (pgs_cons (pg_name (i := 2) nd rfl (Or.inl rfl)) (pgs_cons (pg_name (i := 3) nd rfl (Or.inl rfl)) pgs_nil))) (pss_cons (ps_if (PW.pt (pw_or (pt_not (pt_val (pe_c G_isentry (hr.mono (by decide)) rfl (pa_cons (pv 3) pa_nil)))) (pw_or1 (pt_cmpR op_le (pe_ix (r := rIxT K) ix_tup (pv 3) pe_int (fun _ _ => rfl)) (pv 1) (nomark _))))) (pss_one (ps_never)) pss_nil)
       (pss_one (ps_set (i := 1) nd rfl (Or.inl rfl) (pe_ix (r := rIxT K) ix_tup (pv 3) pe_int (fun _ _ => rfl))))))))), ?_⟩
    have xl := paired_len hx
    have ln := ok.ln
    refine ⟨_, rfl, _, .ty "list", _, _, _, rfl, .ty "list", (Kd.lst ha).ty, (Kd.lst ha).kit "list" _ (.inr ⟨by decide, by decide, rfl⟩), _, rfl, iteF ?_⟩
    refine ⟨_, rfl, a, _, rfl, .inl (SqL.of ha), _, _, rfl, rfl, _, rfl, ?_⟩
    have hn : ¬ ((1000 : Int) < (xs.length : Nat)) := by omega
    rw [decide_eq_false hn]
    refine iteF ⟨1, rfl, ?_⟩
    refine ⟨_, rfl, a, xs, rfl, SqL.of ha, for_enum (K := K) (a := a) (xs := xs) (fun i σ H2 => ∃ u v : Option V, σ = [some (.ref a), some (.int (lstG 0 ((ps.map (·.1)).take i) - 1)), u, v] ∧ Same H H2) ⟨none, none, rfl, Same.refl H⟩ (fun i σ H2 _ ⟨_, _, _, s2⟩ => SqL.of (s2 _ _ ha)) ?_ ?_⟩
    · rintro i x T' σ H2 hxi ⟨u, v, rfl, s2⟩ hT
      obtain ⟨p, hp, hox⟩ := paired_get hx hxi
      have hpt : (ps.map (·.1))[i]? = some p.1 := by rw [List.getElem?_map, hp]; rfl
      have at' := asc_take ok.asc hpt
      have nn := asc_nn (Int.le_refl 0) ok.asc p.1 (List.mem_of_getElem? hpt)
      have s3 : Same H (upd H2 T' (.tup [.int (i : Nat), x])) := s2.trans (Same.upd hT)
      obtain ⟨c, rfl, hc⟩ := hox
      have hc3 := s3 _ _ hc
      refine ⟨T', _, rfl, SqT.of upd_same, rfl, _, _, rfl, _, _, rfl, rfl, ?_⟩
      refine ⟨_, rfl, .ref c, p, rfl, ⟨c, rfl, hc3⟩, nn, _, rfl, iteF ?_⟩
      refine ⟨_, rfl, c, _, 0, .int p.1, rfl, rfl, SqT.of hc3, rfl, _, rfl, _, _, rfl, rfl, _, rfl, ?_⟩
      rw [decide_eq_false (show ¬ p.1 ≤ lstG 0 ((ps.map (·.1)).take i) - 1 by omega)]
      have el : lstG 0 ((ps.map (·.1)).take (i + 1)) - 1 = p.1 := by
        rw [List.take_add_one, hpt]
        show lstG 0 ((ps.map (·.1)).take i ++ [p.1]) - 1 = p.1
        rw [lst_app, Int.add_sub_cancel]
      rw [el]
      exact iteF ⟨_, rfl, c, _, 0, .int p.1, rfl, rfl, SqT.of hc3, rfl, _, _, rfl, s3⟩
    · rintro σ H2 ⟨u, v, rfl, s2⟩
      exact k H2 s2
theorem ok_checklog (T : LX K mg L) : Cal P w K mg base "check_log" 4 L.f_check_log ["log"] (spChkL) := T.d_check_log.cal fun fd F => fn_checklog T F
abbrev N_passesahead : List Str := ["log", "at", "entry"]
theorem sc_passesahead : FnScope N_passesahead ["log"] (defScope st_passes_ahead) := ⟨rfl, rfl, rfl, by decide +kernel, rfl, by decide +kernel, by decide +kernel⟩
theorem fn_passesahead (T : LX K mg L) {fd : FuncData} (F : Fun K "passes_ahead" "passes_ahead" st_passes_ahead L.f_passes_ahead fd) : FnOk P w K mg base CX0 1 L.f_passes_ahead fd ["log"] (spAhead) := by
  have nd := sc_passesahead.nd
  refine F.ok sc_passesahead (fun vs H Q E h => ?_) (fun cdv A outer S H vs Q E hr h => ?_)
  · obtain ⟨a, xs, ps, rfl, _⟩ := h
    rfl
  · obtain ⟨a, xs, ps, rfl, ha, hx, ln, k⟩ := h
    refine ⟨_, (pss_cons (ps_for PassesOwn.never rfl (pi_enum (by rfl) T.b_enumerate (pa_cons (pv 0) pa_nil)) (pg_tup rfl (pgs_cons (pg_name (i := 1) nd rfl (Or.inl rfl)) (pgs_cons (pg_name (i := 2) nd rfl (Or.inl rfl)) pgs_nil))) (pss_one (ps_if (pt_not (pt_val (pe_ix (r := rIxT K) ix_tup (pv 2) pe_int (fun _ _ => rfl)))) (pss_one (ps_ret (pv 1))) pss_nil)))
       (pss_one (ps_ret (pe_callB call_len_seq (by rfl) T.b_len PySem.boot_len (pa_cons (pv 0) pa_nil))))), ?_⟩
    have xl := paired_len hx
    refine ⟨_, rfl, a, xs, rfl, SqL.of ha, for_enum (K := K) (a := a) (xs := xs) (fun i σ H2 => ∃ u v : Option V, σ = [some (.ref a), u, v] ∧ Same H H2 ∧ ∀ q ∈ ps.take i, q.2 = true) ⟨none, none, rfl, Same.refl H, fun q h => by simp at h⟩ (fun i σ H2 _ ⟨_, _, _, s2, _⟩ => SqL.of (s2 _ _ ha)) ?_ ?_⟩
    · rintro i x T' σ H2 hxi ⟨u, v, rfl, s2, hall⟩ hT
      obtain ⟨⟨t, p⟩, hp, c, rfl, hc⟩ := paired_get hx hxi
      have s3 : Same H (upd H2 T' (.tup [.int (i : Nat), .ref c])) := s2.trans (Same.upd hT)
      have hc3 := s3 _ _ hc
      refine ⟨T', _, rfl, SqT.of upd_same, rfl, _, _, rfl, _, _, rfl, rfl, ?_⟩
      refine ⟨_, rfl, c, _, 1, .bl p, rfl, rfl, SqT.of hc3, rfl, _, rfl, ?_⟩
      cases p with
      | true =>
        refine iteF ⟨_, _, rfl, s3, fun q h => ?_⟩
        rw [List.take_add_one, hp] at h
        rcases List.mem_append.mp h with h | h
        · exact hall q h
        · have : q = (t, true) := by simpa using h
          rw [this]
      | false =>
        refine iteT ⟨_, rfl, ?_⟩
        have := k _ s3
        rw [ahead_at hp hall] at this
        exact this
    · rintro σ H2 ⟨u, v, rfl, s2, hall⟩
      rw [xl, List.take_length] at hall
      have := k _ s2
      rw [ahead_full hall, ← xl] at this
      exact ⟨_, rfl, a, _, rfl, .inl (SqL.of (s2 _ _ ha)), this⟩
theorem ok_passesahead (T : LX K mg L) : Cal P w K mg base "passes_ahead" 1 L.f_passes_ahead ["log"] (spAhead) := T.d_passes_ahead.cal fun fd F => fn_passesahead T F
abbrev N_gapsof : List Str := ["log", "gaps", "latest", "time", "passed"]
theorem sc_gapsof : FnScope N_gapsof ["log"] (defScope st_gaps_of) := ⟨rfl, rfl, rfl, by decide +kernel, rfl, by decide +kernel, by decide +kernel⟩
theorem fn_gapsof (T : LX K mg L) {fd : FuncData} (F : Fun K "gaps_of" "gaps_of" st_gaps_of L.f_gaps_of fd) : FnOk P w K mg base CX0 1 L.f_gaps_of fd ["log"] (spGaps) := by
  have nd := sc_gapsof.nd
  refine F.ok sc_gapsof (fun vs H Q E h => ?_) (fun cdv A outer S H vs Q E hr h => ?_)
  · obtain ⟨a, xs, ps, rfl, _⟩ := h
    rfl
  · obtain ⟨a, xs, ps, rfl, ha, hx, ln, k⟩ := h
    refine ⟨_, (pss_cons (ps_set (i := 1) nd rfl (Or.inl rfl) (pe_lst pa_nil))
       (pss_cons (ps_set (i := 2) nd rfl (Or.inl rfl) pe_non)
       (pss_cons (ps_for PassesOwn.never rfl (pi_list (pv 0)) (pg_tup rfl (pgs_cons (pg_name (i := 3) nd rfl (Or.inl rfl)) (pgs_cons (pg_name (i := 4) nd rfl (Or.inl rfl)) pgs_nil))) (pss_cons (ps_expr (pe_bm PySem.F.plainAttrs_list PySem.F.slot_list_append PySem.F.type_list_append mt_append (pv 1) (pa_cons (pe_ifExp (pt_cmp (pc_isN (pv 2))) pe_non (pe_op op_sub (pv 3) (pv 2))) pa_nil)))
       (pss_one (ps_if (pt_val (pv 4)) (pss_one (ps_set (i := 2) nd rfl (Or.inl rfl) (pv 3))) pss_nil))))
       (pss_one (ps_ret (pv 1)))))), ?_⟩
    have xl := paired_len hx
    refine ⟨(by show 0 ≤ sizeLine; decide), fun l nl => ⟨_, rfl, a, rfl, ⟨_, SqL.of ((Same.upd nl) _ _ ha)⟩, ?_⟩⟩
    refine for_list (K := K) (a := a) (xs := xs) (fun i σ Hx => ∃ v3 v4 : Option V, σ = [some (.ref a), some (.ref l), some (gpV (latA none (ps.take i))), v3, v4] ∧ Hx l = some (.lst (((gapL ps).take i).map gpV)) ∧ Same H Hx) ⟨none, none, rfl, upd_same, Same.upd nl⟩ (fun i σ Hx _ ⟨_, _, _, _, sx⟩ => SqL.of (sx _ _ ha)) ?_ ?_
    · rintro i x σ Hx hxi ⟨v3, v4, rfl, hl, sx⟩
      obtain ⟨⟨t, p⟩, hp, c, rfl, hc⟩ := paired_get hx hxi
      have hc3 := sx _ _ hc
      have hg := gapL_at hp
      have et : ps.take (i + 1) = ps.take i ++ [(t, p)] := by rw [List.take_add_one, hp]; rfl
      have eg : (gapL ps).take (i + 1) = (gapL ps).take i ++ [(latA none (ps.take i)).map fun u => t - u] := by rw [List.take_add_one, hg]; rfl
      have gl : (((gapL ps).take i).map gpV).length ≤ 1001 := by
        have hi := (List.getElem?_eq_some_iff.mp hxi).1
        rw [List.length_map, List.length_take]
        omega
      refine ⟨c, _, rfl, SqT.of hc3, rfl, _, _, rfl, _, _, rfl, rfl, ?_⟩
      rw [eg, et, latA_app]
      generalize latA none (ps.take i) = o at hl ⊢
      have fin : ∀ H1 : Hp, H1 l = some (.lst (((gapL ps).take i).map gpV ++ [gpV (o.map fun u => t - u)])) → (∀ b u, H b = some u → H1 b = some u) → H1 l = some (.lst (((gapL ps).take i ++ [o.map fun u => t - u]).map gpV)) ∧ Same H H1 := fun H1 h1 h2 => ⟨by rw [h1, List.map_append]; rfl, h2⟩
      have kp : ∀ b u, H b = some u → (upd Hx l (.lst (((gapL ps).take i).map gpV ++ [gpV (o.map fun u => t - u)]))) b = some u := fun b u e => by
        rw [upd_ne (ne_of_none e nl)]
        exact sx _ _ e
      have h1 := fin _ upd_same kp
      refine ⟨_, rfl, .inl ⟨rfl, _, SqL.of hl⟩, ?_⟩
      cases o with
      | none =>
        refine ⟨_, rfl, _, rfl, iteT ⟨l, _, .non, rfl, rfl, hl, small1 (by omega), _, rfl, _, rfl, ?_⟩⟩
        cases p with
        | true => exact iteT ⟨_, rfl, _, _, rfl, h1⟩
        | false => exact iteF ⟨_, _, rfl, h1⟩
      | some u =>
        refine ⟨_, rfl, _, rfl, iteF ⟨_, rfl, _, rfl, _, _, rfl, rfl, l, _, .int (t - u), rfl, rfl, hl, small1 (by omega), _, rfl, _, rfl, ?_⟩⟩
        cases p with
        | true => exact iteT ⟨_, rfl, _, _, rfl, h1⟩
        | false => exact iteF ⟨_, _, rfl, h1⟩
    · rintro σ Hx ⟨v3, v4, rfl, hl, sx⟩
      rw [xl, List.take_of_length_le (by unfold gapL; rw [List.length_map, List.length_range]; exact Nat.le_refl _)] at hl
      exact ⟨_, rfl, k l Hx hl sx nl⟩
theorem ok_gapsof (T : LX K mg L) : Cal P w K mg base "gaps_of" 1 L.f_gaps_of ["log"] (spGaps) := T.d_gaps_of.cal fun fd F => fn_gapsof T F
abbrev N_narrowed : List Str := ["bounds", "gap", "passed", "low", "high"]
theorem sc_narrowed : FnScope N_narrowed ["bounds", "gap", "passed"] (defScope st_narrowed) := ⟨rfl, rfl, rfl, by decide +kernel, rfl, by decide +kernel, by decide +kernel⟩
theorem fn_narrowed (T : LX K mg L) {fd : FuncData} (F : Fun K "narrowed" "narrowed" st_narrowed L.f_narrowed fd) : FnOk P w K mg base CX0 1 L.f_narrowed fd ["bounds", "gap", "passed"] (spNar) := by
  have nd := sc_narrowed.nd
  refine F.ok sc_narrowed (fun vs H Q E h => ?_) (fun cdv A outer S H vs Q E hr h => ?_)
  · obtain ⟨T0, b, g, p, rfl, _⟩ := h
    rfl
  · obtain ⟨T0, b, g, p, rfl, hT, k⟩ := h
    refine ⟨_, (pss_cons (ps_asg (pv 0) (pg_tup rfl (pgs_cons (pg_name (i := 3) nd rfl (Or.inl rfl)) (pgs_cons (pg_name (i := 4) nd rfl (Or.inl rfl)) pgs_nil))))
       (pss_cons (ps_if (pt_val (pv 2)) (pss_one (ps_ret (pe_tup (pa_cons (pv 3) (pa_cons (pe_callB (call_min2 rfl) (by rfl) T.b_min (by decide +kernel) (pa_cons (pv 4) (pa_cons (pv 1) pa_nil))) pa_nil))))) pss_nil)
       (pss_one (ps_ret (pe_tup (pa_cons (pe_callB (call_max2 rfl) (by rfl) T.b_max (by decide +kernel) (pa_cons (pv 3) (pa_cons (pe_op op_add (pv 1) pe_int) pa_nil))) (pa_cons (pv 4) pa_nil))))))), ?_⟩
    refine ⟨_, rfl, T0, _, rfl, SqT.of hT, rfl, _, _, rfl, _, _, rfl, rfl, ?_⟩
    cases p with
    | true =>
      refine ⟨_, rfl, _, rfl, iteT ⟨_, rfl, _, rfl, _, rfl, _, _, rfl, (by show 2 ≤ sizeLine; decide), fun T1 h1 => ?_⟩⟩
      exact k T1 _ upd_same (Same.upd h1)
    | false =>
      refine ⟨_, rfl, _, rfl, iteF ⟨_, rfl, _, rfl, _, _, rfl, rfl, _, _, rfl, _, rfl, (by show 2 ≤ sizeLine; decide), fun T1 h1 => ?_⟩⟩
      exact k T1 _ upd_same (Same.upd h1)
theorem ok_narrowed (T : LX K mg L) : Cal P w K mg base "narrowed" 1 L.f_narrowed ["bounds", "gap", "passed"] (spNar) := T.d_narrowed.cal fun fd F => fn_narrowed T F
abbrev N_explanations : List Str := ["log", "ahead", "gaps", "bounds", "found", "failures"]
theorem sc_explanations : FnScope N_explanations ["log"] (defScope st_explanations) := ⟨rfl, rfl, rfl, by decide +kernel, rfl, by decide +kernel, by decide +kernel⟩
theorem fn_explanations (T : LX K mg L) {fd : FuncData} (F : Fun K "explanations" "explanations" st_explanations L.f_explanations fd) : FnOk P w K mg base CX0 5 L.f_explanations fd ["log"] (spExpl) := by
  have G_checklog := ok_checklog (P := P) (w := w) (base := base) T
  have G_passesahead := ok_passesahead (P := P) (w := w) (base := base) T
  have G_gapsof := ok_gapsof (P := P) (w := w) (base := base) T
  obtain ⟨tk_MOST_TIME, c_MOST_TIME⟩ := T.n_MOST_TIME
  have G_narrowed := ok_narrowed (P := P) (w := w) (base := base) T
  have nd := sc_explanations.nd
  refine F.ok sc_explanations (fun vs H Q E h => ?_) (fun cdv A outer S H vs Q E hr h => ?_)
  · obtain ⟨a, xs, ps, rfl, _⟩ := h
    rfl
  · obtain ⟨a, xs, ps, rfl, ha, hx, ok, k⟩ := h
    refine ⟨_, (pss_cons (ps_expr (pe_c G_checklog (hr.mono (by decide)) rfl (pa_cons (pv 0) pa_nil)))
       (pss_cons (ps_set (i := 1) nd rfl (Or.inl rfl) (pe_c G_passesahead (hr.mono (by decide)) rfl (pa_cons (pv 0) pa_nil)))
       (pss_cons (ps_if (pt_cmpR op_eq (pv 1) pe_int (nomark _)) (pss_one (ps_ret (pe_ifExp (pt_truth (pv 0) (fun _ => rfl)) (pe_lst pa_nil) (pe_lst (pa_cons (pe_tup (pa_cons pe_int (pa_cons pe_int (pa_cons (pe_gI c_MOST_TIME) pa_nil)))) pa_nil))))) pss_nil)
       (pss_cons (ps_set (i := 2) nd rfl (Or.inl rfl) (pe_c G_gapsof (hr.mono (by decide)) rfl (pa_cons (pv 0) pa_nil)))
       (pss_cons (ps_set (i := 3) nd rfl (Or.inl rfl) (pe_tup (pa_cons pe_int (pa_cons (pe_gI c_MOST_TIME) pa_nil))))
       (pss_cons (ps_set (i := 4) nd rfl (Or.inl rfl) (pe_lst pa_nil))
       (pss_cons (ps_for PassesOwn.never rfl (pi_range3 rfl T.b_range (pa_cons (pe_callB call_len_seq (by rfl) T.b_len PySem.boot_len (pa_cons (pv 0) pa_nil)) (pa_cons pe_int (pa_cons (pe_un un_neg pe_int) pa_nil)))) (pg_name (i := 5) nd rfl (Or.inl rfl)) (C8.pss_cut (ps_if (pt_cmpR op_lt (pv 5) (pe_callB call_len_seq (by rfl) T.b_len PySem.boot_len (pa_cons (pv 0) pa_nil)) (nomark _)) (pss_one (ps_set (i := 3) nd rfl (Or.inl rfl) (pe_c G_narrowed (hr.mono (by decide)) rfl (pa_cons (pv 3) (pa_cons (pe_ix (r := rIxL K) ix_list (pv 2) (pv 5) (fun _ _ => rfl)) (pa_cons (pe_ix (r := rIxT K) ix_tup (pe_ix (r := rIxL K) ix_list (pv 0) (pv 5) (fun _ _ => rfl)) pe_int (fun _ _ => rfl)) pa_nil)))))) pss_nil)
       (pss_one (ps_if (PW.pt (pw_and (pt_cmpR op_le (pv 5) (pv 1) (nomark _)) (pw_and1 (pt_cmpR op_le (pe_ix (r := rIxT K) ix_tup (pv 3) pe_int (fun _ _ => rfl)) (pe_ix (r := rIxT K) ix_tup (pv 3) pe_int (fun _ _ => rfl)) (nomark _))))) (pss_one (ps_expr (pe_bm PySem.F.plainAttrs_list PySem.F.slot_list_append PySem.F.type_list_append mt_append (pv 4) (pa_cons (pe_tup (pa_cons (pv 5) (pa_cons (pe_ix (r := rIxT K) ix_tup (pv 3) pe_int (fun _ _ => rfl)) (pa_cons (pe_ix (r := rIxT K) ix_tup (pv 3) pe_int (fun _ _ => rfl)) pa_nil)))) pa_nil)))) pss_nil))))
       (pss_one (ps_ret (pe_revL (pv 4))))))))))), ?_⟩
    have xl := paired_len hx
    have ln := ok.ln
    refine ⟨_, rfl, a, xs, ps, rfl, ha, hx, ok, fun H1 s1 => ?_⟩
    refine ⟨_, rfl, a, xs, ps, rfl, s1 _ _ ha, hx.same s1, ln, fun H2 s2 => ?_⟩
    have s12 := s1.trans s2
    refine ⟨_, rfl, rfl, _, rfl, ?_⟩
    refine ite2 (fun c => ?_) (fun c => ?_)
    · have c0 : aheadG ps = 0 := by have := V.int.inj (of_decide_eq_true c); omega
      cases ps with
      | nil =>
        have x0 : xs = [] := List.length_eq_zero_iff.mp xl
        subst x0
        refine ⟨_, rfl, false, .inl ⟨_, SqL.of (s12 _ _ ha), rfl⟩, iteF ⟨(by show 3 ≤ sizeLine; decide), fun t nt => ⟨(by show 1 ≤ sizeLine; decide), fun l nl => ?_⟩⟩⟩
        exact k l _ _ upd_same (.cons ⟨t, rfl, (Same.upd nl) _ _ upd_same⟩ .nil) ((s12.trans (Same.upd nt)).trans (Same.upd nl)) (none_of (s12.trans (Same.upd nt)) nl)
      | cons q r =>
        refine ⟨_, rfl, true, .inl ⟨_, SqL.of (s12 _ _ ha), ?_⟩, iteT ⟨(by show 0 ≤ sizeLine; decide), fun l nl => ?_⟩⟩
        · cases xs with
          | nil => cases xl
          | cons => rfl
        refine k l [] _ upd_same ?_ (s12.trans (Same.upd nl)) (none_of s12 nl)
        have e : exG (q :: r) = [] := by
          unfold exG
          rw [if_neg (fun z => nomatch z)]
          unfold exUp
          rw [List.flatMap_eq_nil_iff]
          intro j _
          unfold exF
          rw [if_neg (fun z => by have := z.1; omega)]
        rw [e]
        exact .nil
    have h0 : 1 ≤ aheadG ps := by
      have : ¬ aheadG ps = 0 := fun z => c (decide_eq_true (by rw [z]; rfl))
      omega
    have hl := ahead_le ps
    refine ⟨_, rfl, a, xs, ps, rfl, s12 _ _ ha, hx.same s12, by omega, fun lg H3 hg s3 nlg => ?_⟩
    have s13 := s12.trans s3
    refine ⟨(by show 2 ≤ sizeLine; decide), fun tb ntb => ⟨(by show 0 ≤ sizeLine; decide), fun lf nlf => ?_⟩⟩
    have sb := Same.upd (o := .tup [.int 1, .int 1000000000000000000000000000000]) ntb
    have sf := Same.upd (o := .lst []) nlf
    have sbf := sb.trans sf
    have s1f := s13.trans sbf
    have xal : (xs.length : Int) ≤ 1000 := by omega
    refine ⟨_, rfl, a, _, rfl, .inl (SqL.of (s1f _ _ ha)), 1, rfl, _, _, _, _, rfl, RgC.neg (by omega) (by omega) (by decide) (by decide), ?_⟩
    rw [Int.sub_zero, Int.toNat_natCast]
    refine for_rangeC (lo := (xs.length : Int)) (c := -1) (n := xs.length) (fun i σ Hx => ∃ (v5 : Option V) (b : Addr) (ys : List V), σ = [some (.ref a), some (.int (aheadG ps : Int)), some (.ref lg), some (.ref b), some (.ref lf), v5] ∧ Hx b = some (.tup [.int (bnG ps (if i = 0 then ps.length else ps.length - i + 1)).1, .int (bnG ps (if i = 0 then ps.length else ps.length - i + 1)).2]) ∧ Hx lf = some (.lst ys) ∧ Brs Hx ys (exRev ps i) ∧ Same H3 Hx)
      ⟨none, tb, [], rfl, by rw [if_pos rfl, bn_end]; exact sf _ _ upd_same, upd_same, .nil, sbf⟩ ?_ ?_
    · rintro i σ Hx hi ⟨v5, b, ys, rfl, hb, hlf, hys, sx⟩
      have ef : (xs.length : Int) + (i : Int) * -1 = ((ps.length - i : Nat) : Int) := by omega
      rw [ef]
      obtain ⟨f, hf⟩ : ∃ f, f = ps.length - i := ⟨_, rfl⟩
      rw [← hf, exRev_succ, ← hf]
      have sHx := s13.trans sx
      have hax := sHx _ _ ha
      obtain ⟨f1, f2⟩ : 1 ≤ f ∧ f ≤ ps.length := ⟨by omega, by omega⟩
      have yl := hys.len
      have yl2 := exRev_len ps i
      refine ⟨fun σ' H' => ∃ b' : Addr, σ' = [some (.ref a), some (.int (aheadG ps : Int)), some (.ref lg), some (.ref b'), some (.ref lf), some (.int (f : Int))] ∧ H' b' = some (.tup [.int (bnG ps f).1, .int (bnG ps f).2]) ∧ Same Hx H', ?_, ?_⟩
      · refine ⟨_, rfl, _, rfl, a, _, rfl, .inl (SqL.of hax), _, _, rfl, rfl, _, rfl, ?_⟩
        by_cases c0 : i = 0
        · rw [if_pos c0] at hb
          rw [decide_eq_false (show ¬ (f : Int) < (xs.length : Nat) by omega)]
          refine iteF ⟨b, rfl, ?_, Same.refl _⟩
          rw [show f = ps.length by omega]
          exact hb
        · rw [if_neg c0] at hb
          rw [decide_eq_true (show (f : Int) < (xs.length : Nat) by omega)]
          obtain ⟨x, hx1⟩ : ∃ x, xs[f]? = some x := ⟨_, List.getElem?_eq_getElem (by omega)⟩
          obtain ⟨⟨t, p⟩, hp, c, rfl, hc⟩ := paired_get hx hx1
          obtain ⟨q1, u, q2, q3⟩ := bn_step hp f1 h0
          have hgf := gapL_at hp
          rw [q2] at hgf
          have hgf2 : ((gapL ps).map gpV)[f]? = some (.int (t - u)) := by rw [List.getElem?_map, hgf]; rfl
          rw [show ps.length - i + 1 = f + 1 by omega] at hb
          refine iteT ⟨_, rfl, _, rfl, _, rfl, lg, _, (f : Int), .int (t - u), rfl, rfl, SqL.of (sx _ _ hg), atI_nat hgf2, ?_⟩
          refine ⟨_, rfl, _, rfl, a, _, (f : Int), .ref c, rfl, rfl, SqL.of hax, atI_nat hx1, c, _, 1, .bl p, rfl, rfl, SqT.of (sHx _ _ hc), rfl, ?_⟩
          refine ⟨b, bnG ps (f + 1), t - u, p, rfl, hb, fun T' H' hT sT => ⟨T', rfl, ?_, sT⟩⟩
          rw [q1, q3]
          exact hT
      rintro σ' H' ⟨b', rfl, hb', s'⟩
      have eb : (if i + 1 = 0 then ps.length else ps.length - (i + 1) + 1) = f := by rw [if_neg (Nat.succ_ne_zero i)]; omega
      rw [eb]
      have hlf' := s' _ _ hlf
      have hys' : Brs H' ys (exRev ps i) := hys.nl (NL.of s')
      have nof : ∀ q : ¬ (f ≤ aheadG ps ∧ (bnG ps f).1 ≤ (bnG ps f).2), ∃ (v5 : Option V) (b : Addr) (ys : List V), [some (V.ref a), some (V.int (aheadG ps : Int)), some (V.ref lg), some (V.ref b'), some (V.ref lf), some (V.int (f : Int))] = [some (.ref a), some (.int (aheadG ps : Int)), some (.ref lg), some (.ref b), some (.ref lf), v5] ∧ H' b = some (.tup [.int (bnG ps f).1, .int (bnG ps f).2]) ∧ H' lf = some (.lst ys) ∧ Brs H' ys (exRev ps i ++ exF ps f) ∧ Same H3 H' := fun q => by
        unfold exF
        rw [if_neg q, List.append_nil]
        exact ⟨_, _, _, rfl, hb', hlf', hys', sx.trans s'⟩
      refine ⟨_, rfl, _, rfl, _, _, rfl, rfl, _, rfl, ?_⟩
      refine ite2 (fun d1 => ?_) (fun d1 => nof fun q => d1 (decide_eq_true (by omega)))
      have d1' := of_decide_eq_true d1
      refine ⟨_, rfl, b', _, 0, .int (bnG ps f).1, rfl, rfl, SqT.of hb', rfl, _, rfl, b', _, 1, .int (bnG ps f).2, rfl, rfl, SqT.of hb', rfl, _, _, rfl, rfl, _, rfl, ?_⟩
      refine ite2 (fun d2 => ?_) (fun d2 => nof fun q => d2 (decide_eq_true q.2))
      have d2' := of_decide_eq_true d2
      refine ⟨_, rfl, .inl ⟨rfl, _, SqL.of hlf'⟩, _, rfl, _, rfl, b', _, 0, .int (bnG ps f).1, rfl, rfl, SqT.of hb', rfl, _, rfl, b', _, 1, .int (bnG ps f).2, rfl, rfl, SqT.of hb', rfl, (by show 3 ≤ sizeLine; decide), fun t3 nt3 => ?_⟩
      have s3' := Same.upd (o := .tup [.int (f : Int), .int (bnG ps f).1, .int (bnG ps f).2]) nt3
      have hlf3 := s3' _ _ hlf'
      have n6 := NL.upd (o := .lst (ys ++ [.ref t3])) hlf3
      refine ⟨lf, ys, _, rfl, rfl, hlf3, small1 (by omega), _, b', ys ++ [.ref t3], rfl, n6 _ _ (s3' _ _ hb') (fun _ z => nomatch z), upd_same, ?_, fun p o e => ?_⟩
      · unfold exF
        rw [if_pos ⟨by omega, d2'⟩]
        exact Brs.app ((hys'.nl (NL.of s3')).nl n6) (.cons ⟨t3, rfl, n6 _ _ upd_same fun _ z => nomatch z⟩ .nil)
      · rw [upd_ne (ne_of_none e (none_of sb nlf))]
        exact s3' _ _ (s' _ _ (sx _ _ e))
    · rintro σ Hx ⟨v5, b, ys, rfl, hb, hlf, hys, sx⟩
      refine ⟨_, rfl, lf, ys, rfl, SqL.of hlf, fun l nl => ?_⟩
      refine k l _ _ upd_same ?_ ((s13.trans sx).trans (Same.upd nl)) (none_of (s13.trans sx) nl)
      have e : exG ps = (exRev ps xs.length).reverse := by
        rw [xl, ex_all]
        unfold exG
        rw [if_neg (fun z => by rw [z] at h0; exact absurd h0 (by decide))]
      rw [e]
      exact paired_rev (hys.nl (NL.of (Same.upd nl)))
theorem ok_explanations (T : LX K mg L) : Cal P w K mg base "explanations" 5 L.f_explanations ["log"] (spExpl) := T.d_explanations.cal fun fd F => fn_explanations T F
end
/-! ### the first conflict of a log that a breaker explains -/
theorem nar_tight (b : Int × Int) (g : Int) (p : Bool) : b.1 ≤ (nar b g p).1 ∧ (nar b g p).2 ≤ b.2 ∧ (p = true → (nar b g p).2 ≤ g) ∧ (p = false → g + 1 ≤ (nar b g p).1) := by
  obtain ⟨lo, hi⟩ := b
  cases p with
  | true =>
    show lo ≤ lo ∧ (if g < hi then g else hi) ≤ hi ∧ (true = true → (if g < hi then g else hi) ≤ g) ∧ (true = false → _)
    refine ⟨Int.le_refl _, by split <;> omega, fun _ => by split <;> omega, fun z => nomatch z⟩
  | false =>
    show lo ≤ (if lo < g + 1 then g + 1 else lo) ∧ hi ≤ hi ∧ (false = true → _) ∧ (false = false → g + 1 ≤ (if lo < g + 1 then g + 1 else lo))
    refine ⟨by split <;> omega, Int.le_refl _, fun z => (nomatch z), fun _ => by split <;> omega⟩
theorem bn_mono {ps : Lg} (h0 : 1 ≤ aheadG ps) {a : Nat} (a1 : 1 ≤ a) : ∀ n : Nat, a + n ≤ ps.length → (bnG ps (a + n)).1 ≤ (bnG ps a).1 ∧ (bnG ps a).2 ≤ (bnG ps (a + n)).2
  | 0, _ => ⟨Int.le_refl _, Int.le_refl _⟩
  | n + 1, h => by
    obtain ⟨i1, i2⟩ := bn_mono h0 a1 n (by omega)
    obtain ⟨⟨t, p⟩, hp⟩ : ∃ q, ps[a + n]? = some q := ⟨_, List.getElem?_eq_getElem (by omega)⟩
    obtain ⟨e, _⟩ := bn_step hp (by omega) h0
    have tt := nar_tight (bnG ps (a + n + 1)) (t - uG ps (a + n)) p
    rw [← e] at tt
    exact ⟨by show (bnG ps (a + n + 1)).1 ≤ _; omega, by show _ ≤ (bnG ps (a + n + 1)).2; omega⟩
def fwd (ps : Lg) (a : Nat) : Nat → Int × Int
  | 0 => (1, mtE)
  | i + 1 => nar (fwd ps a i) ((ps.getD (a + i) (0, true)).1 - uG ps (a + i)) (ps.getD (a + i) (0, true)).2
theorem fwd_loose {ps : Lg} (h0 : 1 ≤ aheadG ps) {a : Nat} (a1 : 1 ≤ a) (al : a ≤ ps.length) : ∀ i : Nat, a + i ≤ ps.length → (fwd ps a i).1 ≤ (bnG ps a).1 ∧ (bnG ps a).2 ≤ (fwd ps a i).2
  | 0, _ => by
    have := bn_mono h0 a1 (ps.length - a) (by omega)
    rw [show a + (ps.length - a) = ps.length by omega, bn_end] at this
    exact this
  | i + 1, h => by
    obtain ⟨i1, i2⟩ := fwd_loose h0 a1 al i (by omega)
    obtain ⟨⟨t, p⟩, hp⟩ : ∃ q, ps[a + i]? = some q := ⟨_, List.getElem?_eq_getElem (by omega)⟩
    obtain ⟨e, _⟩ := bn_step hp (by omega) h0
    obtain ⟨m1, m2⟩ := bn_mono h0 a1 i (by omega)
    have eg : ps.getD (a + i) (0, true) = (t, p) := by rw [List.getD_eq_getElem?_getD, hp]; rfl
    have tt := nar_tight (bnG ps (a + i + 1)) (t - uG ps (a + i)) p
    rw [← e] at tt
    obtain ⟨_, _, t3, t4⟩ := tt
    show (nar (fwd ps a i) ((ps.getD (a + i) (0, true)).1 - uG ps (a + i)) (ps.getD (a + i) (0, true)).2).1 ≤ _ ∧ _ ≤ (nar (fwd ps a i) ((ps.getD (a + i) (0, true)).1 - uG ps (a + i)) (ps.getD (a + i) (0, true)).2).2
    rw [eg]
    show (nar (fwd ps a i) (t - uG ps (a + i)) p).1 ≤ _ ∧ _ ≤ (nar (fwd ps a i) (t - uG ps (a + i)) p).2
    generalize fwd ps a i = b at i1 i2 ⊢
    obtain ⟨lo, hi⟩ := b
    cases p with
    | true =>
      have := t3 rfl
      show lo ≤ _ ∧ _ ≤ (if t - uG ps (a + i) < hi then t - uG ps (a + i) else hi)
      refine ⟨i1, ?_⟩
      split <;> omega
    | false =>
      have := t4 rfl
      show (if lo < t - uG ps (a + i) + 1 then t - uG ps (a + i) + 1 else lo) ≤ _ ∧ _ ≤ hi
      refine ⟨?_, i2⟩
      split <;> omega
def spFcN : Sp := fun vs H Q _ => ∃ a xs ps, vs = [.ref a] ∧ H a = some (.lst xs) ∧ Lgs H xs ps ∧ OkLog ps ∧ (ps = [] ∨ (1 ≤ aheadG ps ∧ (bnG ps (aheadG ps)).1 ≤ (bnG ps (aheadG ps)).2)) ∧ ∀ H', Same H H' → Q .non H'
section
variable {P : Program} {w : World} {K : PySem.W.Frag} {mg : Str → Option Value} {base : Heap} {L : LA}
abbrev N_firstconflict : List Str := ["log", "ahead", "gaps", "bounds", "at"]
theorem sc_firstconflict : FnScope N_firstconflict ["log"] (defScope st_first_conflict) := ⟨rfl, rfl, rfl, by decide +kernel, rfl, by decide +kernel, by decide +kernel⟩
theorem fn_firstconflict (T : LX K mg L) {fd : FuncData} (F : Fun K "first_conflict" "first_conflict" st_first_conflict L.f_first_conflict fd) : FnOk P w K mg base CX0 6 L.f_first_conflict fd ["log"] (spFcN) := by
  have G_checklog := ok_checklog (P := P) (w := w) (base := base) T
  have G_passesahead := ok_passesahead (P := P) (w := w) (base := base) T
  have G_gapsof := ok_gapsof (P := P) (w := w) (base := base) T
  obtain ⟨tk_MOST_TIME, c_MOST_TIME⟩ := T.n_MOST_TIME
  have G_narrowed := ok_narrowed (P := P) (w := w) (base := base) T
  have nd := sc_firstconflict.nd
  refine F.ok sc_firstconflict (fun vs H Q E h => ?_) (fun cdv A outer S H vs Q E hr h => ?_)
  · obtain ⟨a, xs, ps, rfl, _⟩ := h
    rfl
  · obtain ⟨a, xs, ps, rfl, ha, hx, ok, hc, k⟩ := h
    refine ⟨_, (pss_cons (ps_expr (pe_c G_checklog (hr.mono (by decide)) rfl (pa_cons (pv 0) pa_nil)))
       (pss_cons (ps_set (i := 1) nd rfl (Or.inl rfl) (pe_c G_passesahead (hr.mono (by decide)) rfl (pa_cons (pv 0) pa_nil)))
       (pss_cons (ps_if (pt_cmpR op_eq (pv 1) pe_int (nomark _)) (pss_one (ps_ret (pe_ifExp (pt_truth (pv 0) (fun _ => rfl)) pe_int pe_non))) pss_nil)
       (pss_cons (ps_set (i := 2) nd rfl (Or.inl rfl) (pe_c G_gapsof (hr.mono (by decide)) rfl (pa_cons (pv 0) pa_nil)))
       (pss_cons (ps_set (i := 3) nd rfl (Or.inl rfl) (pe_tup (pa_cons pe_int (pa_cons (pe_gI c_MOST_TIME) pa_nil))))
       (pss_cons (ps_for PassesOwn.never rfl (pi_range2 rfl T.b_range (pa_cons (pv 1) (pa_cons (pe_callB call_len_seq (by rfl) T.b_len PySem.boot_len (pa_cons (pv 0) pa_nil)) pa_nil))) (pg_name (i := 4) nd rfl (Or.inl rfl)) (pss_cons (ps_set (i := 3) nd rfl (Or.inl rfl) (pe_c G_narrowed (hr.mono (by decide)) rfl (pa_cons (pv 3) (pa_cons (pe_ix (r := rIxL K) ix_list (pv 2) (pv 4) (fun _ _ => rfl)) (pa_cons (pe_ix (r := rIxT K) ix_tup (pe_ix (r := rIxL K) ix_list (pv 0) (pv 4) (fun _ _ => rfl)) pe_int (fun _ _ => rfl)) pa_nil)))))
       (pss_one (ps_if (pt_cmpR op_gt (pe_ix (r := rIxT K) ix_tup (pv 3) pe_int (fun _ _ => rfl)) (pe_ix (r := rIxT K) ix_tup (pv 3) pe_int (fun _ _ => rfl)) (nomark _)) (pss_one (ps_ret (pv 4))) pss_nil))))
       (pss_one (ps_ret pe_non)))))))), ?_⟩
    have xl := paired_len hx
    have ln := ok.ln
    refine ⟨_, rfl, a, xs, ps, rfl, ha, hx, ok, fun H1 s1 => ?_⟩
    refine ⟨_, rfl, a, xs, ps, rfl, s1 _ _ ha, hx.same s1, ln, fun H2 s2 => ?_⟩
    have s12 := s1.trans s2
    refine ⟨_, rfl, rfl, _, rfl, ?_⟩
    refine ite2 (fun c => ?_) (fun c => ?_)
    · have c0 : aheadG ps = 0 := by have := V.int.inj (of_decide_eq_true c); omega
      rcases hc with rfl | ⟨h1, _⟩
      · have x0 : xs = [] := List.length_eq_zero_iff.mp xl
        subst x0
        exact ⟨_, rfl, false, .inl ⟨_, SqL.of (s12 _ _ ha), rfl⟩, iteF (k _ s12)⟩
      · omega
    have h0 : 1 ≤ aheadG ps := by
      have : ¬ aheadG ps = 0 := fun z => c (decide_eq_true (by rw [z]; rfl))
      omega
    have hl := ahead_le ps
    have hb : (bnG ps (aheadG ps)).1 ≤ (bnG ps (aheadG ps)).2 := by
      rcases hc with rfl | ⟨_, h⟩
      · have : aheadG ([] : Lg) = 0 := rfl
        omega
      · exact h
    refine ⟨_, rfl, a, xs, ps, rfl, s12 _ _ ha, hx.same s12, by omega, fun lg H3 hg s3 nlg => ?_⟩
    have s13 := s12.trans s3
    refine ⟨(by show 2 ≤ sizeLine; decide), fun tb ntb => ?_⟩
    have sb := Same.upd (o := .tup [.int 1, .int 1000000000000000000000000000000]) ntb
    have s1b := s13.trans sb
    refine ⟨_, rfl, _, rfl, a, _, rfl, .inl (SqL.of (s1b _ _ ha)), _, _, rfl, ⟨by omega, by omega, by omega, by omega⟩, ?_⟩
    have en : ((xs.length : Int) - (aheadG ps : Int)).toNat = ps.length - aheadG ps := by omega
    rw [en]
    refine for_range (lo := (aheadG ps : Int)) (n := ps.length - aheadG ps) (fun i σ Hx => ∃ (v4 : Option V) (b : Addr), σ = [some (.ref a), some (.int (aheadG ps : Int)), some (.ref lg), some (.ref b), v4] ∧ Hx b = some (.tup [.int (fwd ps (aheadG ps) i).1, .int (fwd ps (aheadG ps) i).2]) ∧ Same H3 Hx)
      ⟨none, tb, rfl, upd_same, sb⟩ ?_ ?_
    rotate_left
    · rintro σ Hx ⟨v4, b, rfl, hbx, sx⟩
      exact k Hx (s13.trans sx)
    rintro i σ Hx hi ⟨v4, b, rfl, hbx, sx⟩
    have sHx := s13.trans sx
    obtain ⟨f, hf⟩ : ∃ f, f = aheadG ps + i := ⟨_, rfl⟩
    rw [show (aheadG ps : Int) + (i : Int) = (f : Int) by omega]
    obtain ⟨x, hx1⟩ : ∃ x, xs[f]? = some x := ⟨_, List.getElem?_eq_getElem (by omega)⟩
    obtain ⟨⟨t, p⟩, hp, c', rfl, hcc⟩ := paired_get hx hx1
    obtain ⟨_, u, q2, q3⟩ := bn_step hp (by omega) h0
    have hgf := gapL_at hp
    rw [q2] at hgf
    have hgf2 : ((gapL ps).map gpV)[f]? = some (.int (t - u)) := by rw [List.getElem?_map, hgf]; rfl
    have eg : ps.getD (aheadG ps + i) (0, true) = (t, p) := by rw [List.getD_eq_getElem?_getD, ← hf, hp]; rfl
    refine ⟨_, rfl, _, rfl, _, rfl, lg, _, (f : Int), .int (t - u), rfl, rfl, SqL.of (sx _ _ hg), atI_nat hgf2, ?_⟩
    refine ⟨_, rfl, _, rfl, a, _, (f : Int), .ref c', rfl, rfl, SqL.of (sHx _ _ ha), atI_nat hx1, c', _, 1, .bl p, rfl, rfl, SqT.of (sHx _ _ hcc), rfl, ?_⟩
    refine ⟨b, fwd ps (aheadG ps) i, t - u, p, rfl, hbx, fun b' H4 hb' s4 => ?_⟩
    have ef : nar (fwd ps (aheadG ps) i) (t - u) p = fwd ps (aheadG ps) (i + 1) := by
      show _ = nar (fwd ps (aheadG ps) i) ((ps.getD (aheadG ps + i) (0, true)).1 - uG ps (aheadG ps + i)) (ps.getD (aheadG ps + i) (0, true)).2
      rw [eg, ← hf, q3]
    rw [ef] at hb'
    obtain ⟨l1, l2⟩ := fwd_loose h0 h0 hl (i + 1) (by omega)
    refine ⟨_, rfl, b', _, 0, .int (fwd ps (aheadG ps) (i + 1)).1, rfl, rfl, SqT.of hb', rfl, _, rfl, b', _, 1, .int (fwd ps (aheadG ps) (i + 1)).2, rfl, rfl, SqT.of hb', rfl, _, _, rfl, rfl, _, congrArg V.bl (decide_eq_false (show ¬ (fwd ps (aheadG ps) (i + 1)).2 < (fwd ps (aheadG ps) (i + 1)).1 by omega)), iteF ?_⟩
    exact ⟨_, b', rfl, hb', sx.trans s4⟩
theorem ok_firstconflict (T : LX K mg L) : Cal P w K mg base "first_conflict" 6 L.f_first_conflict ["log"] (spFcN) := T.d_first_conflict.cal fun fd F => fn_firstconflict T F
end
/-! ### the forecast, for a log that a breaker explains -/
def gapN (ps : Lg) (t : Int) : Int := t - (latA none ps).getD 0
def spFore : Sp := fun vs H Q _ => ∃ a xs ps t, vs = [.ref a, .int t] ∧ H a = some (.lst xs) ∧ Lgs H xs ps ∧ OkLog ps ∧ (ps = [] ∨ (1 ≤ aheadG ps ∧ (bnG ps (aheadG ps)).1 ≤ (bnG ps (aheadG ps)).2)) ∧ (∀ q ∈ ps, q.1 < t) ∧ 0 ≤ t ∧
  ∀ (wd : Str) H', (wd = "pass" ∨ wd = "reject" ∨ wd = "either") → (wd = "pass" → ps ≠ [] → ∀ e ∈ exG ps, e.2.2 ≤ gapN ps t) → (wd = "reject" → ps ≠ [] ∧ ∀ e ∈ exG ps, gapN ps t < e.2.1) → Same H H' → Q (.str wd) H'
theorem ex_ne {ps : Lg} (hn : ps ≠ []) (h0 : 1 ≤ aheadG ps) (hb : (bnG ps (aheadG ps)).1 ≤ (bnG ps (aheadG ps)).2) : exG ps ≠ [] := by
  unfold exG
  rw [if_neg hn]
  have hl := ahead_le ps
  have : ((aheadG ps : Int), (bnG ps (aheadG ps)).1, (bnG ps (aheadG ps)).2) ∈ exUp ps ps.length := by
    unfold exUp
    refine List.mem_flatMap.mpr ⟨aheadG ps - 1, List.mem_range.mpr (by omega), ?_⟩
    rw [show aheadG ps - 1 + 1 = aheadG ps by omega]
    unfold exF
    rw [if_pos ⟨Nat.le_refl _, hb⟩]
    exact List.mem_singleton.mpr rfl
  intro z
  rw [z] at this
  cases this
theorem latA_is {ps : Lg} (h0 : 1 ≤ aheadG ps) : ∃ v, latA none ps = some v := by
  cases ps with
  | nil => cases h0
  | cons q r =>
    obtain ⟨t, p⟩ := q
    cases p with
    | false => cases h0
    | true => exact latA_some r t
section
variable {P : Program} {w : World} {K : PySem.W.Frag} {mg : Str → Option Value} {base : Heap} {L : LA}
abbrev N_forecast : List Str := ["log", "time", "conflict", "gap", "found", "failures", "low", "high"]
theorem sc_forecast : FnScope N_forecast ["log", "time"] (defScope st_forecast) := ⟨rfl, rfl, rfl, by decide +kernel, rfl, by decide +kernel, by decide +kernel⟩
theorem fn_forecast (T : LX K mg L) {fd : FuncData} (F : Fun K "forecast" "forecast" st_forecast L.f_forecast fd) : FnOk P w K mg base CX0 7 L.f_forecast fd ["log", "time"] (spFore) := by
  have G_checklog := ok_checklog (P := P) (w := w) (base := base) T
  have G_firstconflict := ok_firstconflict (P := P) (w := w) (base := base) T
  have G_explanations := ok_explanations (P := P) (w := w) (base := base) T
  have G_isatleast := ok_isatleast (P := P) (w := w) (base := base) T
  have G_gapsof := ok_gapsof (P := P) (w := w) (base := base) T
  have nd := sc_forecast.nd
  refine F.ok sc_forecast (fun vs H Q E h => ?_) (fun cdv A outer S H vs Q E hr h => ?_)
  · obtain ⟨a, xs, ps, t, rfl, _⟩ := h
    rfl
  · obtain ⟨a, xs, ps, t, rfl, ha, hx, ok, hc, ht, t0, k⟩ := h
    refine ⟨_, (pss_cons (ps_expr (pe_c G_checklog (hr.mono (by decide)) rfl (pa_cons (pv 0) pa_nil)))
       (pss_cons (ps_if (pt_not (pt_val (pe_c G_isatleast (hr.mono (by decide)) rfl (pa_cons (pv 1) (pa_cons (pe_ifExp (pt_truth (pv 0) (fun _ => rfl)) (pe_op op_add (pe_ix (r := rIxT K) ix_tup (pe_ix (r := rIxL K) ix_list (pv 0) (pe_un un_neg pe_int) (fun _ _ => rfl)) pe_int (fun _ _ => rfl)) pe_int) pe_int) pa_nil))))) (pss_one (ps_never)) pss_nil)
       (pss_cons (ps_set (i := 2) nd rfl (Or.inl rfl) (pe_c G_firstconflict (hr.mono (by decide)) rfl (pa_cons (pv 0) pa_nil)))
       (pss_cons (ps_if (pt_cmp (pc_notN (pv 2))) (pss_one (ps_never)) pss_nil)
       (pss_cons (ps_if (pt_cmpR (op_eqD hr.units) (pv 0) (pe_lst pa_nil) (nomark _)) (pss_one (ps_ret pe_str)) pss_nil)
       (pss_cons (ps_set (i := 3) nd rfl (Or.inl rfl) (pe_ix (r := rIxL K) ix_list (pe_c G_gapsof (hr.mono (by decide)) rfl (pa_cons (pe_op op_cat (pv 0) (pe_lst (pa_cons (pe_tup (pa_cons (pv 1) (pa_cons pe_bl pa_nil))) pa_nil))) pa_nil)) (pe_un un_neg pe_int) (fun _ _ => rfl)))
       (pss_cons (ps_set (i := 4) nd rfl (Or.inl rfl) (pe_c G_explanations (hr.mono (by decide)) rfl (pa_cons (pv 0) pa_nil)))
       (pss_cons (ps_if (pt_cmpR op_le (pe_callB (cr_max rfl) (by rfl) T.b_max (by decide +kernel) (pa_cons (pe_lc (own := [("failures", 5), ("low", 6), ("high", 7)]) (g := gTup K 3 (gCons (gName 5) (gCons (gName 6) (gCons (gName 7) (gNil))))) (tt := tYes) rfl nd (pi_list (pv 4)) (blkOk_by (own := [("failures", 5), ("low", 6), ("high", 7)]) (N := N_forecast) (sc := defScope st_forecast) (by decide +kernel)) (fun _ _ _ _ _ => pg_tup rfl (pgs_cons (pg_name (i := 5) nd rfl (Or.inl rfl)) (pgs_cons (pg_name (i := 6) nd rfl (Or.inl rfl)) (pgs_cons (pg_name (i := 7) nd rfl (Or.inl rfl)) pgs_nil)))) (fun _ _ _ _ _ => pts_nil) (fun _ _ _ _ _ => (pv 7))) pa_nil)) (pv 3) (nomark _)) (pss_one (ps_ret pe_str)) pss_nil)
       (pss_cons (ps_if (pt_cmpR op_gt (pe_callB (cr_min rfl) (by rfl) T.b_min (by decide +kernel) (pa_cons (pe_lc (own := [("failures", 5), ("low", 6), ("high", 7)]) (g := gTup K 3 (gCons (gName 5) (gCons (gName 6) (gCons (gName 7) (gNil))))) (tt := tYes) rfl nd (pi_list (pv 4)) (blkOk_by (own := [("failures", 5), ("low", 6), ("high", 7)]) (N := N_forecast) (sc := defScope st_forecast) (by decide +kernel)) (fun _ _ _ _ _ => pg_tup rfl (pgs_cons (pg_name (i := 5) nd rfl (Or.inl rfl)) (pgs_cons (pg_name (i := 6) nd rfl (Or.inl rfl)) (pgs_cons (pg_name (i := 7) nd rfl (Or.inl rfl)) pgs_nil)))) (fun _ _ _ _ _ => pts_nil) (fun _ _ _ _ _ => (pv 6))) pa_nil)) (pv 3) (nomark _)) (pss_one (ps_ret pe_str)) pss_nil)
       (pss_one (ps_ret pe_str))))))))))), ?_⟩
    have xl := paired_len hx
    have ln := ok.ln
    refine ⟨_, rfl, a, xs, ps, rfl, ha, hx, ok, fun H1 s1 => ?_⟩
    by_cases hn : ps = []
    · subst hn
      have x0 : xs = [] := List.length_eq_zero_iff.mp xl
      subst x0
      refine ⟨_, rfl, _, rfl, false, .inl ⟨[], SqL.of (s1 _ _ ha), rfl⟩, iteF ⟨_, _, _, rfl, .int _, _, rfl, ?_⟩⟩
      show if (!(decide ((0 : Int) ≤ t))) = true then _ else _
      rw [decide_eq_true t0]
      refine iteF ⟨_, rfl, a, [], [], rfl, s1 _ _ ha, .nil, ok, .inl rfl, fun H2 s2 => ⟨_, rfl, _, rfl, iteF ⟨_, rfl, (by show 0 ≤ sizeLine; decide), fun l0 hl0 => ?_⟩⟩⟩
      have s3 := Same.upd (o := .lst []) hl0
      refine ⟨_, _, Lgs.dpl (ps := []) ((s1.trans (s2.trans s3)) _ _ ha) .nil, Lgs.dpl (ps := []) upd_same .nil, lg_sh [], lg_sh [], _, rfl, ?_⟩
      rw [lg_eq, decide_eq_true rfl]
      exact iteT (k "pass" _ (.inl rfl) (fun _ z => absurd rfl z) (fun z => absurd z (by decide +kernel)) (s1.trans (s2.trans s3)))
    obtain ⟨h0, hb⟩ : 1 ≤ aheadG ps ∧ (bnG ps (aheadG ps)).1 ≤ (bnG ps (aheadG ps)).2 := by
      rcases hc with z | z
      · exact absurd z hn
      · exact z
    have ne := ex_ne hn h0 hb
    obtain ⟨u, hu⟩ := latA_is h0
    have eg : gapN ps t = t - u := by unfold gapN; rw [hu]; rfl
    obtain ⟨yi, v, rfl⟩ : ∃ ys v, xs = ys ++ [v] := by
      rcases List.eq_nil_or_concat xs with h | ⟨ys, v, h⟩
      · rw [h] at xl
        exact absurd (List.length_eq_zero_iff.mp xl.symm) hn
      · exact ⟨ys, v, by rw [h, List.concat_eq_append]⟩
    obtain ⟨⟨tl, pl⟩, hq, c, rfl, hcc⟩ := paired_get hx (i := yi.length) (x := v) (by rw [List.getElem?_append_right (Nat.le_refl _), Nat.sub_self]; rfl)
    have tlt := ht _ (List.mem_of_getElem? hq)
    have tlt : tl < t := tlt
    refine ⟨_, rfl, _, rfl, true, .inl ⟨_, SqL.of (s1 _ _ ha), by cases yi <;> rfl⟩, iteT ⟨_, rfl, 1, rfl, a, _, -1, .ref c, rfl, rfl, SqL.of (s1 _ _ ha), atI_last _ _, c, _, 0, .int tl, rfl, rfl, SqT.of (s1 _ _ hcc), rfl, _, _, rfl, rfl, _, _, _, rfl, .int _, _, rfl, ?_⟩⟩
    show if (!(decide (tl + 1 ≤ t))) = true then _ else _
    rw [decide_eq_true (show tl + 1 ≤ t by omega)]
    refine iteF ⟨_, rfl, a, _, ps, rfl, s1 _ _ ha, hx.same s1, ok, .inr ⟨h0, hb⟩, fun H2 s2 => ⟨_, rfl, _, rfl, iteF ⟨_, rfl, (by show 0 ≤ sizeLine; decide), fun l0 hl0 => ?_⟩⟩⟩
    have s3 := Same.upd (o := .lst []) hl0
    have s13 := s1.trans (s2.trans s3)
    refine ⟨_, _, Lgs.dpl (s13 _ _ ha) (hx.same s13), Lgs.dpl (ps := []) upd_same .nil, lg_sh ps, lg_sh [], _, rfl, ?_⟩
    rw [lg_eq, decide_eq_false hn]
    refine iteF ?_
    generalize upd H2 l0 (.lst []) = H3 at s3 s13 ⊢
    -- the gap
    refine ⟨_, rfl, _, rfl, (by show 2 ≤ sizeLine; decide), fun tp htp => ⟨(by show 1 ≤ sizeLine; decide), fun l1 hl1 => ?_⟩⟩
    have s4 := Same.upd (o := .tup [.int t, .bl true]) htp
    have s5 := Same.upd (o := .lst [.ref tp]) hl1
    have g4 := s5 _ _ (upd_same (H := H3) (a := tp) (o := .tup [.int t, .bl true]))
    have s15 := s13.trans (s4.trans s5)
    refine ⟨a, l1, _, _, rfl, rfl, s15 _ _ ha, upd_same, small2 (by rw [xl]; show _ + 1 ≤ 100000; omega), fun l2 hl2 => ?_⟩
    have s6 := Same.upd (o := .lst (yi ++ [.ref c] ++ [.ref tp])) hl2
    have s16 := s15.trans s6
    refine ⟨l2, _, ps ++ [(t, true)], rfl, upd_same, paired_app (hx.same s16) (.cons ⟨tp, rfl, s6 _ _ g4⟩ .nil), by rw [List.length_append]; show _ + 1 ≤ 1001; omega, fun lg H7 hlg s7 nlg => ?_⟩
    have s17 := s16.trans s7
    have lastG : (gapL (ps ++ [(t, true)])).map gpV = (((List.range ps.length).map fun i => (latA none ((ps ++ [(t, true)]).take i)).map fun u => ((ps ++ [(t, true)]).getD i (0, true)).1 - u).map gpV) ++ [.int (t - u)] := by
      have e1 : (latA none ((ps ++ [(t, true)]).take ps.length)).map (fun u => ((ps ++ [(t, true)]).getD ps.length (0, true)).1 - u) = some (t - u) := by
        rw [List.take_left, hu, List.getD_eq_getElem?_getD, List.getElem?_append_right (Nat.le_refl _), Nat.sub_self]
        rfl
      unfold gapL
      rw [List.length_append]
      show ((List.range (ps.length + 1)).map _).map gpV = _
      rw [List.range_succ, List.map_append, List.map_append, List.map_cons, e1]
      rfl
    rw [lastG] at hlg
    refine ⟨1, rfl, lg, _, -1, .int (t - u), rfl, rfl, SqL.of hlg, atI_last _ _, ?_⟩
    -- the explanations
    refine ⟨_, rfl, a, _, ps, rfl, s17 _ _ ha, hx.same s17, ok, fun lf ys H8 hlf_H8 hbr_H8 s8 nlf => ?_⟩
    have s18 := s17.trans s8
    have yl := hbr_H8.len
    have el : (exG ps).length ≤ 1000 := by
      unfold exG
      rw [if_neg hn]
      exact Nat.le_trans (exUp_len ps ps.length) ln
    have ep : 0 < (exG ps).length := List.length_pos_iff.mpr ne
    refine ⟨_, rfl, lf, rfl, ⟨_, SqL.of hlf_H8⟩, fun D hD => ?_⟩
    refine lc_list (K := K) (a := lf) (xs := ys) (fun j Hw => Hw D = some (.lst ((((exG ps).take j).map fun (e : Tri) => e.2.2).map V.int)) ∧ Same H8 Hw) ⟨upd_same, Same.upd hD⟩ (fun j Hw _ ⟨_, s⟩ => SqL.of (s _ _ hlf_H8)) ?_ ?_
    · rintro j x Hw hxj ⟨hDw, sw⟩
      obtain ⟨e, he, c, rfl, hce⟩ := paired_get hbr_H8 hxj
      have jl := (List.getElem?_eq_some_iff.mp he).1
      refine ⟨c, _, rfl, SqT.of (sw _ _ hce), rfl, _, _, rfl, _, _, rfl, _, _, rfl, rfl, rfl, tYes_of ⟨_, rfl, _, hDw, small1 (by rw [List.length_map, List.length_map, List.length_take]; omega), ?_, fun b o q => by rw [upd_ne (ne_of_none q hD)]; exact sw _ _ q⟩⟩
      rw [upd_same, List.take_add_one, he, List.map_append, List.map_append]
      rfl
    rintro H9 ⟨hD9, s9⟩
    rw [yl, List.take_length] at hD9
    refine ⟨D, (exG ps).map fun (e : Tri) => e.2.2, rfl, SqL.of hD9, by rw [List.length_map]; exact ep, fun M hM hMb => ⟨_, rfl, _, _, rfl, rfl, _, rfl, ?_⟩⟩
    have s19 := s18.trans s9
    refine ite2 (fun z => ?_) (fun z => ?_)
    · have z := of_decide_eq_true z
      exact k "pass" _ (.inl rfl) (fun _ _ e he => by rw [eg]; have := hMb _ (List.mem_map.mpr ⟨e, he, rfl⟩); omega) (fun z => absurd z (by decide +kernel)) s19
    have hlf_H9 := s9 _ _ hlf_H8
    have hbr_H9 := hbr_H8.nl (NL.of s9)
    refine ⟨_, rfl, lf, rfl, ⟨_, SqL.of hlf_H9⟩, fun D2 hD2 => ?_⟩
    refine lc_list (K := K) (a := lf) (xs := ys) (fun j Hw => Hw D2 = some (.lst ((((exG ps).take j).map fun (e : Tri) => e.2.1).map V.int)) ∧ Same H9 Hw) ⟨upd_same, Same.upd hD2⟩ (fun j Hw _ ⟨_, s⟩ => SqL.of (s _ _ hlf_H9)) ?_ ?_
    · rintro j x Hw hxj ⟨hDw, sw⟩
      obtain ⟨e, he, c, rfl, hce⟩ := paired_get hbr_H9 hxj
      have jl := (List.getElem?_eq_some_iff.mp he).1
      refine ⟨c, _, rfl, SqT.of (sw _ _ hce), rfl, _, _, rfl, _, _, rfl, _, _, rfl, rfl, rfl, tYes_of ⟨_, rfl, _, hDw, small1 (by rw [List.length_map, List.length_map, List.length_take]; omega), ?_, fun b o q => by rw [upd_ne (ne_of_none q hD2)]; exact sw _ _ q⟩⟩
      rw [upd_same, List.take_add_one, he, List.map_append, List.map_append]
      rfl
    rintro H10 ⟨hD10, s10⟩
    rw [yl, List.take_length] at hD10
    refine ⟨D2, (exG ps).map fun (e : Tri) => e.2.1, rfl, SqL.of hD10, by rw [List.length_map]; exact ep, fun m hm hmb => ⟨_, rfl, _, _, rfl, rfl, _, rfl, ?_⟩⟩
    refine ite2 (fun z => ?_) (fun z => ?_)
    · have z := of_decide_eq_true z
      exact k "reject" _ (.inr (.inl rfl)) (fun z => absurd z (by decide +kernel)) (fun _ => ⟨hn, fun e he => by rw [eg]; have := hmb _ (List.mem_map.mpr ⟨e, he, rfl⟩); omega⟩) (s19.trans s10)
    · exact k "either" _ (.inr (.inr rfl)) (fun z => absurd z (by decide +kernel)) (fun z => absurd z (by decide +kernel)) (s19.trans s10)
theorem ok_forecast (T : LX K mg L) : Cal P w K mg base "forecast" 7 L.f_forecast ["log", "time"] (spFore) := T.d_forecast.cal fun fd F => fn_forecast T F
end
/-! ### k48: what is true of the logs of a breaker -/
theorem lg_fst (b : Tri) : ∀ (ns : List Int) (s : StD), (lgG b s ns).map (·.1) = ns
  | [], _ => rfl
  | t :: r, s => by
    show t :: (lgG b _ r).map (·.1) = t :: r
    rw [lg_fst b r]
theorem own_fit (f w : Int) (ns : List Int) : fitC f w 0 (lgG (f, w, 1) ("closed", 0) ns) = true := by
  rw [← lg_closed f w (lgG (f, w, 1) ("closed", 0) ns) 0, lg_fst]
  exact decide_eq_true rfl
/-- what a breaker's log is -/
structure Own (f : Nat) (w : Int) (ps : Lg) : Prop where
  f1 : 1 ≤ f
  w1 : 1 ≤ w
  w2 : w ≤ mtE
  fit : fitC (f : Int) w 0 ps = true
theorem Own.le {f : Nat} {w : Int} {ps : Lg} (O : Own f w ps) (h : f ≤ ps.length) : f ≤ aheadG ps ∧ (bnG ps f).1 ≤ w ∧ w ≤ (bnG ps f).2 := by
  have := O.fit
  rw [fitC_bn O.f1 h O.w1 O.w2, Bool.and_eq_true, Bool.and_eq_true, decide_eq_true_iff, decide_eq_true_iff, decide_eq_true_iff] at this
  exact ⟨this.1, this.2.1, this.2.2⟩
theorem Own.past {f : Nat} {w : Int} {ps : Lg} (O : Own f w ps) (h : ps.length < f) : ∀ q ∈ ps, q.2 = true := by
  have := O.fit
  rw [fitC_past (by omega)] at this
  exact fun q hq => List.all_eq_true.mp this q hq
theorem Own.cons {f : Nat} {w : Int} {ps : Lg} (O : Own f w ps) : ps = [] ∨ (1 ≤ aheadG ps ∧ (bnG ps (aheadG ps)).1 ≤ (bnG ps (aheadG ps)).2) := by
  by_cases hn : ps = []
  · exact .inl hn
  refine .inr ?_
  have lp : 0 < ps.length := List.length_pos_iff.mpr hn
  by_cases c : f ≤ ps.length
  · obtain ⟨a, b1, b2⟩ := O.le c
    have f1 := O.f1
    have al := ahead_le ps
    have := bn_mono (ps := ps) (by omega) f1 (aheadG ps - f) (by omega)
    rw [show f + (aheadG ps - f) = aheadG ps by omega] at this
    exact ⟨by omega, by omega⟩
  · have e := ahead_full (O.past (by omega))
    rw [e, bn_end]
    exact ⟨lp, by show (1 : Int) ≤ mtE; decide⟩
/-- the entry behind -/
theorem next_bn {ps : Lg} {t : Int} {d : Bool} (h0 : 1 ≤ aheadG (ps ++ [(t, d)])) (hn : ps ≠ []) {k : Nat} (k1 : 1 ≤ k) (kl : k ≤ ps.length) : (d = true → (bnG (ps ++ [(t, d)]) k).2 ≤ gapN ps t) ∧ (d = false → gapN ps t + 1 ≤ (bnG (ps ++ [(t, d)]) k).1) := by
  have lp : 0 < ps.length := List.length_pos_iff.mpr hn
  have hq : (ps ++ [(t, d)])[ps.length]? = some (t, d) := by rw [List.getElem?_append_right (Nat.le_refl _), Nat.sub_self]; rfl
  obtain ⟨e, _⟩ := bn_step hq (by omega) h0
  have eu : t - uG (ps ++ [(t, d)]) ps.length = gapN ps t := by
    unfold uG gapN
    rw [List.take_left]
  obtain ⟨_, _, t3, t4⟩ := nar_tight (bnG (ps ++ [(t, d)]) (ps.length + 1)) (t - uG (ps ++ [(t, d)]) ps.length) d
  rw [← e, eu] at t3 t4
  obtain ⟨m1, m2⟩ := bn_mono h0 k1 (ps.length - k) (by rw [List.length_append]; omega)
  rw [show k + (ps.length - k) = ps.length by omega] at m1 m2
  exact ⟨fun z => by have := t3 z; omega, fun z => by have := t4 z; omega⟩
theorem nar_sub {b c : Int × Int} (h1 : c.1 ≤ b.1) (h2 : b.2 ≤ c.2) (g : Int) (p : Bool) : (nar c g p).1 ≤ (nar b g p).1 ∧ (nar b g p).2 ≤ (nar c g p).2 := by
  obtain ⟨b1, b2⟩ := b
  obtain ⟨c1, c2⟩ := c
  have h1 : c1 ≤ b1 := h1
  have h2 : b2 ≤ c2 := h2
  cases p with
  | true =>
    show c1 ≤ b1 ∧ (if g < b2 then g else b2) ≤ (if g < c2 then g else c2)
    refine ⟨h1, ?_⟩
    split <;> split <;> omega
  | false =>
    show (if c1 < g + 1 then g + 1 else c1) ≤ (if b1 < g + 1 then g + 1 else b1) ∧ b2 ≤ c2
    refine ⟨?_, h2⟩
    split <;> split <;> omega
theorem ahead_app {ps : Lg} {q : Int × Bool} (h : 1 ≤ aheadG ps) : 1 ≤ aheadG (ps ++ [q]) := by
  cases ps with
  | nil => cases h
  | cons a r =>
    obtain ⟨t, p⟩ := a
    cases p with
    | false => cases h
    | true =>
      show 1 ≤ ((((t, true) :: (r ++ [q])) : Lg).takeWhile (·.2)).length
      rw [List.takeWhile_cons]
      exact Nat.succ_pos _
theorem bn_app {ps : Lg} {q : Int × Bool} (h0 : 1 ≤ aheadG ps) : ∀ (n k : Nat), 1 ≤ k → k + n = ps.length → (bnG ps k).1 ≤ (bnG (ps ++ [q]) k).1 ∧ (bnG (ps ++ [q]) k).2 ≤ (bnG ps k).2
  | 0, k, k1, e => by
    obtain ⟨t, d⟩ := q
    have e : k = ps.length := by omega
    subst e
    rw [bn_end]
    have h1 := ahead_app (q := (t, d)) h0
    have hq : (ps ++ [(t, d)])[ps.length]? = some (t, d) := by rw [List.getElem?_append_right (Nat.le_refl _), Nat.sub_self]; rfl
    obtain ⟨e, _⟩ := bn_step hq k1 h1
    have e2 : bnG (ps ++ [(t, d)]) (ps.length + 1) = (1, mtE) := by
      have := bn_end (ps ++ [(t, d)])
      rw [List.length_append] at this
      exact this
    obtain ⟨a, b, _⟩ := nar_tight (bnG (ps ++ [(t, d)]) (ps.length + 1)) (t - uG (ps ++ [(t, d)]) ps.length) d
    rw [← e, e2] at a b
    exact ⟨a, b⟩
  | n + 1, k, k1, e => by
    obtain ⟨i1, i2⟩ := bn_app (q := q) h0 n (k + 1) (by omega) (by omega)
    obtain ⟨⟨t, p⟩, hp⟩ : ∃ z, ps[k]? = some z := ⟨_, List.getElem?_eq_getElem (by omega)⟩
    have hp2 : (ps ++ [q])[k]? = some (t, p) := by rw [List.getElem?_append_left (by omega)]; exact hp
    obtain ⟨e1, _⟩ := bn_step hp k1 h0
    obtain ⟨e2, _⟩ := bn_step hp2 k1 (ahead_app h0)
    have eu : uG (ps ++ [q]) k = uG ps k := by
      unfold uG
      rw [List.take_append_of_le_length (by omega)]
    rw [e1, e2, eu]
    exact nar_sub i1 i2 _ _
theorem ex_mem {ps : Lg} (hn : ps ≠ []) {e : Tri} : e ∈ exG ps ↔ ∃ k : Nat, 1 ≤ k ∧ k ≤ aheadG ps ∧ (bnG ps k).1 ≤ (bnG ps k).2 ∧ e = ((k : Int), (bnG ps k).1, (bnG ps k).2) := by
  have hl := ahead_le ps
  unfold exG
  rw [if_neg hn]
  unfold exUp
  constructor
  · intro h
    obtain ⟨j, hj, he⟩ := List.mem_flatMap.mp h
    unfold exF at he
    by_cases c : j + 1 ≤ aheadG ps ∧ (bnG ps (j + 1)).1 ≤ (bnG ps (j + 1)).2
    · rw [if_pos c] at he
      exact ⟨j + 1, by omega, c.1, c.2, List.mem_singleton.mp he⟩
    · rw [if_neg c] at he
      cases he
  · rintro ⟨k, k1, k2, k3, rfl⟩
    refine List.mem_flatMap.mpr ⟨k - 1, List.mem_range.mpr (by omega), ?_⟩
    rw [show k - 1 + 1 = k by omega]
    unfold exF
    rw [if_pos ⟨k2, k3⟩]
    exact List.mem_singleton.mpr rfl
/-- what is foretold happens -/
theorem fore_ok {f : Nat} {w : Int} {ps : Lg} {t : Int} {d : Bool} (O : Own f w ps) (O' : Own f w (ps ++ [(t, d)])) (hn : ps ≠ []) (hg : 1 ≤ gapN ps t) :
    ((∀ e ∈ exG ps, e.2.2 ≤ gapN ps t) → d = true) ∧ ((∀ e ∈ exG ps, gapN ps t < e.2.1) → d = false) := by
  have f1 := O.f1
  have ll : (ps ++ [(t, d)]).length = ps.length + 1 := by rw [List.length_append]; rfl
  have h0 : 1 ≤ aheadG ps := by
    rcases O.cons with z | z
    · exact absurd z hn
    · exact z.1
  have h1 := ahead_app (q := (t, d)) h0
  by_cases c : f ≤ ps.length
  · obtain ⟨a, b1, b2⟩ := O.le c
    obtain ⟨_, c1, c2⟩ := O'.le (by omega)
    obtain ⟨n1, n2⟩ := next_bn h1 hn f1 c
    have me : ((f : Int), (bnG ps f).1, (bnG ps f).2) ∈ exG ps := (ex_mem hn).mpr ⟨f, f1, a, by omega, rfl⟩
    refine ⟨fun h => ?_, fun h => ?_⟩
    · have h2 : (bnG ps f).2 ≤ gapN ps t := h _ me
      cases d with
      | true => rfl
      | false =>
        have := n2 rfl
        omega
    · have h2 : gapN ps t < (bnG ps f).1 := h _ me
      cases d with
      | false => rfl
      | true =>
        have := n1 rfl
        omega
  · have al := O.past (by omega)
    have ea := ahead_full al
    have dt : d = true := by
      by_cases c2 : ps.length + 1 < f
      · exact O'.past (by omega) (t, d) (List.mem_append.mpr (.inr (List.mem_singleton.mpr rfl)))
      · obtain ⟨a, _⟩ := O'.le (by omega)
        have := (ahead_all (ps := ps ++ [(t, d)]) (f := f) (by omega)).mpr a
        rw [show f = (ps ++ [(t, d)]).length by omega, List.take_length] at this
        exact List.all_eq_true.mp this (t, d) (List.mem_append.mpr (.inr (List.mem_singleton.mpr rfl)))
    refine ⟨fun _ => dt, fun h => ?_⟩
    exfalso
    have me : ((ps.length : Nat) : Int) = ((ps.length : Nat) : Int) := rfl
    have lp : 0 < ps.length := List.length_pos_iff.mpr hn
    have m2 : (((ps.length : Nat) : Int), (bnG ps ps.length).1, (bnG ps ps.length).2) ∈ exG ps := (ex_mem hn).mpr ⟨ps.length, lp, by omega, by rw [bn_end]; show (1 : Int) ≤ mtE; decide, rfl⟩
    have := h _ m2
    rw [bn_end] at this
    have : gapN ps t < 1 := this
    omega
/-! ### k48: the law's own checks -/
theorem fit_log {f w : Int} {ps : Lg} {ns : List Int} (h : ps.map (·.1) = ns) : decide (lgG (f, w, 1) ("closed", 0) ns = ps) = fitC f w 0 ps := by
  rw [← h]
  exact lg_closed f w ps 0
/-- what an explanation says -/
theorem ex_says {ps : Lg} {e : Tri} (he : e ∈ exG ps) : (1 ≤ e.1 ∧ e.1 ≤ ps.length + 1) ∧ 1 ≤ e.2.1 ∧ e.2.1 ≤ e.2.2 ∧ e.2.2 ≤ mtE ∧ ∀ w, 1 ≤ w → w ≤ mtE → fitC e.1 w 0 ps = (decide (e.2.1 ≤ w) && decide (w ≤ e.2.2)) := by
  by_cases hn : ps = []
  · subst hn
    have : e ∈ [((1, 1, mtE) : Tri)] := he
    rw [List.mem_singleton.mp this]
    refine ⟨⟨by decide, by decide⟩, by decide, by show (1 : Int) ≤ mtE; decide, Int.le_refl _, fun w w1 w2 => ?_⟩
    show fitC 1 w 0 [] = (decide ((1 : Int) ≤ w) && decide (w ≤ mtE))
    rw [decide_eq_true w1, decide_eq_true w2]
    rfl
  · obtain ⟨k, k1, k2, k3, rfl⟩ := (ex_mem hn).mp he
    have hl := ahead_le ps
    have h0 : 1 ≤ aheadG ps := by omega
    obtain ⟨m1, m2⟩ := bn_mono h0 k1 (ps.length - k) (by omega)
    rw [show k + (ps.length - k) = ps.length by omega, bn_end] at m1 m2
    have m1 : 1 ≤ (bnG ps k).1 := m1
    have m2 : (bnG ps k).2 ≤ mtE := m2
    refine ⟨⟨by show (1 : Int) ≤ k; omega, by show (k : Int) ≤ _; omega⟩, m1, k3, m2, fun w w1 w2 => ?_⟩
    show fitC (k : Int) w 0 ps = _
    rw [fitC_bn k1 (by omega) w1 w2, decide_eq_true k2, Bool.true_and]
def spBdR : Sp := fun vs H Q _ => ∃ a xs ps lt ns, ∃ e : Tri, vs = [.ref a, .ref lt, .int e.1, .int e.2.1, .int e.2.2] ∧ H a = some (.lst xs) ∧ Lgs H xs ps ∧ H lt = some (.lst (ns.map V.int)) ∧ ps.map (·.1) = ns ∧ OkLog ps ∧ e ∈ exG ps ∧ ∀ H', Same H H' → Q (.bl true) H'
section
variable {P : Program} {w : World} {K : PySem.W.Frag} {mg : Str → Option Value} {base : Heap} {L : LA}
abbrev N_wboundsright : List Str := ["_law_log", "_law_times", "_law_failures", "_law_low", "_law_high"]
theorem sc_wboundsright : FnScope N_wboundsright ["_law_log", "_law_times", "_law_failures", "_law_low", "_law_high"] (defScope st__law_bounds_right) := ⟨rfl, rfl, rfl, by decide +kernel, rfl, by decide +kernel, by decide +kernel⟩
theorem fn_wboundsright (T : LX K mg L) {fd : FuncData} (F : Fun K "_law_bounds_right" "_law_bounds_right" st__law_bounds_right L.f__law_bounds_right fd) : FnOk P w K mg base CX0 6 L.f__law_bounds_right fd ["_law_log", "_law_times", "_law_failures", "_law_low", "_law_high"] (spBdR) := by
  have G_logof := ok_logof (P := P) (w := w) (base := base) T
  have nd := sc_wboundsright.nd
  refine F.ok sc_wboundsright (fun vs H Q E h => ?_) (fun cdv A outer S H vs Q E hr h => ?_)
  · obtain ⟨a, xs, ps, lt, ns, e, rfl, _⟩ := h
    rfl
  · obtain ⟨a, xs, ps, lt, ns, e, rfl, ha, hx, hlt, hns, ok, he, k⟩ := h
    refine ⟨_, (pss_cons (ps_if (PW.pt (pw_or (pt_cmpR (op_neD hr.units) (pe_c G_logof (hr.mono (by decide)) rfl (pa_cons (pe_tup (pa_cons (pv 2) (pa_cons (pv 3) (pa_cons pe_int pa_nil)))) (pa_cons (pv 1) pa_nil))) (pv 0) (nomark _)) (pw_or1 (pt_cmpR (op_neD hr.units) (pe_c G_logof (hr.mono (by decide)) rfl (pa_cons (pe_tup (pa_cons (pv 2) (pa_cons (pv 4) (pa_cons pe_int pa_nil)))) (pa_cons (pv 1) pa_nil))) (pv 0) (nomark _))))) (pss_one (ps_ret pe_bl)) pss_nil)
       (pss_cons (ps_if (PW.pt (pw_and (pt_cmpR op_gt (pv 3) pe_int (nomark _)) (pw_and1 (pt_cmpR (op_eqD hr.units) (pe_c G_logof (hr.mono (by decide)) rfl (pa_cons (pe_tup (pa_cons (pv 2) (pa_cons (pe_op op_sub (pv 3) pe_int) (pa_cons pe_int pa_nil)))) (pa_cons (pv 1) pa_nil))) (pv 0) (nomark _))))) (pss_one (ps_ret pe_bl)) pss_nil)
       (pss_one (ps_ret (pe_or (pe_cmpR op_eq (pv 4) (pe_op op_pow pe_int pe_int) (nomark _)) (pe_one (pe_cmpR (op_neD hr.units) (pe_c G_logof (hr.mono (by decide)) rfl (pa_cons (pe_tup (pa_cons (pv 2) (pa_cons (pe_op op_add (pv 4) pe_int) (pa_cons pe_int pa_nil)))) (pa_cons (pv 1) pa_nil))) (pv 0) (nomark _)))))))), ?_⟩
    obtain ⟨f', lo, hi⟩ := e
    obtain ⟨⟨e1, e2⟩, e3, e4, e5, fit⟩ := ex_says he
    have e1 : 1 ≤ f' := e1
    have e2 : f' ≤ ps.length + 1 := e2
    have e3 : 1 ≤ lo := e3
    have e4 : lo ≤ hi := e4
    have e5 : hi ≤ 1000000000000000000000000000000 := e5
    have ln := ok.ln
    have nl : ns.length ≤ 1000 := by rw [← hns, List.length_map]; exact ln
    have asc : Asc 0 ns := by rw [← hns]; exact ok.asc
    have p30 : (10 : Int) ^ (30 : Int).toNat = 1000000000000000000000000000000 := by decide +kernel
    have okt : ∀ w, 1 ≤ w → w ≤ 1000000000000000000000000000000 → OkT (f', w, 1) := fun w w1 w2 => ⟨e1, by show f' ≤ _; omega, w1, w2, (show (1 : Int) ≤ 1 by decide), (show (1 : Int) ≤ 1000000000000 by decide)⟩
    have one : ∀ {w : Int} {l : Addr} {zs : List V} {Hy : Hp}, 1 ≤ w → w ≤ 1000000000000000000000000000000 → Hy l = some (.lst zs) → Lgs Hy zs (lgG (f', w, 1) ("closed", 0) ns) → Same H Hy → ∃ d d2, Dp K Hy (.ref l) d ∧ Dp K Hy (.ref a) d2 ∧ SeqAt.shaped d = true ∧ SeqAt.shaped d2 = true ∧ PyData.eqv d d2 = (decide (lo ≤ w) && decide (w ≤ hi)) := fun {w l zs Hy} w1 w2 hl hz s => by
      refine ⟨_, _, Lgs.dpl hl hz, Lgs.dpl (s _ _ ha) (hx.same s), lg_sh _, lg_sh _, ?_⟩
      rw [lg_eq, fit_log hns]
      exact fit w w1 w2
    -- the least and the greatest
    refine ⟨_, rfl, _, rfl, (by show 3 ≤ sizeLine; decide), fun t1 ht1 => ⟨_, rfl, ?_⟩⟩
    have s1 := Same.upd (o := .tup [.int f', .int lo, .int 1]) ht1
    refine ⟨.ref t1, (f', lo, 1), lt, ns, rfl, ⟨t1, rfl, upd_same⟩, okt lo e3 (by omega), s1 _ _ hlt, asc, nl, fun l2 z2 H2 hl2 hz2 s2 n2 => ⟨_, rfl, ?_⟩⟩
    have s12 := s1.trans s2
    obtain ⟨d, d2, q1, q2, q3, q4, q5⟩ := one e3 (by omega) hl2 hz2 s12
    refine ⟨d, d2, q1, q2, q3, q4, false, by rw [q5, decide_eq_true (Int.le_refl lo), decide_eq_true e4]; rfl, iteF ?_⟩
    refine ⟨_, rfl, _, rfl, (by show 3 ≤ sizeLine; decide), fun t3 ht3 => ⟨_, rfl, ?_⟩⟩
    have s3 := Same.upd (o := .tup [.int f', .int hi, .int 1]) ht3
    have s13 := s12.trans s3
    refine ⟨.ref t3, (f', hi, 1), lt, ns, rfl, ⟨t3, rfl, upd_same⟩, okt hi (by omega) e5, s13 _ _ hlt, asc, nl, fun l4 z4 H4 hl4 hz4 s4 n4 => ⟨_, rfl, ?_⟩⟩
    have s14 := s13.trans s4
    obtain ⟨d, d2, q1, q2, q3, q4, q5⟩ := one (by omega) e5 hl4 hz4 s14
    refine ⟨d, d2, q1, q2, q3, q4, false, by rw [q5, decide_eq_true (Int.le_refl hi), decide_eq_true e4]; rfl, iteF ?_⟩
    -- beside them
    refine ⟨_, rfl, _, _, rfl, rfl, _, rfl, ?_⟩
    refine ite2 (fun c => ?_) (fun c => ?_)
    · have c : 1 < lo := of_decide_eq_true c
      refine ⟨_, rfl, _, rfl, _, _, rfl, rfl, (by show 3 ≤ sizeLine; decide), fun t5 ht5 => ⟨_, rfl, ?_⟩⟩
      have s5 := Same.upd (o := .tup [.int f', .int (lo - 1), .int 1]) ht5
      have s15 := s14.trans s5
      refine ⟨.ref t5, (f', lo - 1, 1), lt, ns, rfl, ⟨t5, rfl, upd_same⟩, okt (lo - 1) (by omega) (by omega), s15 _ _ hlt, asc, nl, fun l6 z6 H6 hl6 hz6 s6 n6 => ⟨_, rfl, ?_⟩⟩
      have s16 := s15.trans s6
      obtain ⟨d, d2, q1, q2, q3, q4, q5⟩ := one (by omega) (by omega) hl6 hz6 s16
      refine ⟨d, d2, q1, q2, q3, q4, false, by rw [q5, decide_eq_false (show ¬ lo ≤ lo - 1 by omega)]; rfl, iteF ?_⟩
      refine ⟨_, rfl, _, _, rfl, rfl, ⟨by decide, by decide, by decide⟩, rfl, ?_⟩
      by_cases z : hi = 1000000000000000000000000000000
      · refine ⟨true, congrArg V.bl (decide_eq_true (congrArg V.int (by rw [z]; exact p30.symm))), iteT (k _ (s16))⟩
      · refine ⟨false, congrArg V.bl (decide_eq_false fun y => z ((V.int.inj y).trans p30)), iteF ?_⟩
        refine ⟨_, rfl, _, rfl, _, _, rfl, rfl, (by show 3 ≤ sizeLine; decide), fun t7 ht7 => ⟨_, rfl, ?_⟩⟩
        have s7 := Same.upd (o := .tup [.int f', .int (hi + 1), .int 1]) ht7
        have s17 := (s16).trans s7
        refine ⟨.ref t7, (f', hi + 1, 1), lt, ns, rfl, ⟨t7, rfl, upd_same⟩, okt (hi + 1) (by omega) (by omega), s17 _ _ hlt, asc, nl, fun l8 z8 H8 hl8 hz8 s8 n8 => ⟨_, rfl, ?_⟩⟩
        have s18 := s17.trans s8
        obtain ⟨d, d2, q1, q2, q3, q4, q5⟩ := one (by omega) (by omega) hl8 hz8 s18
        refine ⟨d, d2, q1, q2, q3, q4, ?_⟩
        rw [q5, decide_eq_false (show ¬ hi + 1 ≤ hi by omega), Bool.and_false]
        exact k H8 s18
    · refine iteF ?_
      refine ⟨_, rfl, _, _, rfl, rfl, ⟨by decide, by decide, by decide⟩, rfl, ?_⟩
      by_cases z : hi = 1000000000000000000000000000000
      · refine ⟨true, congrArg V.bl (decide_eq_true (congrArg V.int (by rw [z]; exact p30.symm))), iteT (k _ (s14))⟩
      · refine ⟨false, congrArg V.bl (decide_eq_false fun y => z ((V.int.inj y).trans p30)), iteF ?_⟩
        refine ⟨_, rfl, _, rfl, _, _, rfl, rfl, (by show 3 ≤ sizeLine; decide), fun t7 ht7 => ⟨_, rfl, ?_⟩⟩
        have s7 := Same.upd (o := .tup [.int f', .int (hi + 1), .int 1]) ht7
        have s17 := (s14).trans s7
        refine ⟨.ref t7, (f', hi + 1, 1), lt, ns, rfl, ⟨t7, rfl, upd_same⟩, okt (hi + 1) (by omega) (by omega), s17 _ _ hlt, asc, nl, fun l8 z8 H8 hl8 hz8 s8 n8 => ⟨_, rfl, ?_⟩⟩
        have s18 := s17.trans s8
        obtain ⟨d, d2, q1, q2, q3, q4, q5⟩ := one (by omega) (by omega) hl8 hz8 s18
        refine ⟨d, d2, q1, q2, q3, q4, ?_⟩
        rw [q5, decide_eq_false (show ¬ hi + 1 ≤ hi by omega), Bool.and_false]
        exact k H8 s18
theorem ok_wboundsright (T : LX K mg L) : Cal P w K mg base "_law_bounds_right" 6 L.f__law_bounds_right ["_law_log", "_law_times", "_law_failures", "_law_low", "_law_high"] (spBdR) := T.d__law_bounds_right.cal fun fd F => fn_wboundsright T F
end
/-! ### draws of rows and outages with great numbers -/
def spPlace : Sp := fun vs H Q _ => ∃ (a : Addr) (m : Int) (n : Nat), vs = [.ref a, .int m] ∧ 0 < m ∧ m ≤ 1000000000000000000000000000 ∧ Src H a n ∧ n ≤ 800000 ∧ ∀ (r : Int) H', 0 ≤ r → r < m → Src H' a (n + 3) → Kp a H H' → Q (.int r) H'
theorem nine_step {j : Nat} {m r : Int} (m1 : m ≤ 1000000000000000000000000000) (h : (1000000000 : Int) ^ j < m) : (1000000000 : Int) ^ j * 1000000000 = (1000000000 : Int) ^ (j + 1) ∧ 0 < (1000000000 : Int) ^ j ∧ (1000000000 : Int) ^ j < 1000000000000000000000000000 ∧ j < 3 := by
  have p0 : (0 : Int) < (1000000000 : Int) ^ j := Int.pow_pos (by decide)
  refine ⟨(Int.pow_succ _ _).symm, p0, by omega, ?_⟩
  by_cases c : j < 3
  · exact c
  · obtain ⟨k, rfl⟩ : ∃ k, j = 3 + k := ⟨j - 3, by omega⟩
    rw [Int.pow_add] at h
    have q0 : (0 : Int) < (1000000000 : Int) ^ k := Int.pow_pos (by decide)
    have e : (1000000000 : Int) ^ 3 = 1000000000000000000000000000 := by decide +kernel
    rw [e] at h
    have := Int.mul_le_mul_of_nonneg_left (show (1 : Int) ≤ (1000000000 : Int) ^ k by omega) (show (0 : Int) ≤ 1000000000000000000000000000 by decide)
    omega
section
variable {P : Program} {w : World} {K : PySem.W.Frag} {mg : Str → Option Value} {base : Heap} {L : LA}
abbrev N_wplace : List Str := ["_law_well_here", "_law_many", "_law_found", "_law_reach"]
theorem sc_wplace : FnScope N_wplace ["_law_well_here", "_law_many"] (defScope st__law_place) := ⟨rfl, rfl, rfl, by decide +kernel, rfl, by decide +kernel, by decide +kernel⟩
theorem fn_wplace (T : LX K mg L) {fd : FuncData} (F : Fun K "_law_place" "_law_place" st__law_place L.f__law_place fd) : FnOk P w K mg base CX0 3 L.f__law_place fd ["_law_well_here", "_law_many"] (spPlace) := by
  have G_wdraw := ok_wdraw (P := P) (w := w) (base := base) T
  have nd := sc_wplace.nd
  refine F.ok sc_wplace (fun vs H Q E h => ?_) (fun cdv A outer S H vs Q E hr h => ?_)
  · obtain ⟨a, m, n, rfl, _⟩ := h
    rfl
  · obtain ⟨a, m, n, rfl, m0, m1, src, hn, k⟩ := h
    refine ⟨_, (pss_cons (ps_asg (pe_tup (pa_cons pe_int (pa_cons pe_int pa_nil))) (pg_tup rfl (pgs_cons (pg_name (i := 2) nd rfl (Or.inl rfl)) (pgs_cons (pg_name (i := 3) nd rfl (Or.inl rfl)) pgs_nil))))
       (pss_cons (ps_while PassesOwn.never (pt_cmpR op_lt (pv 3) (pv 1) (nomark _)) (pss_one (ps_par (i := 2) (j := 3) (by rfl) nd rfl rfl (by decide) rfl rfl (pa_cons (pe_op op_add (pe_op op_mulW (pv 2) (pe_op op_pow pe_int pe_int)) (pe_c G_wdraw (hr.mono (by decide)) rfl (pa_cons (pv 0) (pa_cons (pe_op op_pow pe_int pe_int) pa_nil)))) (pa_cons (pe_op op_mulW (pv 3) (pe_op op_pow pe_int pe_int)) pa_nil)) (by rfl))))
       (pss_one (ps_ret (pe_op op_mod (pe_callTy call_int1 (by rfl) T.b_int (by decide +kernel) (pa_cons (pv 2) pa_nil)) (pv 1)))))), ?_⟩
    refine ⟨(by show 2 ≤ sizeLine; decide), fun tp htp => ⟨tp, _, rfl, SqT.of upd_same, rfl, _, _, rfl, _, _, rfl, rfl, ?_⟩⟩
    have s1 := Same.upd (o := .tup [.int 0, .int 1]) htp
    have e9 : (10 : Int) ^ (9 : Int).toNat = 1000000000 := by decide +kernel
    refine while_by (fun σ H2 => ∃ (j : Nat) (f : Int), σ = [some (.ref a), some (.int m), some (.int f), some (.int ((1000000000 : Int) ^ j))] ∧ 0 ≤ f ∧ f < (1000000000 : Int) ^ j ∧ j ≤ 3 ∧ Src H2 a (n + j) ∧ Kp a H H2)
      (fun σ _ => match σ with | [_, _, _, some (.int r)] => (1000000000000000000000000000 - r).toNat | _ => 0)
      ⟨0, 0, rfl, Int.le_refl _, by decide, by decide, src.same s1, Kp.of s1⟩ ?_ ?_
    · rintro σ H2 ⟨j, f, rfl, f0, f1, j3, src2, k2⟩
      refine ⟨_, rfl, _, rfl, _, _, rfl, rfl, _, rfl, ?_⟩
      refine ite2 (fun c => ?_) (fun c => ?_)
      · have c' : (1000000000 : Int) ^ j < m := of_decide_eq_true c
        obtain ⟨q1, q2, q3, q4⟩ := nine_step (r := f) m1 c'
        refine ⟨_, rfl, _, _, rfl, rfl, ⟨by decide, by decide, by decide⟩, _, _, rfl, rfl, ?_, ?_⟩
        · exact wide_mul (a := 100) (b := 40) (Nat.lt_of_le_of_lt (show f.natAbs ≤ 1000000000000000000000000000 by omega) (by decide)) (by decide +kernel) (by decide) (by decide) (by decide)
        refine ⟨_, rfl, _, _, rfl, rfl, ⟨by decide, by decide, by decide⟩, a, _, _, rfl, by decide +kernel, by decide +kernel, src2, by omega, fun r H3 r0 r1 src3 k3 => ⟨_, _, rfl, rfl, _, rfl, _, _, rfl, rfl, ⟨by decide, by decide, by decide⟩, _, _, rfl, rfl, ?_, ?_⟩⟩
        · exact wide_mul (a := 100) (b := 40) (Nat.lt_of_le_of_lt (show ((1000000000 : Int) ^ j).natAbs ≤ 1000000000000000000000000000 by omega) (by decide)) (by decide +kernel) (by decide) (by decide) (by decide)
        rw [e9] at r1
        refine ⟨_, _, rfl, ⟨j + 1, f * 1000000000 + r, ?_, by omega, ?_, by omega, src3, k2.trans k3⟩, ?_⟩
        · show [some (V.ref a), some (V.int m), some (V.int (f * (10 : Int) ^ (9 : Int).toNat + r)), some (V.int ((1000000000 : Int) ^ j * (10 : Int) ^ (9 : Int).toNat))] = _
          rw [e9, q1]
        · rw [← q1]
          omega
        · show (1000000000000000000000000000 - (1000000000 : Int) ^ j * (10 : Int) ^ (9 : Int).toNat).toNat < (1000000000000000000000000000 - (1000000000 : Int) ^ j).toNat
          rw [e9]
          omega
      · refine ⟨_, rfl, .inl ⟨_, rfl, _, rfl, _, _, rfl, rfl, m0, ?_⟩⟩
        exact k _ _ (Int.emod_nonneg _ (by omega)) (Int.emod_lt_of_pos _ m0) (src2.mono (by omega)) k2
    · rintro σ H Q Q' m ⟨v, e, u, e2, i, j, e4, e5, bb, e6, q⟩
      exact ⟨v, e, u, e2, i, j, e4, e5, bb, e6, m _ _ q⟩
theorem ok_wplace (T : LX K mg L) : Cal P w K mg base "_law_place" 3 L.f__law_place ["_law_well_here", "_law_many"] (spPlace) := T.d__law_place.cal fun fd F => fn_wplace T F
end
/-! ### k48: the times -/
def spFarT : Sp := fun vs H Q _ => ∃ s n m, vs = [.ref s, .int m] ∧ Src H s n ∧ n ≤ 700000 ∧ 0 ≤ m ∧ m ≤ 300 ∧ ∀ T' l unit ns H', H' T' = some (.tup [.ref l, .int unit]) → H' l = some (.lst (ns.map V.int)) → l ≠ s → Asc 0 ns → (ns.length : Int) ≤ m → 1 ≤ unit → unit ≤ 100000000000000000000 → (∀ t ∈ ns, t ≤ 1000000000000000000000000) → Src H' s (n + 2000) → Kp s H H' → Q (.ref T') H'
theorem asc_app : ∀ {ns : List Int} {lo t : Int}, Asc lo ns → (∀ x ∈ ns, x + 1 ≤ t) → lo ≤ t → Asc lo (ns ++ [t])
  | [], lo, t, _, _, l => ⟨l, True.intro⟩
  | x :: r, lo, t, ⟨h1, h2⟩, h, _ => ⟨h1, asc_app h2 (fun y hy => h y (List.mem_cons_of_mem _ hy)) (h x (List.mem_cons_self ..))⟩
section
variable {P : Program} {w : World} {K : PySem.W.Frag} {mg : Str → Option Value} {base : Heap} {L : LA}
abbrev N_wfartimes : List Str := ["_law_well_here", "_law_most", "_law_unit", "_law_found", "_law_time", "_law_turn"]
theorem sc_wfartimes : FnScope N_wfartimes ["_law_well_here", "_law_most"] (defScope st__law_far_times) := ⟨rfl, rfl, rfl, by decide +kernel, rfl, by decide +kernel, by decide +kernel⟩
theorem fn_wfartimes (T : LX K mg L) {fd : FuncData} (F : Fun K "_law_far_times" "_law_far_times" st__law_far_times L.f__law_far_times fd) : FnOk P w K mg base CX0 6 L.f__law_far_times fd ["_law_well_here", "_law_most"] (spFarT) := by
  have G_wplace := ok_wplace (P := P) (w := w) (base := base) T
  have G_wdraw := ok_wdraw (P := P) (w := w) (base := base) T
  have G_wone := ok_wone (P := P) (w := w) (base := base) T
  have nd := sc_wfartimes.nd
  refine F.ok sc_wfartimes (fun vs H Q E h => ?_) (fun cdv A outer S H vs Q E hr h => ?_)
  · obtain ⟨s, n, m, rfl, _⟩ := h
    rfl
  · obtain ⟨s, n, m, rfl, src, hn, m0, m1, k⟩ := h
    refine ⟨_, (pss_cons (ps_set (i := 2) nd rfl (Or.inl rfl) (pe_op op_add pe_int (pe_c G_wplace (hr.mono (by decide)) rfl (pa_cons (pv 0) (pa_cons (pe_op op_pow pe_int pe_int) pa_nil)))))
       (pss_cons (ps_par (i := 3) (j := 4) (by rfl) nd rfl rfl (by decide) rfl rfl (pa_cons (pe_lst pa_nil) (pa_cons (pe_c G_wplace (hr.mono (by decide)) rfl (pa_cons (pv 0) (pa_cons (pe_op op_pow pe_int pe_int) pa_nil))) pa_nil)) (by rfl))
       (pss_cons (ps_for PassesOwn.never rfl (pi_range1 rfl T.b_range (pa_cons (pe_c G_wdraw (hr.mono (by decide)) rfl (pa_cons (pv 0) (pa_cons (pe_op op_add (pv 1) pe_int) pa_nil))) pa_nil)) (pg_name (i := 5) nd rfl (Or.inl rfl)) (pss_cons (ps_expr (pe_bm PySem.F.plainAttrs_list PySem.F.slot_list_append PySem.F.type_list_append mt_append (pv 3) (pa_cons (pv 4) pa_nil)))
       (pss_one (ps_set (i := 4) nd rfl (Or.inl rfl) (pe_op op_add (pv 4) (pe_c G_wone (hr.mono (by decide)) rfl (pa_cons (pv 0) (pa_cons (pe_lst (pa_cons (pv 2) (pa_cons (pv 2) (pa_cons (pv 2) (pa_cons (pe_op op_add pe_int (pe_c G_wplace (hr.mono (by decide)) rfl (pa_cons (pv 0) (pa_cons (pe_op op_mulW pe_int (pv 2)) pa_nil)))) pa_nil))))) pa_nil))))))))
       (pss_one (ps_ret (pe_tup (pa_cons (pv 3) (pa_cons (pv 2) pa_nil)))))))), ?_⟩
    have e20 : (10 : Int) ^ (20 : Int).toNat = 100000000000000000000 := by decide +kernel
    obtain ⟨ys0, hys0⟩ := src.has
    refine ⟨_, rfl, _, _, rfl, rfl, ⟨by decide, by decide, by decide⟩, s, _, _, rfl, by decide +kernel, by decide +kernel, src, by omega, fun q H1 q0 q1 src1 k1 => ⟨_, _, rfl, rfl, ?_⟩⟩
    rw [e20] at q1
    obtain ⟨unit, hunit⟩ : ∃ unit, unit = 1 + q := ⟨_, rfl⟩
    show gName 2 (.int (1 + q)) _ _ _
    rw [← hunit]
    have u1 : 1 ≤ unit ∧ unit ≤ 100000000000000000000 := by omega
    obtain ⟨ys1, hys1⟩ := src1.has
    refine ⟨(by show 0 ≤ sizeLine; decide), fun l0 hl0 => ?_⟩
    have s1 := Same.upd (o := .lst []) hl0
    have g1 : (upd H1 l0 (.lst [])) l0 = some (.lst []) := upd_same
    have nl0 : l0 ≠ s := (ne_of_none hys1 hl0).symm
    have nlH : H l0 = none := by
      cases e : H l0 with
      | none => rfl
      | some o =>
        rw [k1 _ _ nl0 e] at hl0
        cases hl0
    generalize upd H1 l0 (.lst []) = H2 at s1 g1 ⊢
    refine ⟨_, rfl, _, _, rfl, rfl, ⟨by decide, by decide, by decide⟩, s, _, _, rfl, by decide +kernel, by decide +kernel, src1.same s1, by omega, fun t0 H3 t00 t01 src3 k3 => ⟨_, _, rfl, ?_⟩⟩
    rw [e20] at t01
    have g3 := k3 _ _ nl0 g1
    refine ⟨_, rfl, _, rfl, _, _, rfl, rfl, s, m + 1, _, rfl, by omega, Nat.lt_of_le_of_lt (show (m + 1).natAbs ≤ 400 by omega) (by decide +kernel), src3, by omega, fun u H4 u0 u1' src4 k4 => ⟨u, rfl, by omega, by omega, ?_⟩⟩
    have g4 := k4 _ _ nl0 g3
    have kH4 : Kp s H H4 := ((k1.trans (Kp.of s1)).trans k3).trans k4
    refine for_range (lo := 0) (n := u.toNat) (fun j σ Hx => ∃ (v5 : Option V) (ns : List Int) (tm : Int), σ = [some (.ref s), some (.int m), some (.int unit), some (.ref l0), some (.int tm), v5] ∧ Hx l0 = some (.lst (ns.map V.int)) ∧ Asc 0 ns ∧ ns.length = j ∧ (∀ x ∈ ns, x + 1 ≤ tm) ∧ 0 ≤ tm ∧ tm ≤ 100000000000000000000 + 300000000000000000000 * j ∧ Src Hx s (n + 10 + 4 * j) ∧ Kp s H Hx)
      ⟨_, [], t0, rfl, g4, True.intro, rfl, fun x hx => (nomatch hx), t00, by omega, src4.mono (by omega), kH4⟩ ?_ ?_
    rotate_left
    · rintro σ Hx ⟨v5, ns, tm, rfl, hlx, asc, nsl, lt, tm0, tm1, srcx, kx⟩
      refine ⟨_, rfl, _, rfl, (by show 2 ≤ sizeLine; decide), fun T' hT' => ?_⟩
      have sT := Same.upd (o := .tup [.ref l0, .int unit]) hT'
      exact k T' l0 unit ns _ upd_same (sT _ _ hlx) nl0 asc (by omega) u1.1 u1.2 (fun t ht => by have := lt t ht; omega) ((srcx.same sT).mono (by omega)) (kx.trans (Kp.of sT))
    rintro j σ Hx hj ⟨v5, ns, tm, rfl, hlx, asc, nsl, lt, tm0, tm1, srcx, kx⟩
    have uj : u.toNat ≤ 300 := by omega
    obtain ⟨yx, hyx⟩ := srcx.has
    refine ⟨_, rfl, .inl ⟨rfl, _, SqL.of hlx⟩, _, rfl, l0, _, _, rfl, rfl, hlx, small1 (by rw [List.length_map]; omega), ?_⟩
    have g5 : (upd Hx l0 (.lst (ns.map V.int ++ [.int tm]))) l0 = some (.lst ((ns ++ [tm]).map V.int)) := by
      rw [upd_same, List.map_append]
      rfl
    have src5 : Src (upd Hx l0 (.lst (ns.map V.int ++ [.int tm]))) s (n + 10 + 4 * j) := by
      obtain ⟨x, y, z, e, q⟩ := srcx
      exact ⟨x, y, z, (upd_ne nl0.symm).trans e, q⟩
    have k5 : Kp s H (upd Hx l0 (.lst (ns.map V.int ++ [.int tm]))) := fun b o nb e => by
      rw [upd_ne (ne_of_none e nlH)]
      exact kx _ _ nb e
    show ∃ _, _
    generalize upd Hx l0 (.lst (ns.map V.int ++ [.int tm])) = H5 at g5 src5 k5 ⊢
    refine ⟨_, rfl, _, rfl, _, rfl, _, rfl, _, rfl, _, rfl, _, rfl, _, _, rfl, rfl, wide_mul (a := 20) (b := 100) (by decide) (Nat.lt_of_le_of_lt (show unit.natAbs ≤ 100000000000000000000 by omega) (by decide)) (by decide) (by decide) (by decide), s, _, _, rfl, by omega, by omega, src5, by omega, fun r H6 r0 r1 src6 k6 => ⟨_, _, rfl, rfl, (by show 4 ≤ sizeLine; decide), fun lo hlo => ?_⟩⟩
    have s6 := Same.upd (o := .lst [.int unit, .int unit, .int unit, .int (1 + r)]) hlo
    obtain ⟨y6, hy6⟩ := src6.has
    have nlo : s ≠ lo := ne_of_none hy6 hlo
    refine ⟨s, lo, [.int unit, .int unit, .int unit, .int (1 + r)], _, rfl, nlo, upd_same, Nat.succ_pos _, (by show 4 ≤ 100000; decide), src6.same s6, by omega, fun v H7 hv src7 k7 => ?_⟩
    obtain ⟨st, rfl, st0, st1⟩ : ∃ c, v = .int c ∧ 1 ≤ c ∧ c ≤ 300000000000000000000 := by
      simp only [List.mem_cons, List.mem_nil_iff, or_false] at hv
      rcases hv with rfl | rfl | rfl | rfl
      · exact ⟨_, rfl, by omega, by omega⟩
      · exact ⟨_, rfl, by omega, by omega⟩
      · exact ⟨_, rfl, by omega, by omega⟩
      · exact ⟨_, rfl, by omega, by omega⟩
    have k57 := (k6.trans (Kp.of s6)).trans k7
    refine ⟨_, _, rfl, rfl, _, ns ++ [tm], tm + st, rfl, k57 _ _ nl0 g5, asc_app asc lt tm0, by rw [List.length_append]; show ns.length + 1 = j + 1; omega, fun x hx => ?_, by omega, by rw [show ((j + 1 : Nat) : Int) = (j : Int) + 1 by omega]; omega, src7.mono (by omega), k5.trans k57⟩
    rcases List.mem_append.mp hx with hx | hx
    · have := lt x hx
      omega
    · rw [List.mem_singleton.mp hx]
      omega
theorem ok_wfartimes (T : LX K mg L) : Cal P w K mg base "_law_far_times" 6 L.f__law_far_times ["_law_well_here", "_law_most"] (spFarT) := T.d__law_far_times.cal fun fd F => fn_wfartimes T F
end
/-! ### sorted of a list of data that is sorted -/
def rSortP (K : PySem.W.Frag) : List V → Hp → VK → Prop := fun xs H Q => ∃ (p : Addr) (ys : List V) (ds : List PyData), xs = [.ref p] ∧ SqL K H p ys ∧ DpAll K H ys ds ∧ PySem.W.AllAlike ds ∧ PySem.W.Sortable ds ∧ (∀ d ∈ ds, d.depth ≤ 50) ∧ ds.Pairwise (fun a b => PySem.W.dataLe false id a b = true) ∧ ys.length ≤ sizeLine ∧ ∀ q, H q = none → Q (.ref q) (upd H q (.lst ys))
theorem dpAll_len {K : PySem.W.Frag} {H : Hp} : ∀ {ys : List V} {ds : List PyData}, DpAll K H ys ds → ys.length = ds.length
  | _, _, .nil => rfl
  | _, _, .cons _ t => congrArg Nat.succ (dpAll_len t)
theorem each_dp {X : Cx} {pins : List (Addr × Obj)} {σ : St} {H : Hp} {s : Shared} (I : Inv X pins σ H s) : ∀ {ys : List V} {ds : List PyData} {us : List Value}, DpAll X.K H ys ds → Vals ys us → PySem.W.EachIs (fun v (b : V × PyData) => RelV b.1 v) us (ys.zip ds) ∧ PySem.W.EachIs (fun v (b : V × PyData) => ∃ as, Reads s.heap v b.2 as) us (ys.zip ds)
  | _, _, _, .nil, .nil => ⟨.nil, .nil⟩
  | _, _, _, .cons hd tl, .cons r rr => by
    obtain ⟨a, b⟩ := each_dp I tl rr
    exact ⟨.cons r a, .cons (Dp.reads I _ _ _ hd r) b⟩
theorem vals_each : ∀ {us : List Value} {bs : List (V × PyData)}, PySem.W.EachIs (fun v (b : V × PyData) => RelV b.1 v) us bs → Vals (bs.map (·.1)) us
  | _, _, .nil => .nil
  | _, _, .cons r t => .cons r (vals_each t)
theorem call_sortedP {X : Cx} (hu : X.A.units + 64 < cLine) : CallR X (.builtin "sorted") (rSortP X.K) := by
  intro pins s σ H xs us Q I r h
  obtain ⟨p, ys, ds, rfl, hs, hd, al, so, dl, pw, yl, q⟩ := h
  obtain ⟨its, rv, hl, _⟩ := I.list hs
  rw [Vals.ref1 r]
  obtain ⟨e1, e2⟩ := each_dp I hd rv
  have len := dpAll_len hd
  have m2 : (ys.zip ds).map Prod.snd = ds := List.map_snd_zip (by omega)
  have m1 : (ys.zip ds).map Prod.fst = ys := List.map_fst_zip (by omega)
  have zl : (ys.zip ds).length = ys.length := by rw [List.length_zip]; omega
  refine PySem.W.sorted_data (enc := Prod.snd) hl.isList e1 e2 (by rw [m2]; exact al) (by rw [m2]; exact so) (by omega) (fun b hb => ?_) fun out ho eo => ?_
  · have := dl b.2 (by rw [← m2]; exact List.mem_map.mpr ⟨b, hb, rfl⟩)
    omega
  · have pz : (ys.zip ds).Pairwise (fun a b => PySem.W.dataLe false Prod.snd a b = true) := by
      rw [← m2, List.pairwise_map] at pw
      exact pw
    rw [List.mergeSort_of_pairwise pz] at eo
    have vo := vals_each eo
    rw [m1] at vo
    obtain ⟨ep, he'⟩ := PyProof.Rows.sortedAll_at s.heap its (List.toArray out)
    exact ⟨.ref _, upd H (s.heap.objs.size + 1) (.lst ys), I.laid (t' := s.toks) (fun _ _ => PyProof.Rows.sortedAll_old) (Nat.le_succ _) ⟨yl, out, ep, vo, he'⟩, rfl, q _ (I.hok.fresh (Nat.le_succ _))⟩
/-! ### a op b op c op d, asked as a test -/
def tFour (r r2 r3 : R2) (ta tb tc td : TE) : TT := fun σ H Q => ta σ H fun x H1 => tb σ H1 fun y H2 => r x y H2 fun z H3 => ∃ k : Bool, z = .bl k ∧
  if k = true then (tc σ H3 fun y2 H4 => r2 y y2 H4 fun z2 H5 => ∃ k2 : Bool, z2 = .bl k2 ∧ if k2 = true then (td σ H5 fun y3 H6 => r3 y2 y3 H6 fun z3 H7 => ∃ k3 : Bool, z3 = .bl k3 ∧ Q k3 H7) else Q false H5) else Q false H3
theorem pt_four {X : Cx} {a b c d : Expr} {ta tb tc td : TE} {pos : Pos} {o1 o2 o3 : CmpOp} {r r2 r3 : R2} (h1 : OpR X (compareOp o1) r) (h2 : OpR X (compareOp o2) r2) (h3 : OpR X (compareOp o3) r3) (ha : PE X a ta) (hb : PE X b tb) (hc : PE X c tc) (hd : PE X d td)
    (hm : lastMarks [o1, o2, o3] [b, c, d] = false := by with_unfolding_all rfl) : PT X (.Compare a [o1, o2, o3] [b, c, d] pos) (tFour r r2 r3 ta tb tc td) := by
  constructor
  intro pins s0 σ H Q I0 w0
  refine PyProof.Rows.isTrue_chain ?_ hm
  refine thn (ha.run pins s0 σ H _ I0 w0) ?_
  rintro v sa ⟨x, Ha, Ia, rx, wa⟩
  refine PyProof.Rows.test_link ?_
  refine thn (hb.run pins sa σ Ha _ Ia wa) ?_
  rintro u sb ⟨y, Hb, Ib, ry, wb⟩
  refine thn (h1 pins sb σ Hb x y v u _ Ib rx ry wb) ?_
  rintro e1 sc ⟨z, Hc, Ic, rz, k, rfl, wc⟩
  cases rz
  refine wpAny_truthy_bool ?_
  cases k with
  | false => exact iteF ⟨Hc, Ic, wc⟩
  | true =>
    refine iteT (PyProof.Rows.test_link ?_)
    refine thn (hc.run pins sc σ Hc _ Ic wc) ?_
    rintro u2 sd ⟨y2, Hd, Id, ry2, wd⟩
    refine thn (h2 pins sd σ Hd y y2 u u2 _ Id ry ry2 wd) ?_
    rintro e2 se ⟨z2, He, Ie, rz2, k2, rfl, we⟩
    cases rz2
    refine wpAny_truthy_bool ?_
    cases k2 with
    | false => exact iteF ⟨He, Ie, we⟩
    | true =>
      refine iteT (PyProof.Rows.test_last ?_)
      refine thn (hd.run pins se σ He _ Ie we) ?_
      rintro u3 sf ⟨y3, Hf, If, ry3, wf⟩
      refine thn (h3 pins sf σ Hf y2 y3 u2 u3 _ If ry2 ry3 wf) ?_
      rintro e3 sg ⟨z3, Hg, Ig, rz3, k3, rfl, wg⟩
      cases rz3
      exact wpAny_truthy_bool ⟨Hg, Ig, wg⟩
/-! ### k48: the law's turns -/
def spLRight : Sp := fun vs H Q _ => ∃ s, vs = [.ref s] ∧ Src H s 0 ∧ ∀ H', Kp s H H' → Q (.bl true) H'
theorem pe_dgX {X : Cx} {o i : Expr} {pos : Pos} {td ty : TE} (ho : PE X o td) (hi : PE X i ty) (hs : NoSl i) (hu : X.A.units + 64 < cLine) : PE X (.Subscript o i pos) (tDGet td ty) := pe_dget (by omega) ho hi hs
theorem pc_dinX {X : Cx} {o i : Expr} {td ty : TE} (hi : PE X i ty) (ho : PE X o td) (hu : X.A.units + 64 < cLine) : PC X .In i o (tDIn ty td) := pc_din (by omega) hi ho
theorem triL_sh (ts : List Tri) : SeqAt.shaped (.list (ts.map triD)) = true := by
  refine Bool.and_eq_true_iff.mpr ⟨?_, decide_eq_true ?_⟩
  · rw [PyData.canLay0]
    exact canAll ts
  · have := depAll ts
    rw [PyData.depth]
    omega
theorem triL_eq (ts us : List Tri) : PyData.eqv (.list (ts.map triD)) (.list (us.map triD)) = decide (ts = us) := by
  rw [PyData.eqv]
  exact triDs_eq ts us
/-! what is told ascends -/
theorem triD_lt {a b : Tri} (h : a.1 < b.1) : PySem.W.dataLe false id (triD a) (triD b) = true := by
  show (!PySem.W.dataLt (triD b) (triD a)) = true
  have e : PySem.W.dataLt (triD b) (triD a) = false := by
    unfold triD
    rw [PySem.W.dataLt_tuple, PySem.W.dataLt_cons (by simp [PySem.W.alike]), if_neg (by simp [PyData.eqv]; omega), PySem.W.dataLt_int]
    exact decide_eq_false (by omega)
  rw [e]
  rfl
theorem exUp_hi (ps : Lg) (n : Nat) : ∀ e ∈ exUp ps n, e.1 ≤ (n : Int) := fun e he => by
  obtain ⟨j, hj, h⟩ := List.mem_flatMap.mp he
  have hj := List.mem_range.mp hj
  unfold exF at h
  split at h
  · rw [List.mem_singleton.mp h]
    show ((j + 1 : Nat) : Int) ≤ n
    omega
  · cases h
theorem exUp_asc (ps : Lg) : ∀ n : Nat, (exUp ps n).Pairwise fun a b => a.1 < b.1
  | 0 => .nil
  | n + 1 => by
    have e : exUp ps (n + 1) = exUp ps n ++ exF ps (n + 1) := by
      unfold exUp
      rw [List.range_succ, List.flatMap_append]
      simp
    rw [e, List.pairwise_append]
    refine ⟨exUp_asc ps n, ?_, fun a ha b hb => ?_⟩
    · unfold exF
      split
      · exact List.pairwise_singleton ..
      · exact .nil
    · have := exUp_hi ps n a ha
      unfold exF at hb
      split at hb
      · rw [List.mem_singleton.mp hb]
        show a.1 < ((n + 1 : Nat) : Int)
        omega
      · cases hb
theorem exG_asc (ps : Lg) : (exG ps).Pairwise fun a b => a.1 < b.1 := by
  unfold exG
  split
  · exact List.pairwise_singleton ..
  · exact exUp_asc ps _
theorem exG_alike (ps : Lg) : PySem.W.AllAlike ((exG ps).map triD) := PySem.W.AllAlike.of fun b b' => by
  unfold triD
  simp [PySem.W.alike, PySem.W.alikeAll]
theorem exG_sortable (ps : Lg) : PySem.W.Sortable ((exG ps).map triD) := PySem.W.Sortable.tuples fun b => ⟨_, _, rfl⟩
theorem exG_le (ps : Lg) : ((exG ps).map triD).Pairwise (fun a b => PySem.W.dataLe false id a b = true) := by
  rw [List.pairwise_map]
  exact (exG_asc ps).imp fun h => triD_lt h
theorem triD_dep (ts : List Tri) : ∀ d ∈ ts.map triD, d.depth ≤ 50 := fun d hd => by
  obtain ⟨t, _, rfl⟩ := List.mem_map.mp hd
  simp [triD, PyData.depth, PyData.depthAll]
/-! the dict of what was told -/
theorem merge_new : ∀ {r acc : List (Key × V)}, (∀ a ∈ acc, ∀ b ∈ r, a.1 ≠ b.1) → r.Pairwise (fun a b => a.1 ≠ b.1) → mergeK acc r = acc ++ r
  | [], acc, _, _ => (List.append_nil acc).symm
  | kv :: r, acc, h, p => by
    rw [List.pairwise_cons] at p
    have n : valV acc kv.1 = none := by
      cases q : valV acc kv.1 with
      | none => rfl
      | some x =>
        have := valV_any kv.1 acc
        rw [q] at this
        obtain ⟨a, ha, e⟩ := List.any_eq_true.mp this
        exact absurd (of_decide_eq_true e) (h a ha kv (List.mem_cons_self ..))
    show mergeK (putK acc kv.1 kv.2) r = _
    rw [putK_new _ n, merge_new (fun a ha b hb => ?_) p.2]
    · rw [List.append_assoc]
      rfl
    · rcases List.mem_append.mp ha with ha | ha
      · exact h a ha b (List.mem_cons_of_mem _ hb)
      · rw [List.mem_singleton.mp ha]
        exact p.1 b hb
def PrK (H : Hp) (kv : Key × V) (e : Tri) : Prop := kv.1 = .inl e.1 ∧ ∃ c, kv.2 = .ref c ∧ H c = some (.tup [.int e.2.1, .int e.2.2])
theorem prK_ne {H : Hp} : ∀ {kvs : List (Key × V)} {es : List Tri}, Paired (PrK H) kvs es → es.Pairwise (fun a b => a.1 < b.1) → kvs.Pairwise (fun a b => a.1 ≠ b.1)
  | _, _, .nil, _ => .nil
  | _, _, .cons (a := kv) (b := e) (l₁ := kvs) (l₂ := es) h t, p => by
    rw [List.pairwise_cons] at p
    refine List.pairwise_cons.mpr ⟨fun kv' hk => ?_, prK_ne t p.2⟩
    obtain ⟨i, hi⟩ := List.getElem?_of_mem hk
    obtain ⟨e', he, hh⟩ := paired_get t hi
    have := p.1 e' (List.mem_of_getElem? he)
    rw [h.1, hh.1]
    intro z
    have := Sum.inl.inj z
    omega
theorem prK_val {H : Hp} (k : Int) : ∀ {kvs : List (Key × V)} {es : List Tri}, Paired (PrK H) kvs es → valV kvs (.inl k : Key) = none ∨ ∃ e ∈ es, e.1 = k ∧ ∃ c, valV kvs (.inl k : Key) = some (.ref c) ∧ H c = some (.tup [.int e.2.1, .int e.2.2])
  | _, _, .nil => .inl rfl
  | _, _, .cons (a := kv) (b := e) h t => by
    obtain ⟨h1, c, h2, h3⟩ := h
    by_cases q : e.1 = k
    · refine .inr ⟨e, List.mem_cons_self .., q, c, ?_, h3⟩
      rw [valV_pos (by rw [h1, q]), h2]
    · have q' : ¬ kv.1 = .inl k := fun z => q (Sum.inl.inj (h1.symm.trans z))
      rw [valV_neg q']
      rcases prK_val k t with z | ⟨e', he, x⟩
      · exact .inl z
      · exact .inr ⟨e', List.mem_cons_of_mem _ he, x⟩
theorem ex_app {ps : Lg} {q : Int × Bool} (hc : ps = [] ∨ 1 ≤ aheadG ps) {e e' : Tri} (he : e ∈ exG ps) (he' : e' ∈ exG (ps ++ [q])) (h : e.1 = e'.1) : e.2.1 ≤ e'.2.1 ∧ e'.2.1 ≤ e'.2.2 ∧ e'.2.2 ≤ e.2.2 := by
  obtain ⟨_, b1, b2, b3, _⟩ := ex_says he'
  by_cases hn : ps = []
  · subst hn
    have : e ∈ [((1, 1, mtE) : Tri)] := he
    rw [List.mem_singleton.mp this]
    exact ⟨b1, b2, b3⟩
  · have h0 : 1 ≤ aheadG ps := by
      rcases hc with z | z
      · exact absurd z hn
      · exact z
    obtain ⟨k, k1, k2, k3, rfl⟩ := (ex_mem hn).mp he
    obtain ⟨k', _, _, _, rfl⟩ := (ex_mem (ps := ps ++ [q]) (by simp)).mp he'
    have h : (k : Int) = (k' : Int) := h
    have hk : k = k' := by omega
    subst hk
    have := bn_app (q := q) h0 (ps.length - k) k k1 (by have := ahead_le ps; omega)
    exact ⟨this.1, b2, this.2⟩
/-! the first time behind -/
theorem asc_last : ∀ {r : List Int} {lo t : Int}, Asc lo (r ++ [t]) → lo ≤ t ∧ ∀ x ∈ r, x + 1 ≤ t
  | [], _, _, h => ⟨h.1, fun x hx => nomatch hx⟩
  | y :: r, lo, t, h => by
    obtain ⟨h1, h2⟩ := h
    obtain ⟨i1, i2⟩ := asc_last (r := r) h2
    refine ⟨by omega, fun x hx => ?_⟩
    rcases List.mem_cons.mp hx with hx | hx
    · omega
    · exact i2 x hx
theorem last_base {ns : List Int} (asc : Asc 0 ns) (top : ∀ t ∈ ns, t ≤ 1000000000000000000000000) : ∃ t0 : Int, atI (ns.map V.int ++ [V.int 0]) ((ns.length : Int) - 1) = some (.int t0) ∧ 0 ≤ t0 ∧ t0 ≤ 1000000000000000000000000 ∧ ∀ t ∈ ns, t ≤ t0 := by
  rcases List.eq_nil_or_concat ns with rfl | ⟨r, t, rfl⟩
  · exact ⟨0, rfl, Int.le_refl _, by decide, fun t h => nomatch h⟩
  · rw [List.concat_eq_append] at asc top ⊢
    have nn := asc_nn (Int.le_refl 0) asc
    refine ⟨t, ?_, nn t (by simp), top t (by simp), fun x hx => ?_⟩
    · rw [show (((r ++ [t]).length : Nat) : Int) - 1 = ((r.length : Nat) : Int) by rw [List.length_append, List.length_singleton]; omega]
      refine atI_nat ?_
      rw [List.map_append, List.append_assoc, List.getElem?_append_right (by rw [List.length_map]; exact Nat.le_refl _), List.length_map, Nat.sub_self]
      rfl
    · rcases List.mem_append.mp hx with hx | hx
      · have := (asc_last asc).2 x hx
        omega
      · rw [List.mem_singleton.mp hx]
        exact Int.le_refl _
theorem latA_in' : ∀ {ps : Lg} {o : Option Int} {v : Int}, latA o ps = some v → o = some v ∨ ∃ q ∈ ps, q.1 = v
  | [], _, _, h => .inl h
  | (t, p) :: r, o, v, h => by
    rcases latA_in' (ps := r) h with e | ⟨q, hq, e⟩
    · cases p with
      | true => exact .inr ⟨(t, true), List.mem_cons_self .., Option.some.inj e⟩
      | false => exact .inl e
    · exact .inr ⟨q, List.mem_cons_of_mem _ hq, e⟩
theorem latA_in {ps : Lg} {v : Int} (h : latA none ps = some v) : ∃ q ∈ ps, q.1 = v := by
  rcases latA_in' h with e | e
  · cases e
  · exact e
section
variable {P : Program} {w : World} {K : PySem.W.Frag} {mg : Str → Option Value} {base : Heap} {L : LA}
abbrev N_wright : List Str := ["_law_well_here", "_law_times", "_law_unit", "_law_breaker", "_law_log", "_law_told", "_law_failures", "_law_low", "_law_high", "_law_is_mine", "_law_later", "_law_word", "_law_next_log", "_law_pairs", "_law_time", "_law_is_passed"]
theorem sc_wright : FnScope N_wright ["_law_well_here"] (defScope st__law_right) := ⟨rfl, rfl, rfl, by decide +kernel, rfl, by decide +kernel, by decide +kernel⟩
theorem fn_wright (T : LX K mg L) {fd : FuncData} (F : Fun K "_law_right" "_law_right" st__law_right L.f__law_right fd) : FnOk P w K mg base CX0 11 L.f__law_right fd ["_law_well_here"] (spLRight) := by
  have G_wfartimes := ok_wfartimes (P := P) (w := w) (base := base) T
  have G_logof := ok_logof (P := P) (w := w) (base := base) T
  have G_explanations := ok_explanations (P := P) (w := w) (base := base) T
  have G_wplace := ok_wplace (P := P) (w := w) (base := base) T
  have G_forecast := ok_forecast (P := P) (w := w) (base := base) T
  have G_wdraw := ok_wdraw (P := P) (w := w) (base := base) T
  have G_firstconflict := ok_firstconflict (P := P) (w := w) (base := base) T
  have G_wboundsright := ok_wboundsright (P := P) (w := w) (base := base) T
  have nd := sc_wright.nd
  refine F.ok sc_wright (fun vs H Q E h => ?_) (fun cdv A outer S H vs Q E hr h => ?_)
  · obtain ⟨s, rfl, _⟩ := h
    rfl
  · obtain ⟨s, rfl, src, k⟩ := h
    refine ⟨_, (pss_cons (ps_asg (pe_c G_wfartimes (hr.mono (by decide)) rfl (pa_cons (pv 0) (pa_cons pe_int pa_nil))) (pg_tup rfl (pgs_cons (pg_name (i := 1) nd rfl (Or.inl rfl)) (pgs_cons (pg_name (i := 2) nd rfl (Or.inl rfl)) pgs_nil))))
       (pss_cons (ps_set (i := 3) nd rfl (Or.inr rfl) (pe_tup (pa_cons (pe_op op_add pe_int (pe_c G_wdraw (hr.mono (by decide)) rfl (pa_cons (pv 0) (pa_cons pe_int pa_nil)))) (pa_cons (pe_op op_add pe_int (pe_c G_wplace (hr.mono (by decide)) rfl (pa_cons (pv 0) (pa_cons (pe_op op_mulW pe_int (pv 2)) pa_nil)))) (pa_cons pe_int pa_nil)))))
       (pss_cons (ps_set (i := 4) nd rfl (Or.inl rfl) (pe_c G_logof (hr.mono (by decide)) rfl (pa_cons (pv 3) (pa_cons (pv 1) pa_nil))))
       (pss_cons (ps_set (i := 5) nd rfl (Or.inl rfl) (pe_c G_explanations (hr.mono (by decide)) rfl (pa_cons (pv 4) pa_nil)))
       (pss_cons (ps_if (PW.pt (pw_or (pt_cmpR (op_eqD hr.units) (pv 5) (pe_lst pa_nil) (nomark _)) (pw_or (pt_cmp (pc_notN (pe_c G_firstconflict (hr.mono (by decide)) rfl (pa_cons (pv 4) pa_nil)))) (pw_or1 (pt_cmpR (op_neD hr.units) (pv 5) (pe_callB (call_sortedP hr.units) (by rfl) T.b_sorted (by decide +kernel) (pa_cons (pv 5) pa_nil)) (nomark _)))))) (pss_one (ps_ret pe_bl)) pss_nil)
       (pss_cons (ps_set (i := 9) nd rfl (Or.inl rfl) (pe_cmpR (op_neD hr.units) (pe_lc (own := [("_law_failures", 6), ("_law_low", 7), ("_law_high", 8)]) (g := gTup K 3 (gCons (gName 6) (gCons (gName 7) (gCons (gName 8) (gNil))))) rfl nd (pi_list (pv 5)) (blkOk_by (own := [("_law_failures", 6), ("_law_low", 7), ("_law_high", 8)]) (N := N_wright) (sc := defScope st__law_right) (by decide +kernel)) (fun _ _ _ _ _ => pg_tup rfl (pgs_cons (pg_name (i := 6) nd rfl (Or.inl rfl)) (pgs_cons (pg_name (i := 7) nd rfl (Or.inl rfl)) (pgs_cons (pg_name (i := 8) nd rfl (Or.inl rfl)) pgs_nil)))) (fun _ _ _ _ _ => pts_one (PW.pt (pw_and (pt_cmpR op_eq (pv 6) (pe_ix (r := rIxT K) ix_tup (pv 3) pe_int (fun _ _ => rfl)) (nomark _)) (pw_and1 (pt_chain op_le op_le (pv 7) (pe_ix (r := rIxT K) ix_tup (pv 3) pe_int (fun _ _ => rfl)) (pv 8)))))) (fun _ _ _ _ _ => pe_int)) (pe_lst pa_nil) (nomark _)))
       (C8.pss_cut (ps_if (PW.pt (pw_and (pt_not (pt_val (pv 9))) (pw_and1 (pt_cmpR (op_neD hr.units) (pe_lc (own := [("_law_time", 14), ("_law_is_passed", 15)]) (g := gTup K 2 (gCons (gName 14) (gCons (gName 15) (gNil)))) rfl nd (pi_list (pv 4)) (blkOk_by (own := [("_law_time", 14), ("_law_is_passed", 15)]) (N := N_wright) (sc := defScope st__law_right) (by decide +kernel)) (fun _ _ _ _ _ => pg_tup rfl (pgs_cons (pg_name (i := 14) nd rfl (Or.inl rfl)) (pgs_cons (pg_name (i := 15) nd rfl (Or.inl rfl)) pgs_nil))) (fun _ _ _ _ _ => pts_one (pt_not (pt_val (pv 15)))) (fun _ _ _ _ _ => pe_int)) (pe_lst pa_nil) (nomark _))))) (pss_one (ps_ret pe_bl)) pss_nil)
       (pss_cons (ps_for PassesOwn.never rfl (pi_list (pe_op op_cat (pe_slice (r := rSlL K) sl_list (pv 5) po_none (po_some pe_int)) (pe_slice (r := rSlL K) sl_list (pv 5) (po_some (pe_un un_neg pe_int)) po_none))) (pg_tup rfl (pgs_cons (pg_name (i := 6) nd rfl (Or.inl rfl)) (pgs_cons (pg_name (i := 7) nd rfl (Or.inl rfl)) (pgs_cons (pg_name (i := 8) nd rfl (Or.inl rfl)) pgs_nil)))) (pss_one (ps_if (pt_not (pt_val (pe_c G_wboundsright (hr.mono (by decide)) rfl (pa_cons (pv 4) (pa_cons (pv 1) (pa_cons (pv 6) (pa_cons (pv 7) (pa_cons (pv 8) pa_nil)))))))) (pss_one (ps_ret pe_bl)) pss_nil)))
       (pss_cons (ps_set (i := 10) nd rfl (Or.inl rfl) (pe_op op_add (pe_op op_add (pe_ix (r := rIxL K) ix_list (pe_op op_cat (pv 1) (pe_lst (pa_cons pe_int pa_nil))) (pe_op op_sub (pe_callB call_len_seq (by rfl) T.b_len PySem.boot_len (pa_cons (pv 1) pa_nil)) pe_int) (fun _ _ => rfl)) pe_int) (pe_c G_wplace (hr.mono (by decide)) rfl (pa_cons (pv 0) (pa_cons (pe_op op_mulW pe_int (pv 2)) pa_nil)))))
       (pss_cons (ps_par (i := 11) (j := 12) (by rfl) nd rfl rfl (by decide) rfl rfl (pa_cons (pe_c G_forecast (hr.mono (by decide)) rfl (pa_cons (pv 4) (pa_cons (pv 10) pa_nil))) (pa_cons (pe_c G_logof (hr.mono (by decide)) rfl (pa_cons (pv 3) (pa_cons (pe_op op_cat (pv 1) (pe_lst (pa_cons (pv 10) pa_nil))) pa_nil))) pa_nil)) (by rfl))
       (C8.pss_cut (ps_if (PW.pt (pw_and (pt_cmpR op_ne (pv 11) pe_str (nomark _)) (pw_and1 (pt_cmpR op_ne (pe_cmpR op_eq (pv 11) pe_str (nomark _)) (pe_ix (r := rIxT K) ix_tup (pe_ix (r := rIxL K) ix_list (pv 12) (pe_un un_neg pe_int) (fun _ _ => rfl)) pe_int (fun _ _ => rfl)) (nomark _))))) (pss_one (ps_ret pe_bl)) pss_nil)
       (pss_cons (ps_set (i := 13) nd rfl (Or.inl rfl) (pe_callTy (call_dictP rfl) (by rfl) T.b_dict (by decide +kernel) (pa_cons (pe_lc (own := [("_law_failures", 6), ("_law_low", 7), ("_law_high", 8)]) (g := gTup K 3 (gCons (gName 6) (gCons (gName 7) (gCons (gName 8) (gNil))))) (tt := tYes) rfl nd (pi_list (pv 5)) (blkOk_by (own := [("_law_failures", 6), ("_law_low", 7), ("_law_high", 8)]) (N := N_wright) (sc := defScope st__law_right) (by decide +kernel)) (fun _ _ _ _ _ => pg_tup rfl (pgs_cons (pg_name (i := 6) nd rfl (Or.inl rfl)) (pgs_cons (pg_name (i := 7) nd rfl (Or.inl rfl)) (pgs_cons (pg_name (i := 8) nd rfl (Or.inl rfl)) pgs_nil)))) (fun _ _ _ _ _ => pts_nil) (fun _ _ _ _ _ => (pe_tup (pa_cons (pv 6) (pa_cons (pe_tup (pa_cons (pv 7) (pa_cons (pv 8) pa_nil))) pa_nil))))) pa_nil)))
       (pss_cons (ps_for PassesOwn.never rfl (pi_list (pe_c G_explanations (hr.mono (by decide)) rfl (pa_cons (pv 12) pa_nil))) (pg_tup rfl (pgs_cons (pg_name (i := 6) nd rfl (Or.inl rfl)) (pgs_cons (pg_name (i := 7) nd rfl (Or.inl rfl)) (pgs_cons (pg_name (i := 8) nd rfl (Or.inl rfl)) pgs_nil)))) (pss_one (ps_if (PW.pt (pw_and (pt_cmp (pc_dinX (pv 6) (pv 13) hr.units)) (pw_and1 (pt_not (pt_four op_le op_le op_le (pe_ix (r := rIxT K) ix_tup (pe_dgX (pv 13) (pv 6) (fun _ _ => rfl) hr.units) pe_int (fun _ _ => rfl)) (pv 7) (pv 8) (pe_ix (r := rIxT K) ix_tup (pe_dgX (pv 13) (pv 6) (fun _ _ => rfl) hr.units) pe_int (fun _ _ => rfl))))))) (pss_one (ps_ret pe_bl)) pss_nil)))
       (pss_one (ps_ret pe_bl))))))))))))))), ?_⟩
    obtain ⟨ys0, hys0⟩ := src.has
    -- the times, the breaker, its log
    refine ⟨_, rfl, s, 0, 300, rfl, src, by omega, by decide, by decide, fun T l unit ns H1 hT hl nls asc nsl u1 u2 tbd src1 k1 => ⟨T, _, rfl, SqT.of hT, rfl, _, _, rfl, _, _, rfl, rfl, ?_⟩⟩
    refine ⟨_, rfl, s, 6, _, rfl, by decide, by decide +kernel, src1, by omega, fun d1 H2 d10 d11 src2 k2 => ⟨_, _, rfl, rfl, ?_⟩⟩
    refine ⟨_, rfl, _, rfl, _, _, rfl, rfl, wide_mul (a := 20) (b := 100) (by decide) (Nat.lt_of_le_of_lt (show unit.natAbs ≤ 100000000000000000000 by omega) (by decide)) (by decide) (by decide) (by decide), s, _, _, rfl, by omega, by omega, src2, by omega, fun r H3 r0 r1 src3 k3 => ⟨_, _, rfl, rfl, (by show 3 ≤ sizeLine; decide), fun tb ntb => ?_⟩⟩
    obtain ⟨f, hf⟩ : ∃ f : Nat, (f : Int) = 1 + d1 := ⟨(1 + d1).toNat, by omega⟩
    obtain ⟨w0, hw0⟩ : ∃ w0 : Int, w0 = 1 + r := ⟨_, rfl⟩
    show gName 3 (.ref tb) _ (upd H3 tb (.tup [.int (1 + d1), .int (1 + r), .int 1])) _
    rw [← hf, ← hw0]
    have w01 : 1 ≤ w0 ∧ w0 ≤ 600000000000000000000 := by omega
    have sb := Same.upd (o := .tup [.int (f : Int), .int w0, .int 1]) ntb
    have hb : (upd H3 tb (.tup [.int (f : Int), .int w0, .int 1])) tb = some (.tup [.int (f : Int), .int w0, .int 1]) := upd_same
    have k1b := ((k1.trans k2).trans k3).trans (Kp.of sb)
    have hl3 := (((k2.trans k3).trans (Kp.of sb)) _ _ nls hl)
    have srcb := src3.same sb
    generalize upd H3 tb (.tup [.int (f : Int), .int w0, .int 1]) = H4 at hb k1b hl3 srcb
    have okb : OkT ((f : Int), w0, 1) := ⟨by show 1 ≤ (f : Int); omega, by show (f : Int) ≤ _; omega, by show 1 ≤ w0; omega, by show w0 ≤ _; omega, by show (1 : Int) ≤ 1; decide, by show (1 : Int) ≤ 1000000000000; decide⟩
    refine ⟨_, rfl, _, rfl, .ref tb, ((f : Int), w0, 1), l, ns, rfl, ⟨tb, rfl, hb⟩, okb, hl3, asc, by omega, fun la zs H5 hla hza s5 nla => ?_⟩
    have O : Own f w0 (lgG ((f : Int), w0, 1) ("closed", 0) ns) := ⟨by omega, w01.1, by show w0 ≤ 1000000000000000000000000000000; omega, own_fit _ _ _⟩
    have ef := lg_fst ((f : Int), w0, 1) ns ("closed", 0)
    have el := lgG_len ((f : Int), w0, 1) ns ("closed", 0)
    obtain ⟨ps, hps⟩ : ∃ ps, ps = lgG ((f : Int), w0, 1) ("closed", 0) ns := ⟨_, rfl⟩
    rw [← hps] at hza O ef el
    have ok : OkLog ps := ⟨by rw [ef]; exact asc, by omega⟩
    have hc := O.cons
    refine ⟨_, rfl, la, zs, ps, rfl, hla, hza, ok, fun lt ys H6 hlt hys s6 nlt => ?_⟩
    have s56 := s5.trans s6
    have hb6 := s56 _ _ hb
    have hl6 := s56 _ _ hl3
    have hla6 := s6 _ _ hla
    have hza6 := hza.same s6
    have k16 := k1b.trans (Kp.of s56)
    have src6 := srcb.same s56
    have yl := hys.len
    have exl : (exG ps).length ≤ 301 := by
      unfold exG
      split
      · decide
      · have := exUp_len ps ps.length
        omega
    have exn : exG ps ≠ [] := by
      by_cases hn : ps = []
      · subst hn
        exact List.cons_ne_nil _ _
      · rcases hc with z | z
        · exact absurd z hn
        · exact ex_ne hn z.1 z.2
    -- nothing told is wrong in form
    refine ⟨_, rfl, (by show 0 ≤ sizeLine; decide), fun l0 hl0 => ?_⟩
    have s7 := Same.upd (o := .lst []) hl0
    refine ⟨_, _, .lst (SqL.of (s7 _ _ hlt)) (hys.nl (NL.of s7)).dp, .lst (xs := []) (SqL.of upd_same) .nil, triL_sh _, triL_sh [], false, ?_, iteF ?_⟩
    · show V.bl (PyData.eqv (.list ((exG ps).map triD)) (.list (([] : List Tri).map triD))) = _
      rw [triL_eq, decide_eq_false exn]
    refine ⟨_, rfl, la, zs, ps, rfl, s7 _ _ hla6, hza6.same s7, ok, hc, fun H8 s8 => ?_⟩
    have s78 := s7.trans s8
    have hlt8 := s78 _ _ hlt
    have hys8 := hys.nl (NL.of s78)
    refine ⟨_, rfl, iteF ?_⟩
    refine ⟨_, rfl, _, rfl, lt, ys, (exG ps).map triD, rfl, SqL.of hlt8, hys8.dp, exG_alike ps, exG_sortable ps, triD_dep _, exG_le ps, (Nat.le_of_lt (small1 (by omega))), fun q nq => ?_⟩
    have sq := Same.upd (o := .lst ys) nq
    refine ⟨_, _, .lst (SqL.of (sq _ _ hlt8)) (hys8.nl (NL.of sq)).dp, .lst (SqL.of upd_same) (hys8.nl (NL.of sq)).dp, triL_sh _, triL_sh _, false, ?_, iteF ?_⟩
    · rw [triL_eq, decide_eq_true rfl]
      rfl
    have s69 := s78.trans sq
    have k69 := k16.trans (Kp.of s69)
    have src9 := src6.same s69
    have hb9 := s69 _ _ hb6
    have hl9 := s69 _ _ hl6
    have hla9 := s69 _ _ hla6
    have hza9 := hza6.same s69
    have hlt9 := s69 _ _ hlt
    have hys9 : Brs (upd H8 q (.lst ys)) ys (exG ps) := hys.nl (NL.of s69)
    generalize upd H8 q (.lst ys) = H9 at k69 src9 hb9 hl9 hla9 hza9 hlt9 hys9 ⊢
    -- the breaker is among them
    refine ⟨_, rfl, lt, rfl, ⟨_, SqL.of hlt9⟩, fun D hD => ?_⟩
    refine lc_list (K := K) (a := lt) (xs := ys) (fun j Hw => Hw D = some (.lst (((((exG ps).take j).filter fun e => decide (e.1 = (f : Int)) && (decide (e.2.1 ≤ w0) && decide (w0 ≤ e.2.2))).map fun _ => (1 : Int)).map V.int)) ∧ Same H9 Hw) ⟨upd_same, Same.upd hD⟩ (fun j Hw _ ⟨_, sw⟩ => SqL.of (sw _ _ hlt9)) ?_ ?_
    · rintro j x Hw hxj ⟨hDw, sw⟩
      obtain ⟨e, he, c, rfl, hce⟩ := paired_get hys9 hxj
      have hj := (List.getElem?_eq_some_iff.mp he).1
      have hbw := SqT.of (K := K) (sw _ _ hb9)
      refine ⟨c, _, rfl, SqT.of (sw _ _ hce), rfl, _, _, rfl, _, _, rfl, _, _, rfl, rfl, rfl, ?_⟩
      have ev : decide (V.int e.1 = V.int (f : Int)) = decide (e.1 = (f : Int)) := by
        rw [decide_eq_decide]
        exact ⟨fun z => V.int.inj z, fun z => by rw [z]⟩
      have dl : (((((exG ps).take j).filter fun e => decide (e.1 = (f : Int)) && (decide (e.2.1 ≤ w0) && decide (w0 ≤ e.2.2))).map fun _ => (1 : Int)).map V.int).length ≤ 400 := by
        rw [List.length_map, List.length_map]
        refine Nat.le_trans (List.length_filter_le _ _) ?_
        rw [List.length_take]
        omega
      refine ⟨_, rfl, _, rfl, tb, _, 0, .int (f : Int), rfl, rfl, hbw, rfl, rfl, _, rfl, ?_⟩
      rw [List.take_add_one, he, List.filter_append]
      show if decide (V.int e.1 = V.int (f : Int)) = true then _ else _
      rw [ev]
      cases b1 : decide (e.1 = (f : Int)) with
      | false =>
        refine iteF (iteF ?_)
        rw [show (some e).toList.filter (fun e => decide (e.1 = (f : Int)) && (decide (e.2.1 ≤ w0) && decide (w0 ≤ e.2.2))) = [] from by simp [b1], List.append_nil]
        exact ⟨hDw, sw⟩
      | true =>
        refine iteT ⟨_, rfl, _, rfl, tb, _, 1, .int w0, rfl, rfl, hbw, rfl, _, _, rfl, rfl, _, rfl, ?_⟩
        cases b2 : decide (e.2.1 ≤ w0) with
        | false =>
          refine iteF ⟨_, rfl, iteF ?_⟩
          rw [show (some e).toList.filter (fun e => decide (e.1 = (f : Int)) && (decide (e.2.1 ≤ w0) && decide (w0 ≤ e.2.2))) = [] from by simp [b2], List.append_nil]
          exact ⟨hDw, sw⟩
        | true =>
          refine iteT ⟨_, rfl, _, _, rfl, rfl, _, rfl, ?_⟩
          cases b3 : decide (w0 ≤ e.2.2) with
          | false =>
            refine iteF ?_
            rw [show (some e).toList.filter (fun e => decide (e.1 = (f : Int)) && (decide (e.2.1 ≤ w0) && decide (w0 ≤ e.2.2))) = [] from by simp [b3], List.append_nil]
            exact ⟨hDw, sw⟩
          | true =>
            refine iteT ?_
            rw [show (some e).toList.filter (fun e => decide (e.1 = (f : Int)) && (decide (e.2.1 ≤ w0) && decide (w0 ≤ e.2.2))) = [e] from by simp [b1, b2, b3], List.map_append, List.map_append]
            exact ⟨_, hDw, small1 (by omega), upd_same, fun u o z => by rw [upd_ne (ne_of_none z hD)]; exact sw _ _ z⟩
    rintro H10 ⟨hD10, s10⟩
    rw [yl, List.take_length] at hD10
    generalize hmin : ((exG ps).filter fun e => decide (e.1 = (f : Int)) && (decide (e.2.1 ≤ w0) && decide (w0 ≤ e.2.2))).map (fun _ => (1 : Int)) = mine at hD10
    have hmine : mine = [] → ∀ q ∈ ps, q.2 = true := fun z => by
      subst z
      by_cases hf1 : f ≤ ps.length
      · exfalso
        obtain ⟨a, b1, b2⟩ := O.le hf1
        have me := (ex_mem (ps := ps) (by rintro rfl; have : f ≤ 0 := hf1; omega) (e := ((f : Int), (bnG ps f).1, (bnG ps f).2))).mpr ⟨f, O.f1, a, by omega, rfl⟩
        have : ((f : Int), (bnG ps f).1, (bnG ps f).2) ∈ (exG ps).filter fun e => decide (e.1 = (f : Int)) && (decide (e.2.1 ≤ w0) && decide (w0 ≤ e.2.2)) := List.mem_filter.mpr ⟨me, by simp [b1, b2]⟩
        rw [List.map_eq_nil_iff.mp hmin] at this
        cases this
      · exact O.past (by omega)
    refine ⟨(by show 0 ≤ sizeLine; decide), fun l1 hl1 => ?_⟩
    have s11 := Same.upd (o := .lst []) hl1
    refine ⟨_, _, Dp.ints (s11 _ _ hD10), Dp.ints (ns := []) upd_same, shInts _, shInts _, ?_⟩
    rw [eqInts]
    have k11 := k69.trans (Kp.of (s10.trans s11))
    have s911 := s10.trans s11
    have src11 := src9.same s911
    have hb11 := s911 _ _ hb9
    have hl11 := s911 _ _ hl9
    have hla11 := s911 _ _ hla9
    have hza11 := hza9.same s911
    have hlt11 := s911 _ _ hlt9
    have hys11 := hys9.nl (NL.of s911)
    generalize upd H10 l1 (.lst []) = H11 at k11 src11 hb11 hl11 hla11 hza11 hlt11 hys11 ⊢
    refine ⟨fun σ' H' => ∃ b : Bool, σ' = [some (.ref s), some (.ref l), some (.int unit), some (.ref tb), some (.ref la), some (.ref lt), none, none, none, some (.bl b), none, none, none, none, none, none] ∧ Same H11 H', ?_, ?_⟩
    · refine ⟨_, rfl, _, rfl, ?_⟩
      by_cases hm : mine = []
      · rw [decide_eq_true hm]
        refine iteT ⟨_, rfl, la, rfl, ⟨_, SqL.of hla11⟩, fun D2 hD2 => ?_⟩
        refine lc_list (K := K) (a := la) (xs := zs) (fun j Hw => Hw D2 = some (.lst (([] : List Int).map V.int)) ∧ Same H11 Hw) ⟨upd_same, Same.upd hD2⟩ (fun j Hw _ ⟨_, sw⟩ => SqL.of (sw _ _ hla11)) ?_ ?_
        · rintro j x Hw hxj ⟨hDw, sw⟩
          obtain ⟨⟨t, p⟩, hp, c, rfl, hcc⟩ := paired_get hza11 hxj
          have hp1 : p = true := hmine hm _ (List.mem_of_getElem? hp)
          subst hp1
          exact ⟨c, _, rfl, SqT.of (sw _ _ hcc), rfl, _, _, rfl, _, _, rfl, rfl, rfl, _, rfl, _, rfl, iteF ⟨hDw, sw⟩⟩
        rintro H12 ⟨hD12, s12⟩
        refine ⟨(by show 0 ≤ sizeLine; decide), fun l2 hl2 => ?_⟩
        have s13 := Same.upd (o := .lst []) hl2
        refine ⟨_, _, Dp.ints (s13 _ _ hD12), Dp.ints (ns := []) upd_same, shInts _, shInts _, false, ?_, iteF ⟨_, rfl, s12.trans s13⟩⟩
        rw [eqInts, decide_eq_true rfl]
        rfl
      · rw [decide_eq_false hm]
        exact iteF (iteF ⟨_, rfl, Same.refl _⟩)
    rintro σ' H12 ⟨bm, rfl, s12⟩
    have hb12 := s12 _ _ hb11
    have hl12 := s12 _ _ hl11
    have hla12 := s12 _ _ hla11
    have hza12 := hza11.same s12
    have hlt12 := s12 _ _ hlt11
    have hys12 : Brs H12 ys (exG ps) := hys11.nl (NL.of s12)
    have k12 := k11.trans (Kp.of s12)
    have src12 := src11.same s12
    -- bounds
    refine ⟨_, rfl, 2, rfl, lt, ys, rfl, SqL.of hlt12, fun l3 hl3 => ?_⟩
    have s13 := Same.upd (o := .lst (cutV ys none (some 2))) hl3
    refine ⟨_, rfl, 2, rfl, -2, rfl, lt, ys, rfl, SqL.of (s13 _ _ hlt12), fun l4 hl4 => ?_⟩
    have s14 := Same.upd (o := .lst (cutV ys (some (-2)) none)) hl4
    refine ⟨l3, l4, _, _, rfl, rfl, s14 _ _ upd_same, upd_same, small2 (by have h1 := cutV_length ys none (some 2); have h2 := cutV_length ys (some (-2)) none; omega), fun l5 hl5 => ?_⟩
    have s15 := Same.upd (o := .lst (cutV ys none (some 2) ++ cutV ys (some (-2)) none)) hl5
    have s35 := s13.trans (s14.trans s15)
    have mem5 : ∀ v ∈ cutV ys none (some 2) ++ cutV ys (some (-2)) none, v ∈ ys := fun v hv => by
      rcases List.mem_append.mp hv with hv | hv
      · exact List.mem_of_mem_drop (List.mem_of_mem_take hv)
      · exact List.mem_of_mem_drop (List.mem_of_mem_take hv)
    generalize hit : cutV ys none (some 2) ++ cutV ys (some (-2)) none = its at mem5 s15 s35
    refine ⟨l5, rfl, ⟨_, SqL.of upd_same⟩, ?_⟩
    refine for_list (K := K) (a := l5) (xs := its) (fun i σ Hx => ∃ v6 v7 v8 : Option V, σ = [some (.ref s), some (.ref l), some (.int unit), some (.ref tb), some (.ref la), some (.ref lt), v6, v7, v8, some (.bl bm), none, none, none, none, none, none] ∧ Hx l5 = some (.lst its) ∧ Same H12 Hx)
      ⟨none, none, none, rfl, by rw [upd_same], s35⟩ (fun i σ Hx _ ⟨_, _, _, _, e, _⟩ => SqL.of e) ?_ ?_
    · rintro i x σ Hx hxi ⟨v6, v7, v8, rfl, h5x, sx⟩
      obtain ⟨n, hn⟩ := List.getElem?_of_mem (mem5 x (List.mem_of_getElem? hxi))
      obtain ⟨e, he, c, rfl, hce⟩ := paired_get hys12 hn
      refine ⟨c, _, rfl, SqT.of (sx _ _ hce), rfl, _, _, rfl, _, _, rfl, _, _, rfl, rfl, ?_⟩
      refine ⟨_, rfl, _, rfl, _, rfl, _, rfl, _, rfl, la, zs, ps, l, ns, e, rfl, sx _ _ hla12, hza12.same sx, sx _ _ hl12, ef, ok, List.mem_of_getElem? he, fun Hy sy => ?_⟩
      exact ⟨_, rfl, iteF ⟨_, _, _, rfl, sy _ _ h5x, sx.trans sy⟩⟩
    rintro σ H13 ⟨v6, v7, v8, rfl, h5x, s16⟩
    have hb13 := s16 _ _ hb12
    have hl13 := s16 _ _ hl12
    have hla13 := s16 _ _ hla12
    have hza13 := hza12.same s16
    have hlt13 := s16 _ _ hlt12
    have hys13 : Brs H13 ys (exG ps) := hys12.nl (NL.of s16)
    have k13 := k12.trans (Kp.of s16)
    have src13 := src12.same s16
    -- a later time
    obtain ⟨t0, ht0, t01, t02, t03⟩ := last_base asc tbd
    refine ⟨_, rfl, (by show 1 ≤ sizeLine; decide), fun l6 hl6 => ?_⟩
    have s17 := Same.upd (o := .lst [.int 0]) hl6
    refine ⟨l, l6, _, _, rfl, rfl, s17 _ _ hl13, upd_same, small2 (by rw [List.length_map]; show _ + 1 ≤ 100000; omega), fun l7 hl7 => ?_⟩
    have s18 := s17.trans (Same.upd (o := .lst (ns.map V.int ++ [.int 0])) hl7)
    have src18 := src13.same s18
    refine ⟨_, rfl, l, _, rfl, .inl (SqL.of (s18 _ _ hl13)), _, _, rfl, rfl, l7, _, _, .int t0, rfl, rfl, SqL.of upd_same, by rw [List.length_map]; exact ht0, _, _, rfl, rfl, ?_⟩
    refine ⟨_, rfl, _, rfl, _, _, rfl, rfl, wide_mul (a := 20) (b := 100) (by decide) (Nat.lt_of_le_of_lt (show unit.natAbs ≤ 100000000000000000000 by omega) (by decide)) (by decide) (by decide) (by decide), s, _, _, rfl, by omega, by omega, src18, by omega, fun r2 H19 r20 r21 src19 k19 => ⟨_, _, rfl, rfl, ?_⟩⟩
    obtain ⟨later, hlater⟩ : ∃ later : Int, later = t0 + 1 + r2 := ⟨_, rfl⟩
    show gName 10 (.int (t0 + 1 + r2)) _ _ _
    rw [← hlater]
    have k1319 := (Kp.of s18).trans k19
    obtain ⟨y13, hy13⟩ := src13.has
    have nn13 : ∀ {a : Addr} {o : HO}, H13 a = some o → (∀ xs, o ≠ .lst xs) → a ≠ s := fun h n z => by
      rw [z, hy13] at h
      exact n _ (Option.some.inj h).symm
    have nla : la ≠ s := fun z => by
      obtain ⟨yb, hyb⟩ := srcb.has
      rw [z, hyb] at nla
      cases nla
    have nlt2 : lt ≠ s := fun z => by
      obtain ⟨yb, hyb⟩ := (srcb.same s5).has
      rw [z, hyb] at nlt
      cases nlt
    have hb19 := k1319 _ _ (nn13 hb13 (fun _ z => nomatch z)) hb13
    have hl19 := k1319 _ _ nls hl13
    have hla19 := k1319 _ _ nla hla13
    have hza19 : Lgs H19 zs ps := hza13.nl (Kp.nl k1319 hy13)
    have hlt19 := k1319 _ _ nlt2 hlt13
    have hys19 : Brs H19 ys (exG ps) := hys13.nl (Kp.nl k1319 hy13)
    have k1q := k13.trans k1319
    have late1 : ∀ q ∈ ps, q.1 < later := fun q hq => by
      have : q.1 ∈ ns := by rw [← ef]; exact List.mem_map.mpr ⟨q, hq, rfl⟩
      have := t03 _ this
      omega
    refine ⟨_, rfl, _, rfl, la, zs, ps, later, rfl, hla19, hza19, ok, hc, late1, by omega, fun wd H20 hwd hp hr s20 => ?_⟩
    refine ⟨_, rfl, _, rfl, _, rfl, (by show 1 ≤ sizeLine; decide), fun l8 hl8 => ?_⟩
    have s21 := s20.trans (Same.upd (o := .lst [.int later]) hl8)
    refine ⟨l, l8, _, _, rfl, rfl, s21 _ _ hl19, upd_same, small2 (by rw [List.length_map]; show _ + 1 ≤ 100000; omega), fun l9 hl9 => ?_⟩
    have s22 := s21.trans (Same.upd (o := .lst (ns.map V.int ++ [.int later])) hl9)
    have asc2 : Asc 0 (ns ++ [later]) := asc_app asc (fun x hx => by have := t03 x hx; omega) (by omega)
    refine ⟨.ref tb, ((f : Int), w0, 1), l9, ns ++ [later], rfl, ⟨tb, rfl, s22 _ _ hb19⟩, okb, by rw [upd_same, List.map_append]; rfl, asc2, by rw [List.length_append]; show ns.length + 1 ≤ 1000; omega, fun ln zs2 H21 hln hzs2 s23 nln => ⟨_, _, rfl, ?_⟩⟩
    have s24 := s22.trans s23
    rw [lgG_app, ← hps] at hzs2
    generalize hd : decide (psB ((f : Int), w0, 1) (stG ((f : Int), w0, 1) ("closed", 0) ns) later) = d at hzs2
    have O2 : Own f w0 (ps ++ [(later, d)]) := ⟨O.f1, O.w1, O.w2, by
      have := own_fit (f : Int) w0 (ns ++ [later])
      rw [lgG_app, ← hps, hd] at this
      exact this⟩
    have zl2 := paired_len hzs2
    rw [List.length_append] at zl2
    obtain ⟨zi, v, rfl⟩ : ∃ zi v, zs2 = zi ++ [v] := by
      rcases List.eq_nil_or_concat zs2 with h | ⟨zi, v, h⟩
      · rw [h] at zl2
        cases zl2
      · exact ⟨zi, v, by rw [h, List.concat_eq_append]⟩
    rw [List.length_append] at zl2
    obtain ⟨qq, hqq, cz, rfl, hcz⟩ := paired_get hzs2 (i := zi.length) (x := v) (by rw [List.getElem?_append_right (Nat.le_refl _), Nat.sub_self]; rfl)
    have zil : zi.length = ps.length := by
      have : zi.length + 1 = ps.length + 1 := zl2
      omega
    rw [zil, List.getElem?_append_right (Nat.le_refl _), Nat.sub_self] at hqq
    have hqq : (later, d) = qq := Option.some.inj hqq
    subst hqq
    have wdok : (wd = "pass" → d = true) ∧ (wd = "reject" → d = false) := by
      by_cases hn : ps = []
      · refine ⟨fun _ => ?_, fun z => absurd hn (hr z).1⟩
        subst hn
        by_cases c2 : 1 < f
        · exact O2.past c2 (later, d) (List.mem_singleton.mpr rfl)
        · obtain ⟨a, _⟩ := O2.le (by show f ≤ 1; omega)
          cases d with
          | true => rfl
          | false =>
            have : f ≤ 0 := a
            have := O2.f1
            omega
      · have h0 : 1 ≤ aheadG ps := by
          rcases hc with z | z
          · exact absurd z hn
          · exact z.1
        obtain ⟨u, hu⟩ := latA_is h0
        have gp : 1 ≤ gapN ps later := by
          obtain ⟨q, hq, e⟩ := latA_in hu
          have := late1 q hq
          unfold gapN
          rw [hu]
          show 1 ≤ later - u
          omega
        obtain ⟨g1, g2⟩ := fore_ok O O2 hn gp
        exact ⟨fun z => g1 (hp z hn), fun z => g2 (hr z).2⟩
    refine ⟨fun σ' H' => ∃ w9 : V, σ' = [some (.ref s), some (.ref l), some (.int unit), some (.ref tb), some (.ref la), some (.ref lt), v6, v7, v8, some (.bl bm), some (.int later), some w9, some (.ref ln), none, none, none] ∧ Same H21 H', ?_, ?_⟩
    · have p1 := SqL.of (K := K) hln
      rcases hwd with rfl | rfl | rfl
      · refine ⟨_, rfl, rfl, _, rfl, ?_⟩
        have e1 : decide (V.str "pass" = V.str "either") = false := by decide +kernel
        have e2 : decide (V.str "pass" = V.str "pass") = true := by decide +kernel
        rw [e1]
        refine iteT ⟨_, rfl, rfl, _, rfl, 1, rfl, ln, _, -1, .ref cz, rfl, rfl, SqL.of hln, atI_last _ _, cz, _, 1, .bl d, rfl, rfl, SqT.of hcz, rfl, rfl, _, rfl, ?_⟩
        rw [e2, wdok.1 rfl]
        exact iteF ⟨_, rfl, Same.refl _⟩
      · refine ⟨_, rfl, rfl, _, rfl, ?_⟩
        have e1 : decide (V.str "reject" = V.str "either") = false := by decide +kernel
        have e2 : decide (V.str "reject" = V.str "pass") = false := by decide +kernel
        rw [e1]
        refine iteT ⟨_, rfl, rfl, _, rfl, 1, rfl, ln, _, -1, .ref cz, rfl, rfl, p1, atI_last _ _, cz, _, 1, .bl d, rfl, rfl, SqT.of hcz, rfl, rfl, _, rfl, ?_⟩
        rw [e2, wdok.2 rfl]
        exact iteF ⟨_, rfl, Same.refl _⟩
      · refine ⟨_, rfl, rfl, _, rfl, ?_⟩
        have e1 : decide (V.str "either" = V.str "either") = true := by decide +kernel
        rw [e1]
        exact iteF (iteF ⟨_, rfl, Same.refl _⟩)
    rintro σ' H22 ⟨w9, rfl, s25⟩
    have s45 := s24.trans s25
    have hln22 := s25 _ _ hln
    have hzs22 : Lgs H22 (zi ++ [.ref cz]) (ps ++ [(later, d)]) := hzs2.same s25
    have hlt22 := s45 _ _ hlt19
    have hys22 : Brs H22 ys (exG ps) := hys19.nl (NL.of s45)
    have k22 := k1q.trans (Kp.of s45)
    -- the dict
    refine ⟨_, rfl, lt, rfl, ⟨_, SqL.of hlt22⟩, fun DD hDD => ?_⟩
    refine lc_list (K := K) (a := lt) (xs := ys) (fun j Hw => ∃ (pl : List Addr) (kvs : List (Key × V)), Hw DD = some (.lst (pl.map V.ref)) ∧ pl.length = j ∧ Paired (fun p kv => Hw p = some (.tup [kV kv.1, kv.2])) pl kvs ∧ Paired (PrK Hw) kvs ((exG ps).take j) ∧ Same H22 Hw)
      ⟨[], [], upd_same, rfl, .nil, .nil, Same.upd hDD⟩ (fun j Hw _ ⟨_, _, _, _, _, _, sw⟩ => SqL.of (sw _ _ hlt22)) ?_ ?_
    · rintro j x Hw hxj ⟨pl, kvs, hDw, pll, pr1, pr2, sw⟩
      obtain ⟨e, he, c, rfl, hce⟩ := paired_get hys22 hxj
      have hj := (List.getElem?_eq_some_iff.mp he).1
      refine ⟨c, _, rfl, SqT.of (sw _ _ hce), rfl, _, _, rfl, _, _, rfl, _, _, rfl, rfl, rfl, tYes_of ⟨_, rfl, _, rfl, _, rfl, (by show 2 ≤ sizeLine; decide), fun t1 ht1 => ⟨(by show 2 ≤ sizeLine; decide), fun t2 ht2 => ?_⟩⟩⟩
      have q1 := Same.upd (o := .tup [.int e.2.1, .int e.2.2]) ht1
      have q2 := q1.trans (Same.upd (o := .tup [.int e.1, .ref t1]) ht2)
      have g1 : (upd (upd Hw t1 (.tup [.int e.2.1, .int e.2.2])) t2 (.tup [.int e.1, .ref t1])) t1 = some (.tup [.int e.2.1, .int e.2.2]) := (Same.upd ht2) _ _ upd_same
      have g2 : (upd (upd Hw t1 (.tup [.int e.2.1, .int e.2.2])) t2 (.tup [.int e.1, .ref t1])) t2 = some (.tup [.int e.1, .ref t1]) := upd_same
      generalize upd (upd Hw t1 (.tup [.int e.2.1, .int e.2.2])) t2 (.tup [.int e.1, .ref t1]) = Hz at q2 g1 g2 ⊢
      have hDz := q2 _ _ hDw
      have nl : NL Hz (upd Hz DD (.lst (pl.map V.ref ++ [.ref t2]))) := NL.upd hDz
      refine ⟨_, hDz, small1 (by rw [List.length_map]; omega), pl ++ [t2], kvs ++ [(.inl e.1, .ref t1)], by rw [upd_same, List.map_append]; rfl, by rw [List.length_append, pll]; rfl, ?_, ?_, fun u o z => ?_⟩
      · refine paired_app (L2.Paired.mapP pr1 fun p kv h => nl _ _ (q2 _ _ h) fun _ z => nomatch z) (.cons (nl _ _ g2 fun _ z => nomatch z) .nil)
      · rw [List.take_add_one, he]
        refine paired_app (L2.Paired.mapP pr2 fun kv e' h => ⟨h.1, ?_⟩) (.cons ⟨rfl, t1, rfl, nl _ _ g1 fun _ z => nomatch z⟩ .nil)
        obtain ⟨c', h1, h2⟩ := h.2
        exact ⟨c', h1, nl _ _ (q2 _ _ h2) fun _ z => nomatch z⟩
      · rw [upd_ne (ne_of_none z hDD)]
        exact q2 _ _ (sw _ _ z)
    rintro H23 ⟨pl, kvs, hD23, pll, pr1, pr2, s26⟩
    rw [yl, List.take_length] at pr2
    have ek : mergeK [] kvs = kvs := merge_new (fun a ha => nomatch ha) (prK_ne pr2 (exG_asc ps))
    refine ⟨DD, pl, kvs, rfl, SqL.of hD23, L2.Paired.mapP pr1 fun p kv h => SqT.of h, fun dp hdp => ?_⟩
    rw [ek]
    have s27 := Same.upd (o := .dK kvs) hdp
    have s67 := s26.trans s27
    have hdp24 : (upd H23 dp (.dK kvs)) dp = some (.dK kvs) := upd_same
    have pr24 : Paired (PrK (upd H23 dp (.dK kvs))) kvs (exG ps) := L2.Paired.mapP pr2 fun kv e' h => ⟨h.1, by
      obtain ⟨c', h1, h2⟩ := h.2
      exact ⟨c', h1, s27 _ _ h2⟩⟩
    show gName 13 (.ref dp) _ (upd H23 dp (.dK kvs)) _
    generalize upd H23 dp (.dK kvs) = H24 at s67 hdp24 pr24 ⊢
    have ok2 : OkLog (ps ++ [(later, d)]) := ⟨by rw [List.map_append, ef]; exact asc2, by rw [List.length_append]; show ps.length + 1 ≤ 1000; omega⟩
    refine ⟨_, rfl, ln, _, ps ++ [(later, d)], rfl, s67 _ _ hln22, hzs22.same s67, ok2, fun le ye H25 hle hye s28 nle => ⟨le, rfl, ⟨_, SqL.of hle⟩, ?_⟩⟩
    have k25 := k22.trans (Kp.of (s67.trans s28))
    refine for_list (K := K) (a := le) (xs := ye) (fun i σ Hx => ∃ v6 v7 v8 : Option V, σ = [some (.ref s), some (.ref l), some (.int unit), some (.ref tb), some (.ref la), some (.ref lt), v6, v7, v8, some (.bl bm), some (.int later), some w9, some (.ref ln), some (.ref dp), none, none] ∧ Same H25 Hx)
      ⟨_, _, _, rfl, Same.refl _⟩ (fun i σ Hx _ ⟨_, _, _, _, sx⟩ => SqL.of (sx _ _ hle)) ?_ ?_
    · rintro i x σ Hx hxi ⟨v6, v7, v8, rfl, sx⟩
      obtain ⟨e2, he2, c, rfl, hce⟩ := paired_get hye hxi
      have hdx := sx _ _ (s28 _ _ hdp24)
      refine ⟨c, _, rfl, SqT.of (sx _ _ hce), rfl, _, _, rfl, _, _, rfl, _, _, rfl, rfl, ?_⟩
      refine ⟨_, rfl, _, rfl, dp, _, rfl, DGet.k (k := .inl e2.1) hdx, _, rfl, ?_⟩
      rcases prK_val e2.1 pr24 with hv | ⟨e1, he1, ek1, c1, hv, hc1⟩
      · rw [hv]
        exact iteF (iteF ⟨_, _, _, rfl, sx⟩)
      · have hg : DGet Hx dp (kV (.inl e2.1)) (some (.ref c1)) := by
          rw [← hv]
          exact DGet.k hdx
        have hcx := SqT.of (K := K) (sx _ _ (s28 _ _ hc1))
        rw [hv]
        have hc' : ps = [] ∨ 1 ≤ aheadG ps := by
          rcases hc with z | z
          · exact .inl z
          · exact .inr z.1
        obtain ⟨b1, b2, b3⟩ := ex_app hc' he1 (List.mem_of_getElem? he2) ek1
        refine iteT ⟨_, rfl, _, rfl, dp, .ref c1, rfl, hg, c1, _, 0, .int e1.2.1, rfl, rfl, hcx, rfl, _, rfl, _, _, rfl, rfl, true, congrArg V.bl (decide_eq_true b1), iteT ?_⟩
        refine ⟨_, rfl, _, _, rfl, rfl, true, congrArg V.bl (decide_eq_true b2), iteT ?_⟩
        exact ⟨_, rfl, _, rfl, dp, .ref c1, rfl, hg, c1, _, 1, .int e1.2.2, rfl, rfl, hcx, rfl, _, _, rfl, rfl, true, congrArg V.bl (decide_eq_true b3), iteF ⟨_, _, _, rfl, sx⟩⟩
    · rintro σ Hx ⟨v6, v7, v8, rfl, sx⟩
      exact k Hx (k25.trans (Kp.of sx))
theorem ok_wright (T : LX K mg L) : Cal P w K mg base "_law_right" 11 L.f__law_right ["_law_well_here"] (spLRight) := T.d__law_right.cal fun fd F => fn_wright T F
end
/-! ### the law over its cells -/
def spLaw (K : PySem.W.Frag) : Sp := fun vs H Q _ => ∃ (a : Addr) (ns : List Int), vs = [.ref a] ∧ SqL K H a (ns.map V.int) ∧ ns.length ≤ 63 ∧ ∀ H', Q (.bl true) H'
section
variable {P : Program} {w : World} {K : PySem.W.Frag} {mg : Str → Option Value} {base : Heap} {L : LA}
abbrev N_law : List Str := ["_law_script", "_law_cell"]
theorem sc_law : FnScope N_law ["_law_script"] (defScope st_law) := ⟨rfl, rfl, rfl, by decide +kernel, rfl, by decide +kernel, by decide +kernel⟩
theorem ok_law {aLaw : Addr} {fd : FuncData} (F : Fun K "law" "law" st_law aLaw fd) (T : LX K mg L) : FnOk P w K mg base CX0 12 aLaw fd ["_law_script"] (spLaw K) := by
  have G_wright := ok_wright (P := P) (w := w) (base := base) T
  have G_wwell := ok_wwell (P := P) (w := w) (base := base) T
  have nd := sc_law.nd
  refine F.ok sc_law (fun vs H Q E h => ?_) (fun cdv A outer S H vs Q E hr h => ?_)
  · obtain ⟨a, ns, rfl, _⟩ := h
    rfl
  · obtain ⟨a, ns, rfl, hS, ln, k⟩ := h
    refine ⟨_, (pss_cons (ps_for PassesOwn.never rfl (pi_list (pe_op op_cat (pe_slice (r := rSlL K) sl_list (pv 0) po_none (po_some pe_int)) (pe_lst (pa_cons pe_int pa_nil)))) (pg_name (i := 1) nd rfl (Or.inl rfl)) (pss_one (ps_if (pt_not (pt_val (pe_c G_wright (hr.mono (by decide)) rfl (pa_cons (pe_c G_wwell (hr.mono (by decide)) rfl (pa_cons (pv 1) pa_nil)) pa_nil)))) (pss_one (ps_ret pe_bl)) pss_nil)))
       (pss_one (ps_ret pe_bl))), ?_⟩
    refine ⟨_, rfl, 3, rfl, a, ns.map V.int, rfl, hS, fun l1 hl1 => ⟨(by show 1 ≤ sizeLine; decide), fun l2 hl2 => ?_⟩⟩
    refine ⟨l1, l2, _, _, rfl, rfl, (Same.upd hl2) _ _ upd_same, upd_same, small2 (by have := cutV_length (ns.map V.int) none (some 3); rw [List.length_map] at this; show _ + 1 ≤ 100000; omega), fun l3 hl3 => ?_⟩
    have items : ∀ v ∈ cutV (ns.map V.int) none (some 3) ++ [V.int 0], ∃ c, v = .int c := fun v hv => by
      rcases List.mem_append.mp hv with hv | hv
      · obtain ⟨c, _, e⟩ := List.mem_map.mp (List.mem_of_mem_drop (List.mem_of_mem_take hv))
        exact ⟨c, e.symm⟩
      · exact ⟨0, by simpa using hv⟩
    generalize hit : cutV (ns.map V.int) none (some 3) ++ [V.int 0] = its at items
    refine ⟨l3, rfl, ⟨_, SqL.of upd_same⟩, ?_⟩
    refine for_list (K := K) (a := l3) (xs := its) (fun i σ H2 => ∃ v1 : Option V, σ = [some (.ref a), v1] ∧ H2 l3 = some (.lst its)) ⟨none, rfl, by rw [upd_same]⟩ (fun i σ H2 _ ⟨_, _, e⟩ => SqL.of e) ?_ ?_
    · rintro i v σ H0 hi ⟨v1, rfl, hL⟩
      obtain ⟨cc, rfl⟩ := items v (List.mem_of_getElem? hi)
      refine ⟨_, rfl, cc, rfl, fun s H1 hs0 y1 src1 => ⟨s, rfl, src1, fun H2 k2 => ⟨_, rfl, iteF ⟨_, rfl, ?_⟩⟩⟩⟩
      exact k2 _ _ (ne_of_none hL hs0) (y1 _ _ hL)
    · rintro σ H2 ⟨v1, rfl, _⟩
      exact k H2
end
/-! ### the end -/
theorem bn_q0 (kV doc pm : Value) (an : Option Addr) (cdv ct : Value) (us : List Value) (hl : us.length = (["value"] : List Str).length) : bindArgs (PySem.W.fnOf "is_integer" "is_integer" (defArgs st_is_integer) (defBody st_is_integer) (defScope st_is_integer) .none kV doc pm an cdv ct) ⟨us, []⟩ = pure ((["value"] : List Str).zip us) :=
  match us, hl with | [_], _ => rfl
theorem bn_q1 (kV doc pm : Value) (an : Option Addr) (cdv ct : Value) (us : List Value) (hl : us.length = (["value", "least"] : List Str).length) : bindArgs (PySem.W.fnOf "is_at_least" "is_at_least" (defArgs st_is_at_least) (defBody st_is_at_least) (defScope st_is_at_least) .none kV doc pm an cdv ct) ⟨us, []⟩ = pure ((["value", "least"] : List Str).zip us) :=
  match us, hl with | [_, _], _ => rfl
theorem bn_q2 (kV doc pm : Value) (an : Option Addr) (cdv ct : Value) (us : List Value) (hl : us.length = (["value", "least", "most"] : List Str).length) : bindArgs (PySem.W.fnOf "is_within" "is_within" (defArgs st_is_within) (defBody st_is_within) (defScope st_is_within) .none kV doc pm an cdv ct) ⟨us, []⟩ = pure ((["value", "least", "most"] : List Str).zip us) :=
  match us, hl with | [_, _, _], _ => rfl
theorem bn_q3 (kV doc pm : Value) (an : Option Addr) (cdv ct : Value) (us : List Value) (hl : us.length = (["value"] : List Str).length) : bindArgs (PySem.W.fnOf "is_breaker" "is_breaker" (defArgs st_is_breaker) (defBody st_is_breaker) (defScope st_is_breaker) .none kV doc pm an cdv ct) ⟨us, []⟩ = pure ((["value"] : List Str).zip us) :=
  match us, hl with | [_], _ => rfl
theorem bn_q4 (kV doc pm : Value) (an : Option Addr) (cdv ct : Value) (us : List Value) (hl : us.length = (["breaker", "state", "time"] : List Str).length) : bindArgs (PySem.W.fnOf "passes" "passes" (defArgs st_passes) (defBody st_passes) (defScope st_passes) .none kV doc pm an cdv ct) ⟨us, []⟩ = pure ((["breaker", "state", "time"] : List Str).zip us) :=
  match us, hl with | [_, _, _], _ => rfl
theorem bn_q5 (kV doc pm : Value) (an : Option Addr) (cdv ct : Value) (us : List Value) (hl : us.length = (["breaker", "state", "time", "succeeded"] : List Str).length) : bindArgs (PySem.W.fnOf "state_behind" "state_behind" (defArgs st_state_behind) (defBody st_state_behind) (defScope st_state_behind) .none kV doc pm an cdv ct) ⟨us, []⟩ = pure ((["breaker", "state", "time", "succeeded"] : List Str).zip us) :=
  match us, hl with | [_, _, _, _], _ => rfl
theorem bn_q6 (kV doc pm : Value) (an : Option Addr) (cdv ct : Value) (us : List Value) (hl : us.length = (["times"] : List Str).length) : bindArgs (PySem.W.fnOf "check_times" "check_times" (defArgs st_check_times) (defBody st_check_times) (defScope st_check_times) .none kV doc pm an cdv ct) ⟨us, []⟩ = pure ((["times"] : List Str).zip us) :=
  match us, hl with | [_], _ => rfl
theorem bn_q7 (kV doc pm : Value) (an : Option Addr) (cdv ct : Value) (us : List Value) (hl : us.length = (["breaker", "times"] : List Str).length) : bindArgs (PySem.W.fnOf "log_of" "log_of" (defArgs st_log_of) (defBody st_log_of) (defScope st_log_of) .none kV doc pm an cdv ct) ⟨us, []⟩ = pure ((["breaker", "times"] : List Str).zip us) :=
  match us, hl with | [_, _], _ => rfl
theorem bn_q8 (kV doc pm : Value) (an : Option Addr) (cdv ct : Value) (us : List Value) (hl : us.length = (["value"] : List Str).length) : bindArgs (PySem.W.fnOf "is_entry" "is_entry" (defArgs st_is_entry) (defBody st_is_entry) (defScope st_is_entry) .none kV doc pm an cdv ct) ⟨us, []⟩ = pure ((["value"] : List Str).zip us) :=
  match us, hl with | [_], _ => rfl
theorem bn_q9 (kV doc pm : Value) (an : Option Addr) (cdv ct : Value) (us : List Value) (hl : us.length = (["log"] : List Str).length) : bindArgs (PySem.W.fnOf "check_log" "check_log" (defArgs st_check_log) (defBody st_check_log) (defScope st_check_log) .none kV doc pm an cdv ct) ⟨us, []⟩ = pure ((["log"] : List Str).zip us) :=
  match us, hl with | [_], _ => rfl
theorem bn_q10 (kV doc pm : Value) (an : Option Addr) (cdv ct : Value) (us : List Value) (hl : us.length = (["log"] : List Str).length) : bindArgs (PySem.W.fnOf "passes_ahead" "passes_ahead" (defArgs st_passes_ahead) (defBody st_passes_ahead) (defScope st_passes_ahead) .none kV doc pm an cdv ct) ⟨us, []⟩ = pure ((["log"] : List Str).zip us) :=
  match us, hl with | [_], _ => rfl
theorem bn_q11 (kV doc pm : Value) (an : Option Addr) (cdv ct : Value) (us : List Value) (hl : us.length = (["log"] : List Str).length) : bindArgs (PySem.W.fnOf "gaps_of" "gaps_of" (defArgs st_gaps_of) (defBody st_gaps_of) (defScope st_gaps_of) .none kV doc pm an cdv ct) ⟨us, []⟩ = pure ((["log"] : List Str).zip us) :=
  match us, hl with | [_], _ => rfl
theorem bn_q12 (kV doc pm : Value) (an : Option Addr) (cdv ct : Value) (us : List Value) (hl : us.length = (["bounds", "gap", "passed"] : List Str).length) : bindArgs (PySem.W.fnOf "narrowed" "narrowed" (defArgs st_narrowed) (defBody st_narrowed) (defScope st_narrowed) .none kV doc pm an cdv ct) ⟨us, []⟩ = pure ((["bounds", "gap", "passed"] : List Str).zip us) :=
  match us, hl with | [_, _, _], _ => rfl
theorem bn_q13 (kV doc pm : Value) (an : Option Addr) (cdv ct : Value) (us : List Value) (hl : us.length = (["log"] : List Str).length) : bindArgs (PySem.W.fnOf "explanations" "explanations" (defArgs st_explanations) (defBody st_explanations) (defScope st_explanations) .none kV doc pm an cdv ct) ⟨us, []⟩ = pure ((["log"] : List Str).zip us) :=
  match us, hl with | [_], _ => rfl
theorem bn_q14 (kV doc pm : Value) (an : Option Addr) (cdv ct : Value) (us : List Value) (hl : us.length = (["log"] : List Str).length) : bindArgs (PySem.W.fnOf "first_conflict" "first_conflict" (defArgs st_first_conflict) (defBody st_first_conflict) (defScope st_first_conflict) .none kV doc pm an cdv ct) ⟨us, []⟩ = pure ((["log"] : List Str).zip us) :=
  match us, hl with | [_], _ => rfl
theorem bn_q15 (kV doc pm : Value) (an : Option Addr) (cdv ct : Value) (us : List Value) (hl : us.length = (["log", "time"] : List Str).length) : bindArgs (PySem.W.fnOf "forecast" "forecast" (defArgs st_forecast) (defBody st_forecast) (defScope st_forecast) .none kV doc pm an cdv ct) ⟨us, []⟩ = pure ((["log", "time"] : List Str).zip us) :=
  match us, hl with | [_, _], _ => rfl
theorem bn_q16 (kV doc pm : Value) (an : Option Addr) (cdv ct : Value) (us : List Value) (hl : us.length = (["_law_cell", "_law_k"] : List Str).length) : bindArgs (PySem.W.fnOf "_law_mixed" "_law_mixed" (defArgs st__law_mixed) (defBody st__law_mixed) (defScope st__law_mixed) .none kV doc pm an cdv ct) ⟨us, []⟩ = pure ((["_law_cell", "_law_k"] : List Str).zip us) :=
  match us, hl with | [_, _], _ => rfl
theorem bn_q17 (kV doc pm : Value) (an : Option Addr) (cdv ct : Value) (us : List Value) (hl : us.length = (["_law_cell"] : List Str).length) : bindArgs (PySem.W.fnOf "_law_well" "_law_well" (defArgs st__law_well) (defBody st__law_well) (defScope st__law_well) .none kV doc pm an cdv ct) ⟨us, []⟩ = pure ((["_law_cell"] : List Str).zip us) :=
  match us, hl with | [_], _ => rfl
theorem bn_q18 (kV doc pm : Value) (an : Option Addr) (cdv ct : Value) (us : List Value) (hl : us.length = (["_law_well_here", "_law_many"] : List Str).length) : bindArgs (PySem.W.fnOf "_law_draw" "_law_draw" (defArgs st__law_draw) (defBody st__law_draw) (defScope st__law_draw) .none kV doc pm an cdv ct) ⟨us, []⟩ = pure ((["_law_well_here", "_law_many"] : List Str).zip us) :=
  match us, hl with | [_, _], _ => rfl
theorem bn_q19 (kV doc pm : Value) (an : Option Addr) (cdv ct : Value) (us : List Value) (hl : us.length = (["_law_well_here", "_law_some"] : List Str).length) : bindArgs (PySem.W.fnOf "_law_one" "_law_one" (defArgs st__law_one) (defBody st__law_one) (defScope st__law_one) .none kV doc pm an cdv ct) ⟨us, []⟩ = pure ((["_law_well_here", "_law_some"] : List Str).zip us) :=
  match us, hl with | [_, _], _ => rfl
theorem bn_q20 (kV doc pm : Value) (an : Option Addr) (cdv ct : Value) (us : List Value) (hl : us.length = (["_law_well_here", "_law_many"] : List Str).length) : bindArgs (PySem.W.fnOf "_law_place" "_law_place" (defArgs st__law_place) (defBody st__law_place) (defScope st__law_place) .none kV doc pm an cdv ct) ⟨us, []⟩ = pure ((["_law_well_here", "_law_many"] : List Str).zip us) :=
  match us, hl with | [_, _], _ => rfl
theorem bn_q21 (kV doc pm : Value) (an : Option Addr) (cdv ct : Value) (us : List Value) (hl : us.length = (["_law_well_here", "_law_most"] : List Str).length) : bindArgs (PySem.W.fnOf "_law_far_times" "_law_far_times" (defArgs st__law_far_times) (defBody st__law_far_times) (defScope st__law_far_times) .none kV doc pm an cdv ct) ⟨us, []⟩ = pure ((["_law_well_here", "_law_most"] : List Str).zip us) :=
  match us, hl with | [_, _], _ => rfl
theorem bn_q22 (kV doc pm : Value) (an : Option Addr) (cdv ct : Value) (us : List Value) (hl : us.length = (["_law_log", "_law_times", "_law_failures", "_law_low", "_law_high"] : List Str).length) : bindArgs (PySem.W.fnOf "_law_bounds_right" "_law_bounds_right" (defArgs st__law_bounds_right) (defBody st__law_bounds_right) (defScope st__law_bounds_right) .none kV doc pm an cdv ct) ⟨us, []⟩ = pure ((["_law_log", "_law_times", "_law_failures", "_law_low", "_law_high"] : List Str).zip us) :=
  match us, hl with | [_, _, _, _, _], _ => rfl
theorem bn_q23 (kV doc pm : Value) (an : Option Addr) (cdv ct : Value) (us : List Value) (hl : us.length = (["_law_well_here"] : List Str).length) : bindArgs (PySem.W.fnOf "_law_right" "_law_right" (defArgs st__law_right) (defBody st__law_right) (defScope st__law_right) .none kV doc pm an cdv ct) ⟨us, []⟩ = pure ((["_law_well_here"] : List Str).zip us) :=
  match us, hl with | [_], _ => rfl
theorem mk_dfn {K : PySem.W.Frag} {h : Heap} {mg : Str → Option Value} {x : Str} {st : Stmt} {f : Addr} {ps : List Str} {oc : Value} {od an : Option Addr} {sl : Array (Option Value)} {kV dc pm cd ct : Value} (X : K.In h) (G : h.Ns mainGlobals mg) (a : PySem.W.nsIn K mainGlobals x = some (some (.ref f)))
    (l : K.lookup f = some ⟨oc, od, .func (PySem.W.fnOf x x (defArgs st) (defBody st) (defScope st) .none kV dc pm an cd ct), sl⟩) (c : PySem.W.codeIn K cd x = true) (k : PySem.W.keepIn K (.ref f) = true)
    (hb : ∀ (kV doc pm : Value) (an : Option Addr) (cdv ct : Value) (us : List Value), us.length = ps.length → bindArgs (PySem.W.fnOf x x (defArgs st) (defBody st) (defScope st) .none kV doc pm an cdv ct) ⟨us, []⟩ = pure (ps.zip us)) : Dfn K mg x st f ps :=
  ⟨⟨_, fun_mk l c k, (fun_mk l c k).binds hb⟩, PySem.W.mg_of X G a⟩
theorem mk_mth {K : PySem.W.Frag} {C : Addr} {x q : Str} {st : Stmt} {f : Addr} {ps : List Str} {oc : Value} {od an : Option Addr} {sl : Array (Option Value)} {kV dc pm cd ct : Value} (a : PySem.W.findIn K (.ref C) x = some (some (.ref f))) (i : PySem.W.isFn K (.ref f) = true) (fk : PySem.W.fnIn K f = true)
    (l : K.lookup f = some ⟨oc, od, .func (PySem.W.fnOf x q (defArgs st) (defBody st) (defScope st) .none kV dc pm an cd ct), sl⟩) (c : PySem.W.codeIn K cd q = true) (k : PySem.W.keepIn K (.ref f) = true)
    (hb : ∀ (kV doc pm : Value) (an : Option Addr) (cdv ct : Value) (us : List Value), us.length = ps.length → bindArgs (PySem.W.fnOf x q (defArgs st) (defBody st) (defScope st) .none kV doc pm an cdv ct) ⟨us, []⟩ = pure (ps.zip us)) : Mth K C x q st f ps :=
  ⟨⟨_, fun_mk l c k, (fun_mk l c k).binds hb⟩, a, i, fk⟩
set_option maxHeartbeats 16000000 in
theorem all_mk {P : Program} {w : World} {K : PySem.W.Frag} {h : Heap} {mg : Str → Option Value} {lv : List (Str × PySem.W.WData)} {fa aLaw fq0 fq1 fq2 fq3 fq4 fq5 fq6 fq7 fq8 fq9 fq10 fq11 fq12 fq13 fq14 fq15 fq16 fq17 fq18 fq19 fq20 fq21 fq22 fq23 : Addr} {tNMOST_ENTRIES : Tok} {odq0 anq0 odq1 anq1 odq2 anq2 odq3 anq3 odq4 anq4 odq5 anq5 odq6 anq6 odq7 anq7 odq8 anq8 odq9 anq9 odq10 anq10 odq11 anq11 odq12 anq12 odq13 anq13 odq14 anq14 odq15 anq15 odq16 anq16 odq17 anq17 odq18 anq18 odq19 anq19 odq20 anq20 odq21 anq21 odq22 anq22 odq23 anq23 odY anY : Option Addr} {slq0 slq1 slq2 slq3 slq4 slq5 slq6 slq7 slq8 slq9 slq10 slq11 slq12 slq13 slq14 slq15 slq16 slq17 slq18 slq19 slq20 slq21 slq22 slq23 slY : Array (Option Value)} {ocq0 kVq0 dcq0 pmq0 cdq0 ctq0 ocq1 kVq1 dcq1 pmq1 cdq1 ctq1 ocq2 kVq2 dcq2 pmq2 cdq2 ctq2 ocq3 kVq3 dcq3 pmq3 cdq3 ctq3 ocq4 kVq4 dcq4 pmq4 cdq4 ctq4 ocq5 kVq5 dcq5 pmq5 cdq5 ctq5 ocq6 kVq6 dcq6 pmq6 cdq6 ctq6 ocq7 kVq7 dcq7 pmq7 cdq7 ctq7 ocq8 kVq8 dcq8 pmq8 cdq8 ctq8 ocq9 kVq9 dcq9 pmq9 cdq9 ctq9 ocq10 kVq10 dcq10 pmq10 cdq10 ctq10 ocq11 kVq11 dcq11 pmq11 cdq11 ctq11 ocq12 kVq12 dcq12 pmq12 cdq12 ctq12 ocq13 kVq13 dcq13 pmq13 cdq13 ctq13 ocq14 kVq14 dcq14 pmq14 cdq14 ctq14 ocq15 kVq15 dcq15 pmq15 cdq15 ctq15 ocq16 kVq16 dcq16 pmq16 cdq16 ctq16 ocq17 kVq17 dcq17 pmq17 cdq17 ctq17 ocq18 kVq18 dcq18 pmq18 cdq18 ctq18 ocq19 kVq19 dcq19 pmq19 cdq19 ctq19 ocq20 kVq20 dcq20 pmq20 cdq20 ctq20 ocq21 kVq21 dcq21 pmq21 cdq21 ctq21 ocq22 kVq22 dcq22 pmq22 cdq22 ctq22 ocq23 kVq23 dcq23 pmq23 cdq23 ctq23 ocY kVY dcY pmY cdY ctY : Value}
    (X : K.In h) (G : h.Ns mainGlobals mg) (LL : PySem.W.LooseAre lv mg h) (hLMOST_COUNT : (("MOST_COUNT" : Str), PySem.W.WData.int 1000000000000) ∈ lv) (hLMOST_TIME : (("MOST_TIME" : Str), PySem.W.WData.int 1000000000000000000000000000000) ∈ lv) (hfa : mg "law" = some (.ref fa))
    (aq0 : PySem.W.nsIn K mainGlobals "is_integer" = some (some (.ref fq0)))
    (lq0 : K.lookup fq0 = some ⟨ocq0, odq0, .func (PySem.W.fnOf "is_integer" "is_integer" (defArgs st_is_integer) (defBody st_is_integer) (defScope st_is_integer) .none kVq0 dcq0 pmq0 anq0 cdq0 ctq0), slq0⟩)
    (cq0 : PySem.W.codeIn K cdq0 "is_integer" = true)
    (kq0 : PySem.W.keepIn K (.ref fq0) = true)
    (aq1 : PySem.W.nsIn K mainGlobals "is_at_least" = some (some (.ref fq1)))
    (lq1 : K.lookup fq1 = some ⟨ocq1, odq1, .func (PySem.W.fnOf "is_at_least" "is_at_least" (defArgs st_is_at_least) (defBody st_is_at_least) (defScope st_is_at_least) .none kVq1 dcq1 pmq1 anq1 cdq1 ctq1), slq1⟩)
    (cq1 : PySem.W.codeIn K cdq1 "is_at_least" = true)
    (kq1 : PySem.W.keepIn K (.ref fq1) = true)
    (aq2 : PySem.W.nsIn K mainGlobals "is_within" = some (some (.ref fq2)))
    (lq2 : K.lookup fq2 = some ⟨ocq2, odq2, .func (PySem.W.fnOf "is_within" "is_within" (defArgs st_is_within) (defBody st_is_within) (defScope st_is_within) .none kVq2 dcq2 pmq2 anq2 cdq2 ctq2), slq2⟩)
    (cq2 : PySem.W.codeIn K cdq2 "is_within" = true)
    (kq2 : PySem.W.keepIn K (.ref fq2) = true)
    (aq3 : PySem.W.nsIn K mainGlobals "is_breaker" = some (some (.ref fq3)))
    (lq3 : K.lookup fq3 = some ⟨ocq3, odq3, .func (PySem.W.fnOf "is_breaker" "is_breaker" (defArgs st_is_breaker) (defBody st_is_breaker) (defScope st_is_breaker) .none kVq3 dcq3 pmq3 anq3 cdq3 ctq3), slq3⟩)
    (cq3 : PySem.W.codeIn K cdq3 "is_breaker" = true)
    (kq3 : PySem.W.keepIn K (.ref fq3) = true)
    (aq4 : PySem.W.nsIn K mainGlobals "passes" = some (some (.ref fq4)))
    (lq4 : K.lookup fq4 = some ⟨ocq4, odq4, .func (PySem.W.fnOf "passes" "passes" (defArgs st_passes) (defBody st_passes) (defScope st_passes) .none kVq4 dcq4 pmq4 anq4 cdq4 ctq4), slq4⟩)
    (cq4 : PySem.W.codeIn K cdq4 "passes" = true)
    (kq4 : PySem.W.keepIn K (.ref fq4) = true)
    (aq5 : PySem.W.nsIn K mainGlobals "state_behind" = some (some (.ref fq5)))
    (lq5 : K.lookup fq5 = some ⟨ocq5, odq5, .func (PySem.W.fnOf "state_behind" "state_behind" (defArgs st_state_behind) (defBody st_state_behind) (defScope st_state_behind) .none kVq5 dcq5 pmq5 anq5 cdq5 ctq5), slq5⟩)
    (cq5 : PySem.W.codeIn K cdq5 "state_behind" = true)
    (kq5 : PySem.W.keepIn K (.ref fq5) = true)
    (aq6 : PySem.W.nsIn K mainGlobals "check_times" = some (some (.ref fq6)))
    (lq6 : K.lookup fq6 = some ⟨ocq6, odq6, .func (PySem.W.fnOf "check_times" "check_times" (defArgs st_check_times) (defBody st_check_times) (defScope st_check_times) .none kVq6 dcq6 pmq6 anq6 cdq6 ctq6), slq6⟩)
    (cq6 : PySem.W.codeIn K cdq6 "check_times" = true)
    (kq6 : PySem.W.keepIn K (.ref fq6) = true)
    (aq7 : PySem.W.nsIn K mainGlobals "log_of" = some (some (.ref fq7)))
    (lq7 : K.lookup fq7 = some ⟨ocq7, odq7, .func (PySem.W.fnOf "log_of" "log_of" (defArgs st_log_of) (defBody st_log_of) (defScope st_log_of) .none kVq7 dcq7 pmq7 anq7 cdq7 ctq7), slq7⟩)
    (cq7 : PySem.W.codeIn K cdq7 "log_of" = true)
    (kq7 : PySem.W.keepIn K (.ref fq7) = true)
    (aq8 : PySem.W.nsIn K mainGlobals "is_entry" = some (some (.ref fq8)))
    (lq8 : K.lookup fq8 = some ⟨ocq8, odq8, .func (PySem.W.fnOf "is_entry" "is_entry" (defArgs st_is_entry) (defBody st_is_entry) (defScope st_is_entry) .none kVq8 dcq8 pmq8 anq8 cdq8 ctq8), slq8⟩)
    (cq8 : PySem.W.codeIn K cdq8 "is_entry" = true)
    (kq8 : PySem.W.keepIn K (.ref fq8) = true)
    (aq9 : PySem.W.nsIn K mainGlobals "check_log" = some (some (.ref fq9)))
    (lq9 : K.lookup fq9 = some ⟨ocq9, odq9, .func (PySem.W.fnOf "check_log" "check_log" (defArgs st_check_log) (defBody st_check_log) (defScope st_check_log) .none kVq9 dcq9 pmq9 anq9 cdq9 ctq9), slq9⟩)
    (cq9 : PySem.W.codeIn K cdq9 "check_log" = true)
    (kq9 : PySem.W.keepIn K (.ref fq9) = true)
    (aq10 : PySem.W.nsIn K mainGlobals "passes_ahead" = some (some (.ref fq10)))
    (lq10 : K.lookup fq10 = some ⟨ocq10, odq10, .func (PySem.W.fnOf "passes_ahead" "passes_ahead" (defArgs st_passes_ahead) (defBody st_passes_ahead) (defScope st_passes_ahead) .none kVq10 dcq10 pmq10 anq10 cdq10 ctq10), slq10⟩)
    (cq10 : PySem.W.codeIn K cdq10 "passes_ahead" = true)
    (kq10 : PySem.W.keepIn K (.ref fq10) = true)
    (aq11 : PySem.W.nsIn K mainGlobals "gaps_of" = some (some (.ref fq11)))
    (lq11 : K.lookup fq11 = some ⟨ocq11, odq11, .func (PySem.W.fnOf "gaps_of" "gaps_of" (defArgs st_gaps_of) (defBody st_gaps_of) (defScope st_gaps_of) .none kVq11 dcq11 pmq11 anq11 cdq11 ctq11), slq11⟩)
    (cq11 : PySem.W.codeIn K cdq11 "gaps_of" = true)
    (kq11 : PySem.W.keepIn K (.ref fq11) = true)
    (aq12 : PySem.W.nsIn K mainGlobals "narrowed" = some (some (.ref fq12)))
    (lq12 : K.lookup fq12 = some ⟨ocq12, odq12, .func (PySem.W.fnOf "narrowed" "narrowed" (defArgs st_narrowed) (defBody st_narrowed) (defScope st_narrowed) .none kVq12 dcq12 pmq12 anq12 cdq12 ctq12), slq12⟩)
    (cq12 : PySem.W.codeIn K cdq12 "narrowed" = true)
    (kq12 : PySem.W.keepIn K (.ref fq12) = true)
    (aq13 : PySem.W.nsIn K mainGlobals "explanations" = some (some (.ref fq13)))
    (lq13 : K.lookup fq13 = some ⟨ocq13, odq13, .func (PySem.W.fnOf "explanations" "explanations" (defArgs st_explanations) (defBody st_explanations) (defScope st_explanations) .none kVq13 dcq13 pmq13 anq13 cdq13 ctq13), slq13⟩)
    (cq13 : PySem.W.codeIn K cdq13 "explanations" = true)
    (kq13 : PySem.W.keepIn K (.ref fq13) = true)
    (aq14 : PySem.W.nsIn K mainGlobals "first_conflict" = some (some (.ref fq14)))
    (lq14 : K.lookup fq14 = some ⟨ocq14, odq14, .func (PySem.W.fnOf "first_conflict" "first_conflict" (defArgs st_first_conflict) (defBody st_first_conflict) (defScope st_first_conflict) .none kVq14 dcq14 pmq14 anq14 cdq14 ctq14), slq14⟩)
    (cq14 : PySem.W.codeIn K cdq14 "first_conflict" = true)
    (kq14 : PySem.W.keepIn K (.ref fq14) = true)
    (aq15 : PySem.W.nsIn K mainGlobals "forecast" = some (some (.ref fq15)))
    (lq15 : K.lookup fq15 = some ⟨ocq15, odq15, .func (PySem.W.fnOf "forecast" "forecast" (defArgs st_forecast) (defBody st_forecast) (defScope st_forecast) .none kVq15 dcq15 pmq15 anq15 cdq15 ctq15), slq15⟩)
    (cq15 : PySem.W.codeIn K cdq15 "forecast" = true)
    (kq15 : PySem.W.keepIn K (.ref fq15) = true)
    (aq16 : PySem.W.nsIn K mainGlobals "_law_mixed" = some (some (.ref fq16)))
    (lq16 : K.lookup fq16 = some ⟨ocq16, odq16, .func (PySem.W.fnOf "_law_mixed" "_law_mixed" (defArgs st__law_mixed) (defBody st__law_mixed) (defScope st__law_mixed) .none kVq16 dcq16 pmq16 anq16 cdq16 ctq16), slq16⟩)
    (cq16 : PySem.W.codeIn K cdq16 "_law_mixed" = true)
    (kq16 : PySem.W.keepIn K (.ref fq16) = true)
    (aq17 : PySem.W.nsIn K mainGlobals "_law_well" = some (some (.ref fq17)))
    (lq17 : K.lookup fq17 = some ⟨ocq17, odq17, .func (PySem.W.fnOf "_law_well" "_law_well" (defArgs st__law_well) (defBody st__law_well) (defScope st__law_well) .none kVq17 dcq17 pmq17 anq17 cdq17 ctq17), slq17⟩)
    (cq17 : PySem.W.codeIn K cdq17 "_law_well" = true)
    (kq17 : PySem.W.keepIn K (.ref fq17) = true)
    (aq18 : PySem.W.nsIn K mainGlobals "_law_draw" = some (some (.ref fq18)))
    (lq18 : K.lookup fq18 = some ⟨ocq18, odq18, .func (PySem.W.fnOf "_law_draw" "_law_draw" (defArgs st__law_draw) (defBody st__law_draw) (defScope st__law_draw) .none kVq18 dcq18 pmq18 anq18 cdq18 ctq18), slq18⟩)
    (cq18 : PySem.W.codeIn K cdq18 "_law_draw" = true)
    (kq18 : PySem.W.keepIn K (.ref fq18) = true)
    (aq19 : PySem.W.nsIn K mainGlobals "_law_one" = some (some (.ref fq19)))
    (lq19 : K.lookup fq19 = some ⟨ocq19, odq19, .func (PySem.W.fnOf "_law_one" "_law_one" (defArgs st__law_one) (defBody st__law_one) (defScope st__law_one) .none kVq19 dcq19 pmq19 anq19 cdq19 ctq19), slq19⟩)
    (cq19 : PySem.W.codeIn K cdq19 "_law_one" = true)
    (kq19 : PySem.W.keepIn K (.ref fq19) = true)
    (aq20 : PySem.W.nsIn K mainGlobals "_law_place" = some (some (.ref fq20)))
    (lq20 : K.lookup fq20 = some ⟨ocq20, odq20, .func (PySem.W.fnOf "_law_place" "_law_place" (defArgs st__law_place) (defBody st__law_place) (defScope st__law_place) .none kVq20 dcq20 pmq20 anq20 cdq20 ctq20), slq20⟩)
    (cq20 : PySem.W.codeIn K cdq20 "_law_place" = true)
    (kq20 : PySem.W.keepIn K (.ref fq20) = true)
    (aq21 : PySem.W.nsIn K mainGlobals "_law_far_times" = some (some (.ref fq21)))
    (lq21 : K.lookup fq21 = some ⟨ocq21, odq21, .func (PySem.W.fnOf "_law_far_times" "_law_far_times" (defArgs st__law_far_times) (defBody st__law_far_times) (defScope st__law_far_times) .none kVq21 dcq21 pmq21 anq21 cdq21 ctq21), slq21⟩)
    (cq21 : PySem.W.codeIn K cdq21 "_law_far_times" = true)
    (kq21 : PySem.W.keepIn K (.ref fq21) = true)
    (aq22 : PySem.W.nsIn K mainGlobals "_law_bounds_right" = some (some (.ref fq22)))
    (lq22 : K.lookup fq22 = some ⟨ocq22, odq22, .func (PySem.W.fnOf "_law_bounds_right" "_law_bounds_right" (defArgs st__law_bounds_right) (defBody st__law_bounds_right) (defScope st__law_bounds_right) .none kVq22 dcq22 pmq22 anq22 cdq22 ctq22), slq22⟩)
    (cq22 : PySem.W.codeIn K cdq22 "_law_bounds_right" = true)
    (kq22 : PySem.W.keepIn K (.ref fq22) = true)
    (aq23 : PySem.W.nsIn K mainGlobals "_law_right" = some (some (.ref fq23)))
    (lq23 : K.lookup fq23 = some ⟨ocq23, odq23, .func (PySem.W.fnOf "_law_right" "_law_right" (defArgs st__law_right) (defBody st__law_right) (defScope st__law_right) .none kVq23 dcq23 pmq23 anq23 cdq23 ctq23), slq23⟩)
    (cq23 : PySem.W.codeIn K cdq23 "_law_right" = true)
    (kq23 : PySem.W.keepIn K (.ref fq23) = true)
    (gNMOST_ENTRIES : PySem.W.nsIn K mainGlobals "MOST_ENTRIES" = some (some (.int 1000 tNMOST_ENTRIES)))
    (aY : PySem.W.nsIn K mainGlobals "law" = some (some (.ref aLaw)))
    (lY : K.lookup aLaw = some ⟨ocY, odY, .func (PySem.W.fnOf "law" "law" (defArgs st_law) (defBody st_law) (defScope st_law) .none kVY dcY pmY anY cdY ctY), slY⟩)
    (cY : PySem.W.codeIn K cdY "law" = true)
    (kY : PySem.W.keepIn K (.ref aLaw) = true)
    (z_bool : PySem.W.nsIn K mainGlobals "bool" = some none)
    (z_dict : PySem.W.nsIn K mainGlobals "dict" = some none)
    (z_enumerate : PySem.W.nsIn K mainGlobals "enumerate" = some none)
    (z_int : PySem.W.nsIn K mainGlobals "int" = some none)
    (z_isinstance : PySem.W.nsIn K mainGlobals "isinstance" = some none)
    (z_len : PySem.W.nsIn K mainGlobals "len" = some none)
    (z_list : PySem.W.nsIn K mainGlobals "list" = some none)
    (z_max : PySem.W.nsIn K mainGlobals "max" = some none)
    (z_min : PySem.W.nsIn K mainGlobals "min" = some none)
    (z_range : PySem.W.nsIn K mainGlobals "range" = some none)
    (z_sorted : PySem.W.nsIn K mainGlobals "sorted" = some none)
    (z_tuple : PySem.W.nsIn K mainGlobals "tuple" = some none) :
    ∃ fd : FuncData, (∀ (s : Shared) (v : Value), BindsTo s fd ⟨[v], []⟩ [("_law_script", v)]) ∧ ∀ base : Heap, K.In base → base.Ns mainGlobals mg → FnOk P w K mg base CX0 12 fa fd ["_law_script"] (spLaw K) := by
  have e := hfa.symm.trans (PySem.W.mg_of X G aY)
  cases e
  obtain ⟨vMOST_COUNT, hvMOST_COUNT, rMOST_COUNT⟩ := LL.val _ hLMOST_COUNT
  obtain ⟨tMOST_COUNT, rfl, -⟩ := PySem.W.readsW_int_inv rMOST_COUNT
  obtain ⟨vMOST_TIME, hvMOST_TIME, rMOST_TIME⟩ := LL.val _ hLMOST_TIME
  obtain ⟨tMOST_TIME, rfl, -⟩ := PySem.W.readsW_int_inv rMOST_TIME
  have T : LX K mg ⟨fq0, fq1, fq2, fq3, fq4, fq5, fq6, fq7, fq8, fq9, fq10, fq11, fq12, fq13, fq14, fq15, fq16, fq17, fq18, fq19, fq20, fq21, fq22, fq23⟩ := ⟨PySem.W.mg_none_of X G z_bool,
    PySem.W.mg_none_of X G z_dict,
    PySem.W.mg_none_of X G z_enumerate,
    PySem.W.mg_none_of X G z_int,
    PySem.W.mg_none_of X G z_isinstance,
    PySem.W.mg_none_of X G z_len,
    PySem.W.mg_none_of X G z_list,
    PySem.W.mg_none_of X G z_max,
    PySem.W.mg_none_of X G z_min,
    PySem.W.mg_none_of X G z_range,
    PySem.W.mg_none_of X G z_sorted,
    PySem.W.mg_none_of X G z_tuple,
    ⟨_, hvMOST_COUNT⟩,
    ⟨_, hvMOST_TIME⟩,
    ⟨_, PySem.W.mg_of X G gNMOST_ENTRIES⟩,
    mk_dfn X G aq0 lq0 cq0 kq0 bn_q0,
    mk_dfn X G aq1 lq1 cq1 kq1 bn_q1,
    mk_dfn X G aq2 lq2 cq2 kq2 bn_q2,
    mk_dfn X G aq3 lq3 cq3 kq3 bn_q3,
    mk_dfn X G aq4 lq4 cq4 kq4 bn_q4,
    mk_dfn X G aq5 lq5 cq5 kq5 bn_q5,
    mk_dfn X G aq6 lq6 cq6 kq6 bn_q6,
    mk_dfn X G aq7 lq7 cq7 kq7 bn_q7,
    mk_dfn X G aq8 lq8 cq8 kq8 bn_q8,
    mk_dfn X G aq9 lq9 cq9 kq9 bn_q9,
    mk_dfn X G aq10 lq10 cq10 kq10 bn_q10,
    mk_dfn X G aq11 lq11 cq11 kq11 bn_q11,
    mk_dfn X G aq12 lq12 cq12 kq12 bn_q12,
    mk_dfn X G aq13 lq13 cq13 kq13 bn_q13,
    mk_dfn X G aq14 lq14 cq14 kq14 bn_q14,
    mk_dfn X G aq15 lq15 cq15 kq15 bn_q15,
    mk_dfn X G aq16 lq16 cq16 kq16 bn_q16,
    mk_dfn X G aq17 lq17 cq17 kq17 bn_q17,
    mk_dfn X G aq18 lq18 cq18 kq18 bn_q18,
    mk_dfn X G aq19 lq19 cq19 kq19 bn_q19,
    mk_dfn X G aq20 lq20 cq20 kq20 bn_q20,
    mk_dfn X G aq21 lq21 cq21 kq21 bn_q21,
    mk_dfn X G aq22 lq22 cq22 kq22 bn_q22,
    mk_dfn X G aq23 lq23 cq23 kq23 bn_q23⟩
  exact ⟨_, fun s v => .of_eq rfl, fun base _ _ => ok_law (fun_mk lY cY kY) T⟩
/-- as the hand layer's end, with what the loose names hold -/
theorem walk_loose {l : PySem.W.OpenLaw} {q p : Program} {lv : List (Str × PySem.W.WData)} {loose : List Str} {YP : World → Heap → Prop} {d : DefRec} {K : Params → PySem.W.Frag} (hn : l.most = some 63) (hd : d.params.defaults = []) (hY : ∀ (w : World) (h : Heap), YP w h → (K w.params).In h)
    (F : ∀ (w : World) (mg : Str → Option Value) (fa : Addr) (h : Heap), (K w.params).In h → h.Ns mainGlobals mg → PySem.W.LooseAre lv mg h → mg d.name = some (.ref fa) → ∃ fd : FuncData, (∀ (s : Shared) (u : Value), BindsTo s fd ⟨[u], []⟩ [("_law_script", u)]) ∧ ∀ base : Heap, (K w.params).In base → base.Ns mainGlobals mg → FnOk l.prog w (K w.params) mg base CX0 12 fa fd ["_law_script"] (spLaw (K w.params))) :
    PySem.W.WalkO q loose (PySem.W.XL p lv) YP l.row.toRowW d [] (fun f vs => PySem.call f vs) := Att.attach_call hn hd fun w _ s₁ mg mb fa _ _ _ _ a vs ns G Y _ _ _ hmg hobj hints hlen hg => by
  obtain ⟨fd, hb, hF⟩ := F w mg fa s₁.heap (hY w s₁.heap Y) G.T.g G.X.2 hmg
  exact law_call (hY w s₁.heap Y) G.T.g G.T.b G.T.builtins G.T.nolimit hg hobj hints (Nat.le_trans hlen (by decide)) ⟨rfl, by decide, by decide⟩ hF hb (fun H _ hS => ⟨a, ns, rfl, hS, hlen, fun _ => rfl⟩) fun _ _ _ z => z

end Toy
open PySem PySem.W PyProof.Rows
set_option maxRecDepth 100000 in
set_option maxHeartbeats 0 in
theorem PySem.Challenge.cw_breakerrow_k48_whole_great_logs_explaine_holds : PySem.Challenge.rw_breakerrow_k48_whole_great_logs_explaine.Holds := by
  w_on; o_law; k_head; (case hw => w_witness2)
  k_fill
  refine Toy.walk_loose (l := PySem.Challenge.rw_breakerrow_k48_whole_great_logs_explaine) rfl rfl (fun w h Y => PySem.W.kIn_of Y) ?F
  intro w mg fa h KX G LL hmg
  refine' Toy.all_mk KX G LL (by first | exact .head _ | exact .tail _ (.head _) | exact .tail _ (.tail _ (.head _)) | exact .tail _ (.tail _ (.tail _ (.head _))) | exact .tail _ (.tail _ (.tail _ (.tail _ (.head _)))) | exact .tail _ (.tail _ (.tail _ (.tail _ (.tail _ (.head _))))) | exact .tail _ (.tail _ (.tail _ (.tail _ (.tail _ (.tail _ (.head _)))))) | exact .tail _ (.tail _ (.tail _ (.tail _ (.tail _ (.tail _ (.tail _ (.head _))))))) | exact .tail _ (.tail _ (.tail _ (.tail _ (.tail _ (.tail _ (.tail _ (.tail _ (.head _)))))))) | exact .tail _ (.tail _ (.tail _ (.tail _ (.tail _ (.tail _ (.tail _ (.tail _ (.tail _ (.head _)))))))))) (by first | exact .head _ | exact .tail _ (.head _) | exact .tail _ (.tail _ (.head _)) | exact .tail _ (.tail _ (.tail _ (.head _))) | exact .tail _ (.tail _ (.tail _ (.tail _ (.head _)))) | exact .tail _ (.tail _ (.tail _ (.tail _ (.tail _ (.head _))))) | exact .tail _ (.tail _ (.tail _ (.tail _ (.tail _ (.tail _ (.head _)))))) | exact .tail _ (.tail _ (.tail _ (.tail _ (.tail _ (.tail _ (.tail _ (.head _))))))) | exact .tail _ (.tail _ (.tail _ (.tail _ (.tail _ (.tail _ (.tail _ (.tail _ (.head _)))))))) | exact .tail _ (.tail _ (.tail _ (.tail _ (.tail _ (.tail _ (.tail _ (.tail _ (.tail _ (.head _)))))))))) hmg ?aq0 ?lq0 ?cq0 ?kq0 ?aq1 ?lq1 ?cq1 ?kq1 ?aq2 ?lq2 ?cq2 ?kq2 ?aq3 ?lq3 ?cq3 ?kq3 ?aq4 ?lq4 ?cq4 ?kq4 ?aq5 ?lq5 ?cq5 ?kq5 ?aq6 ?lq6 ?cq6 ?kq6 ?aq7 ?lq7 ?cq7 ?kq7 ?aq8 ?lq8 ?cq8 ?kq8 ?aq9 ?lq9 ?cq9 ?kq9 ?aq10 ?lq10 ?cq10 ?kq10 ?aq11 ?lq11 ?cq11 ?kq11 ?aq12 ?lq12 ?cq12 ?kq12 ?aq13 ?lq13 ?cq13 ?kq13 ?aq14 ?lq14 ?cq14 ?kq14 ?aq15 ?lq15 ?cq15 ?kq15 ?aq16 ?lq16 ?cq16 ?kq16 ?aq17 ?lq17 ?cq17 ?kq17 ?aq18 ?lq18 ?cq18 ?kq18 ?aq19 ?lq19 ?cq19 ?kq19 ?aq20 ?lq20 ?cq20 ?kq20 ?aq21 ?lq21 ?cq21 ?kq21 ?aq22 ?lq22 ?cq22 ?kq22 ?aq23 ?lq23 ?cq23 ?kq23 ?gNMOST_ENTRIES ?aY ?lY ?cY ?kY ?z_bool ?z_dict ?z_enumerate ?z_int ?z_isinstance ?z_len ?z_list ?z_max ?z_min ?z_range ?z_sorted ?z_tuple
  (case aq0 => k_is)
  (case lq0 => k_is)
  (case cq0 => k_is)
  (case kq0 => k_is)
  (case aq1 => k_is)
  (case lq1 => k_is)
  (case cq1 => k_is)
  (case kq1 => k_is)
  (case aq2 => k_is)
  (case lq2 => k_is)
  (case cq2 => k_is)
  (case kq2 => k_is)
  (case aq3 => k_is)
  (case lq3 => k_is)
  (case cq3 => k_is)
  (case kq3 => k_is)
  (case aq4 => k_is)
  (case lq4 => k_is)
  (case cq4 => k_is)
  (case kq4 => k_is)
  (case aq5 => k_is)
  (case lq5 => k_is)
  (case cq5 => k_is)
  (case kq5 => k_is)
  (case aq6 => k_is)
  (case lq6 => k_is)
  (case cq6 => k_is)
  (case kq6 => k_is)
  (case aq7 => k_is)
  (case lq7 => k_is)
  (case cq7 => k_is)
  (case kq7 => k_is)
  (case aq8 => k_is)
  (case lq8 => k_is)
  (case cq8 => k_is)
  (case kq8 => k_is)
  (case aq9 => k_is)
  (case lq9 => k_is)
  (case cq9 => k_is)
  (case kq9 => k_is)
  (case aq10 => k_is)
  (case lq10 => k_is)
  (case cq10 => k_is)
  (case kq10 => k_is)
  (case aq11 => k_is)
  (case lq11 => k_is)
  (case cq11 => k_is)
  (case kq11 => k_is)
  (case aq12 => k_is)
  (case lq12 => k_is)
  (case cq12 => k_is)
  (case kq12 => k_is)
  (case aq13 => k_is)
  (case lq13 => k_is)
  (case cq13 => k_is)
  (case kq13 => k_is)
  (case aq14 => k_is)
  (case lq14 => k_is)
  (case cq14 => k_is)
  (case kq14 => k_is)
  (case aq15 => k_is)
  (case lq15 => k_is)
  (case cq15 => k_is)
  (case kq15 => k_is)
  (case aq16 => k_is)
  (case lq16 => k_is)
  (case cq16 => k_is)
  (case kq16 => k_is)
  (case aq17 => k_is)
  (case lq17 => k_is)
  (case cq17 => k_is)
  (case kq17 => k_is)
  (case aq18 => k_is)
  (case lq18 => k_is)
  (case cq18 => k_is)
  (case kq18 => k_is)
  (case aq19 => k_is)
  (case lq19 => k_is)
  (case cq19 => k_is)
  (case kq19 => k_is)
  (case aq20 => k_is)
  (case lq20 => k_is)
  (case cq20 => k_is)
  (case kq20 => k_is)
  (case aq21 => k_is)
  (case lq21 => k_is)
  (case cq21 => k_is)
  (case kq21 => k_is)
  (case aq22 => k_is)
  (case lq22 => k_is)
  (case cq22 => k_is)
  (case kq22 => k_is)
  (case aq23 => k_is)
  (case lq23 => k_is)
  (case cq23 => k_is)
  (case kq23 => k_is)
  (case gNMOST_ENTRIES => k_is)
  (case aY => k_is)
  (case lY => k_is)
  (case cY => k_is)
  (case kY => k_is)
  (case z_bool => k_is)
  (case z_dict => k_is)
  (case z_enumerate => k_is)
  (case z_int => k_is)
  (case z_isinstance => k_is)
  (case z_len => k_is)
  (case z_list => k_is)
  (case z_max => k_is)
  (case z_min => k_is)
  (case z_range => k_is)
  (case z_sorted => k_is)
  (case z_tuple => k_is)
