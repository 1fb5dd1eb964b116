import PyProof.Rows.All
import Wide.All
import OpenK.AllK
import Wide.FinOn
import HandS.ForMost
import HandS.IsInst
import HandS.Wide
import HandS.Style
import HandS.Defaults
import HandS.MakeKwOnly
import HandS.Zip
import HandS.SortRule
import HandS.TupAny
import HandS.Lambda
import KE.GoesEnum
import HandS.Flow
import HandS.Codes
import HandS.WideBits
import HandS.OwnEq
import HandS.TryOnly
import HandS.TupLe
import HandS.SetFor
import KE.DataMinMax
import HandS.Conv
import KE.DataFind
import PyProof.Rows.CallKwBuiltin
import PyProof.LongRange
import PySem.Challenge.RW_breakerrow_k56_playings_of_rows_kept_apa
set_option Elab.async false
set_option linter.all false
set_option maxRecDepth 100000
set_option maxHeartbeats 4000000
namespace Own
open PySem PySem.Spec PyProof.Rows L2
open Builtin

section
variable {X : Cx} {CX : CXT} {k : Nat} {f C : Addr} {fd : FuncData} {ps : List Str} {sp : Sp} {E : XK}

theorem rr {p : Addr} : L2.RelV (.ref p) (.ref p) := rfl
/-- a promise used under any frame below the body -/
theorem run_at {A : Around} {pins : List (Addr × Obj)} {σ : L2.St} {H : Hp} {s : Shared} {Q : VK} {us : List Value} {vs : List V} (F : FnOk X.prog X.w X.K X.mg X.base CX k f fd ps sp) (hr : Room k A) (hA : A.frames = X.A.frames)
    (hb : Binds X.K fd ps []) (hx : Passes CX X E) (I : Inv X pins σ H s) (r : Vals vs us) (h : sp vs H Q E) : wpAny (model X.prog X.w) A (call (.ref f) us) (EP X pins σ Q) X.xe s := by
  have hl : us.length = ps.length := by rw [← r.length]; exact F.len _ _ _ _ h
  have e0 : Env0 X.prog X.w X.K X.mg X.base A X.stack s H := by
    have e := I.env0
    exact ⟨by rw [hA]; exact e.frames, e.mod, e.bs, e.bsz, e.funs, e.frf, e.hok, e.bare⟩
  have hB : BindsTo s fd ⟨us, []⟩ (ps.zip us) := by
    have := hb s us I.kIn (by rw [List.append_nil]; exact hl)
    rwa [List.append_nil] at this
  refine wpAny_call (codeAny_mono (F.run A X.stack s H ⟨us, []⟩ us vs Q E hr e0 hB r h) fun r s' hq => ?_)
  cases r with
  | error e => exact hx pins σ H s e s' I hq
  | ok fl =>
    cases fl with
    | ret u => exact I.after hq
    | next => exact False.elim hq
    | brk => exact False.elim hq
    | cont => exact False.elim hq

theorem inst_of {pins : List (Addr × Obj)} {σ : L2.St} {H : Hp} {s : Shared} {p dx : Addr} {fs : List (Str × V)} (I : Inv X pins σ H s) (e : H p = some (.ins C dx fs)) : ∃ od, PySem.W.InstAt s.heap p (PySem.W.instObj C dx) C od := by
  obtain ⟨mA, O, _⟩ := ins_get I.hok e
  obtain ⟨od, J, _⟩ := O.look
  exact ⟨_, J⟩

/-- a bool is wanted of the method -/
def BlQ (Q : VK) (g : Bool → Bool) : VK := fun v H' => ∃ b, v = .bl b ∧ Q (.bl (g b)) H'
def rOwnIn (C : Addr) (sp : Sp) (E : XK) (g : Bool → Bool) : R2 := fun x y H Q => ∃ p dx fs, y = .ref p ∧ H p = some (.ins C dx fs) ∧ sp [.ref p, x] H (BlQ Q g) E
theorem op_own_in (F : FnOk X.prog X.w X.K X.mg X.base CX k f fd ps sp) (hr : Room k X.A) (hs : PySem.W.findIn X.K (.ref C) "__contains__" = some (some (.ref f))) (hf : PySem.W.isFn X.K (.ref f) = true) (hb : Binds X.K fd ps []) (hx : Passes CX X E) :
    OpR X (compareOp .In) (rOwnIn C sp E id) := by
  intro pins s σ H x y v u Q I rx ry h
  obtain ⟨p, dx, fs, rfl, hp, q⟩ := h
  cases ry
  obtain ⟨od, J⟩ := inst_of I hp
  obtain ⟨m, hF⟩ := I.fr
  refine PySem.W.in_K hF I.ok.mod.kin J hs hf (thn (run_at F hr rfl hb hx I (.cons rr (.cons rx .nil)) q) fun r s' hh => ?_)
  obtain ⟨z, H', I', rz, b, ez, q'⟩ := hh
  subst ez
  cases rz
  exact wpAny_truthy_bool ⟨.bl b, H', I', rfl, q'⟩
theorem op_own_notin (F : FnOk X.prog X.w X.K X.mg X.base CX k f fd ps sp) (hr : Room k X.A) (hs : PySem.W.findIn X.K (.ref C) "__contains__" = some (some (.ref f))) (hf : PySem.W.isFn X.K (.ref f) = true) (hb : Binds X.K fd ps []) (hx : Passes CX X E) :
    OpR X (compareOp .NotIn) (rOwnIn C sp E not) := by
  intro pins s σ H x y v u Q I rx ry h
  obtain ⟨p, dx, fs, rfl, hp, q⟩ := h
  cases ry
  obtain ⟨od, J⟩ := inst_of I hp
  obtain ⟨m, hF⟩ := I.fr
  refine PySem.W.notIn_K hF I.ok.mod.kin J hs hf (thn (run_at F hr rfl hb hx I (.cons rr (.cons rx .nil)) q) fun r s' hh => ?_)
  obtain ⟨z, H', I', rz, b, ez, q'⟩ := hh
  subst ez
  cases rz
  exact wpAny_truthy_bool ⟨.bl (!b), H', I', rfl, q'⟩
/-- len(o) -/
def rOwnLen (C : Addr) (sp : Sp) (E : XK) : List V → Hp → VK → Prop := fun xs H Q => ∃ p dx fs, xs = [.ref p] ∧ H p = some (.ins C dx fs) ∧ sp [.ref p] H (fun v H' => ∃ n : Int, v = .int n ∧ 0 ≤ n ∧ n < 2 ^ 63 ∧ Q (.int n) H') E
theorem call_own_len (F : FnOk X.prog X.w X.K X.mg X.base CX k f fd ps sp) (hr : Room (k + 1) X.A) (hs : PySem.W.findIn X.K (.ref C) "__len__" = some (some (.ref f))) (hf : PySem.W.isFn X.K (.ref f) = true) (hb : Binds X.K fd ps []) (hx : Passes CX X E) :
    CallR X (.builtin "len") (rOwnLen C sp E) := by
  intro pins s σ H xs us Q I r h
  obtain ⟨p, dx, fs, rfl, hp, q⟩ := h
  obtain ⟨u, rfl, ru⟩ := vals1 r
  cases ru
  obtain ⟨od, J⟩ := inst_of I hp
  obtain ⟨m, hF⟩ := I.fr
  refine PySem.W.len_K hF I.ok.mod.kin J hs hf (thn (run_at F hr.in1 rfl hb hx I (.cons rr .nil) q) fun r s' hh => ?_)
  obtain ⟨z, H', I', rz, n, ez, h0, h1, q'⟩ := hh
  subst ez
  obtain ⟨t, rfl⟩ := rz
  exact ⟨⟨h0, h1⟩, ⟨.int n, H', I'.tok _, ⟨_, rfl⟩, q'⟩⟩
/-- o + p, both of the class -/
def rOwnAdd (C : Addr) (sp : Sp) (E : XK) : R2 := fun x y H Q => ∃ p dx fs q dy gs, x = .ref p ∧ H p = some (.ins C dx fs) ∧ y = .ref q ∧ H q = some (.ins C dy gs) ∧ sp [.ref p, .ref q] H (fun v H' => (∃ a, v = .ref a) ∧ Q v H') E
theorem op_own_add (F : FnOk X.prog X.w X.K X.mg X.base CX k f fd ps sp) (hr : Room k X.A) (hc : PySem.W.selfFirst X.K C = true) (hs : PySem.W.findIn X.K (.ref C) "__add__" = some (some (.ref f))) (hf : PySem.W.isFn X.K (.ref f) = true) (hb : Binds X.K fd ps []) (hx : Passes CX X E) :
    OpR X (binaryOp .Add) (rOwnAdd C sp E) := by
  intro pins s σ H x y v u Q I rx ry h
  obtain ⟨p, dx, fs, q, dy, gs, rfl, hp, rfl, hq, hh⟩ := h
  cases rx
  cases ry
  obtain ⟨od, J⟩ := inst_of I hp
  obtain ⟨od', J'⟩ := inst_of I hq
  obtain ⟨m, hF⟩ := I.fr
  refine PySem.W.binop_K hF I.ok.mod.kin J J'.type hc hs hf (thn (run_at F hr rfl hb hx I (.cons rr (.cons rr .nil)) hh) fun r s' hh => ?_)
  obtain ⟨z, H', I', rz, ⟨a, ez⟩, q'⟩ := hh
  subst ez
  cases rz
  exact ⟨.ref a, H', I', rfl, q'⟩
/-- o[i] -/
def rOwnIx (C : Addr) (sp : Sp) (E : XK) : R2 := fun x y H Q => ∃ p dx fs, x = .ref p ∧ H p = some (.ins C dx fs) ∧ sp [.ref p, y] H Q E
theorem pe_own_ix {a b : Expr} {ta tb : TE} {pos : Pos} (F : FnOk X.prog X.w X.K X.mg X.base CX k f fd ps sp) (hr : Room (k + 1) X.A) (hs : PySem.W.findIn X.K (.ref C) "__getitem__" = some (some (.ref f))) (hfn : PySem.W.fnIn X.K f = true) (hf : PySem.W.isFn X.K (.ref f) = true)
    (hb : Binds X.K fd ps []) (hx : Passes CX X E) (ha : PE X a ta) (hb' : PE X b tb) (hsl : ∀ o i, subscripted b true o i = runValue (.builtin "lifetime.subscript" ⟨[o, i], []⟩) := by exact fun _ _ => rfl) :
    PE X (.Subscript a b pos) (tOp (rOwnIx C sp E) ta tb) := by
  refine ⟨fun pins s σ H Q I h => ?_⟩
  refine Subscript_ (binT ha hb' I h fun v u s2 x y H2 I2 rx ry q => ?_)
  obtain ⟨p, dx, fs, rfl, hp, q⟩ := q
  cases rx
  obtain ⟨od, J⟩ := inst_of I2 hp
  obtain ⟨m, hF⟩ := I2.fr
  exact PySem.W.sub_K hF I2.ok.mod.kin J hs hfn hf (run_at F hr.in1 rfl hb hx I2 (.cons rr (.cons ry .nil)) q) (hsl _ _)

/-! ### own == and the != that comes with it -/
theorem sub_ty {K : PySem.W.Frag} {C : Addr} {T : String} {l : List String} (e : fastBuiltinMro T = some (l.map Value.type)) : PySem.W.subIn K (.type T) (.ref C) = some false := by
  show (fastBuiltinMro T).map (·.contains (.ref C)) = some false
  rw [e]
  have : ∀ l : List String, (l.map Value.type).contains (Value.ref C) = false := by
    intro l
    induction l with
    | nil => rfl
    | cons a r ih =>
      rw [List.map_cons, List.contains_cons, ih]
      rfl
  rw [Option.map_some, this]
/-- a value's type, not one below the class C -/
inductive TyN (H : Hp) (C : Addr) : V → Value → Prop where
  | non : TyN H C .non (.type "NoneType")
  | bl (x : Bool) : TyN H C (.bl x) (.type "bool")
  | int (i : Int) : TyN H C (.int i) (.type "int")
  | str (x : Str) : TyN H C (.str x) (.type "str")
  | lst {a : Addr} {xs : List V} (e : H a = some (.lst xs)) : TyN H C (.ref a) (.type "list")
  | tup {a : Addr} {xs : List V} (e : H a = some (.tup xs)) : TyN H C (.ref a) (.type "tuple")
  | ins {a dx : Addr} {fs : List (Str × V)} (e : H a = some (.ins C dx fs)) : TyN H C (.ref a) (.ref C)
theorem TyN.notFirst {K : PySem.W.Frag} {H : Hp} {x : V} {t : Value} (h : TyN H C x t) : PySem.W.notFirst K C t = true := by
  cases h with
  | non => exact Bool.or_eq_true_iff.mpr (.inr (beq_iff_eq.mpr (sub_ty (l := ["NoneType", "object"]) (by decide +kernel))))
  | bl _ => exact Bool.or_eq_true_iff.mpr (.inr (beq_iff_eq.mpr (sub_ty (l := ["bool", "int", "object"]) (by decide +kernel))))
  | int _ => exact Bool.or_eq_true_iff.mpr (.inr (beq_iff_eq.mpr (sub_ty (l := ["int", "object"]) (by decide +kernel))))
  | str _ => exact Bool.or_eq_true_iff.mpr (.inr (beq_iff_eq.mpr (sub_ty (l := ["str", "object"]) (by decide +kernel))))
  | lst _ => exact Bool.or_eq_true_iff.mpr (.inr (beq_iff_eq.mpr (sub_ty (l := ["list", "object"]) (by decide +kernel))))
  | tup _ => exact Bool.or_eq_true_iff.mpr (.inr (beq_iff_eq.mpr (sub_ty (l := ["tuple", "object"]) (by decide +kernel))))
  | ins _ => exact Bool.or_eq_true_iff.mpr (.inl (by simp))
theorem looks_obj {M : Model} {h : Heap} {a : Addr} {o : Obj} (e : h.get? a = some o) : PySem.W.Looks M h (typeOf (.ref a)) o.cls := fun A Q E s kp q => PySem.wpAny_typeOf_ref (kp _ _ e) q
theorem TyN.looks {M : Model} {pins : List (Addr × Obj)} {σ : L2.St} {H : Hp} {s : Shared} {x : V} {u t : Value} (I : Inv X pins σ H s) (r : RelV x u) (h : TyN H C x t) : PySem.W.Looks M s.heap (typeOf u) t := by
  cases h with
  | non => cases r; exact PySem.W.Looks.of_pure rfl
  | bl _ => cases r; exact PySem.W.Looks.of_pure rfl
  | int _ => obtain ⟨_, rfl⟩ := r; exact PySem.W.Looks.of_pure rfl
  | str _ => obtain ⟨_, rfl⟩ := r; exact PySem.W.Looks.of_pure rfl
  | @lst a xs e =>
    cases r
    obtain ⟨_, _, n, _, h1⟩ := (show ObjOk X.prog X.w H s.heap a (.lst xs) from I.hok a _ e)
    exact looks_obj h1
  | @tup a xs e =>
    cases r
    obtain ⟨_, _, _, o, h1, h2, _⟩ := (show ObjOk X.prog X.w H s.heap a (.tup xs) from I.hok a _ e)
    have := looks_obj (M := M) h1
    rw [h2] at this
    exact this
  | ins e =>
    cases r
    obtain ⟨od, J⟩ := inst_of I e
    exact J.type
def rOwnEq (C : Addr) (sp : Sp) (E : XK) (g : Bool → Bool) : R2 := fun x y H Q => ∃ p dx fs t, x = .ref p ∧ H p = some (.ins C dx fs) ∧ TyN H C y t ∧ sp [.ref p, y] H (BlQ Q g) E
theorem op_own_eq (F : FnOk X.prog X.w X.K X.mg X.base CX k f fd ps sp) (hr : Room k X.A) (hs : PySem.W.findIn X.K (.ref C) "__eq__" = some (some (.ref f))) (hf : PySem.W.isFn X.K (.ref f) = true) (hb : Binds X.K fd ps []) (hx : Passes CX X E) :
    OpR X (compareOp .Eq) (rOwnEq C sp E id) := by
  intro pins s σ H x y v u Q I rx ry h
  obtain ⟨p, dx, fs, t, rfl, hp, ty, q⟩ := h
  cases rx
  obtain ⟨od, J⟩ := inst_of I hp
  obtain ⟨m, hF⟩ := I.fr
  show wpAny (model X.prog X.w) X.A (richCompare .Eq (.ref p) u) (EP X pins σ Q) X.xe s
  refine PySem.W.cmp_K (op := .Eq) hr.units0 hF I.ok.mod.kin J (ty.looks I ry) ty.notFirst hs hf (thn (run_at F hr rfl hb hx I (.cons rr (.cons ry .nil)) q) fun r s' hh => ?_)
  obtain ⟨z, H', I', rz, b, ez, q'⟩ := hh
  subst ez
  cases rz
  exact ⟨.bl b, H', I', rfl, q'⟩
section
variable {prog : Program} {w : World} {A : Around} {E' : Value → Shared → Prop} {s : Shared} {K : PySem.W.Frag} {x : Addr} {ox : Obj} {od : Option Obj} {b : Value}
theorem objNe_entry (hX : K.In s.heap) (I : PySem.W.InstAt s.heap x ox C od) (hs : PySem.W.findIn K (.ref C) "__eq__" = some (some (.ref f))) (hf : PySem.W.isFn K (.ref f) = true) (hu : A.units < cLine) {Q : Fin → Shared → Prop}
    (hcall : wpAny (model prog w) A (call (.ref f) [.ref x, b]) (fun v s' => ∃ k, v = .bool k ∧ Q (.done (.ret (.bool (!k)))) s') E' s) :
    wpAny (model prog w) A (Builtin.«object.__ne__» ⟨[.ref x, b], []⟩) Q E' s := by
  unfold Builtin.«object.__ne__»
  repeat (first
    | with_reducible refine wpAny_cRoomFor hu ?_
    | (refine wpAny_bind (m := callSpecialIfBound? (.ref x) (Str.ofString "__eq__") [b])
        (PySem.W.ifBound_K hX I hs hf (wpAny_mono hcall (fun r s' hr => by
          obtain ⟨k, rfl, hq⟩ := hr
          repeat (first | exact hq | exact wpAny_pure hq | exact wpAny_truthy_bool hq | (refine wpAny_bind (m := truthy (.bool _)) (wpAny_truthy_bool ?_)) | wp_step)) fun _ _ e => e)))
    | wp_step)
theorem call_objNe (hX : K.In s.heap) (I : PySem.W.InstAt s.heap x ox C od) (hm : PySem.W.mroIn K C (.type "object") = some true) (hs : PySem.W.findIn K (.ref C) "__eq__" = some (some (.ref f))) (hf : PySem.W.isFn K (.ref f) = true) (hu : A.units + 1 < cLine) {Q : Value → Shared → Prop}
    (hcall : wpAny (model prog w) A.in1 (call (.ref f) [.ref x, b]) (fun v s' => ∃ k, v = .bool k ∧ Q (.bool (!k)) s') E' s) :
    wpAny (model prog w) A (call (.builtin "object.__ne__") [.ref x, b]) Q E' s :=
  wpAny_call (codeAny_call_builtin PySem.F.cmp_object.ne.plain PySem.F.cmpEntry_ne (PySem.W.check_slot PySem.F.cmpKind_ne PySem.F.cmpSplit_ne (I.type.andThen (PySem.W.looks_mroIn hX hm)) (PySem.F.cmpArgs_ne _ _)
    (objNe_entry (A := A.in1) hX I hs hf hu (wpAny_mono hcall (fun v s' hv => by
      obtain ⟨k, e, hq⟩ := hv
      exact ⟨k, e, hq⟩) fun _ _ e => e))))
theorem ifBound_objNe {M : Model} {args : List Value} {Q : Option Value → Shared → Prop} (hX : K.In s.heap) (I : PySem.W.InstAt s.heap x ox C od) (hs : PySem.W.findIn K (.ref C) "__ne__" = some (some (.builtin "object.__ne__")))
    (h : wpAny M A (call (.builtin "object.__ne__") (.ref x :: args)) (fun v => Q (some v)) E' s) : wpAny M A (callSpecialIfBound? (.ref x) "__ne__" args) Q E' s := by
  simp only [callSpecialIfBound?, bindSpecialIfBound?]
  refine wpAny_holding (wpAny_bind (wpAny_bind (wpAny_bind (I.type.here ((PySem.W.looks_findIn hX hs).here ?_)))))
  refine wpAny_bind (wpAny_askSetting (wpAny_ite ?_))
  have fin : wpAny M A (call (.builtin "object.__ne__") ([.ref x] ++ args) >>= fun v => pure (some v)) Q E' s := wpAny_bind (wpAny_mono h (fun v s' h' => wpAny_pure h') fun _ _ h' => h')
  split
  · exact wpAny_bind (wpAny_of_eq (PySem.F.cmp_object.ne.bind _) (wpAny_pure (by exact fin)))
  · exact wpAny_tryCatch (wpAny_bind (wpAny_of_eq (PySem.F.cmp_object.ne.bind _) (wpAny_pure (by exact fin))))
theorem rc_ne {tb : Value} {Q : Value → Shared → Prop} (hu : A.units + 1 < cLine) (hX : K.In s.heap) (I : PySem.W.InstAt s.heap x ox C od) (hb : PySem.W.Looks (model prog w) s.heap (typeOf b) tb) (hn : PySem.W.notFirst K C tb = true)
    (hm : PySem.W.mroIn K C (.type "object") = some true) (hne : PySem.W.findIn K (.ref C) "__ne__" = some (some (.builtin "object.__ne__"))) (hs : PySem.W.findIn K (.ref C) "__eq__" = some (some (.ref f))) (hf : PySem.W.isFn K (.ref f) = true)
    (hcall : wpAny (model prog w) A.in1 (call (.ref f) [.ref x, b]) (fun v s' => ∃ k, v = .bool k ∧ Q (.bool (!k)) s') E' s) : wpAny (model prog w) A (richCompare .NotEq (.ref x) b) Q E' s := by
  have one : wpAny (model prog w) A (tryCompare (.ref x) "__ne__" b) (fun r s' => ∃ v, r = some v ∧ Q v s') E' s := by
    unfold tryCompare
    refine wpAny_bind (ifBound_objNe hX I hne (call_objNe hX I hm hs hf hu (wpAny_mono hcall (fun v s' hv => ?_) fun _ _ e => e)))
    obtain ⟨k, rfl, hq⟩ := hv
    exact ⟨k, rfl, wpAny_pure ⟨_, rfl, hq⟩⟩
  unfold richCompare
  simp only [oneThing_ref, cmpInfo_NotEq]
  refine wpAny_holding (wpAny_bind (wpAny_cRoomFor (Nat.lt_of_succ_lt hu) ?_))
  refine wpAny_bind (I.type.here (wpAny_bind (hb.here ?_)))
  split
  · rename_i q
    have e : PySem.W.subIn K tb (.ref C) = some false := by
      rcases Bool.or_eq_true_iff.mp hn with e | e
      · rw [beq_iff_eq.mp e] at q; simp at q
      · exact beq_iff_eq.mp e
    refine wpAny_bind ((PySem.W.looks_subIn hX e).here ?_)
    simp only [Bool.false_eq_true, if_false]
    refine wpAny_bind (wpAny_mono one (fun r s' z => ?_) fun _ _ e => e)
    obtain ⟨v, rfl, hq⟩ := z
    exact wpAny_pure hq
  · refine wpAny_bind (wpAny_pure ?_)
    simp only [Bool.false_eq_true, if_false]
    refine wpAny_bind (wpAny_mono one (fun r s' z => ?_) fun _ _ e => e)
    obtain ⟨v, rfl, hq⟩ := z
    exact wpAny_pure hq
end
theorem op_own_ne (F : FnOk X.prog X.w X.K X.mg X.base CX k f fd ps sp) (hr : Room (k + 1) X.A) (hm : PySem.W.mroIn X.K C (.type "object") = some true) (hne : PySem.W.findIn X.K (.ref C) "__ne__" = some (some (.builtin "object.__ne__")))
    (hs : PySem.W.findIn X.K (.ref C) "__eq__" = some (some (.ref f))) (hf : PySem.W.isFn X.K (.ref f) = true) (hb : Binds X.K fd ps []) (hx : Passes CX X E) :
    OpR X (compareOp .NotEq) (rOwnEq C sp E not) := by
  intro pins s σ H x y v u Q I rx ry h
  obtain ⟨p, dx, fs, t, rfl, hp, ty, q⟩ := h
  cases rx
  obtain ⟨od, J⟩ := inst_of I hp
  show wpAny (model X.prog X.w) X.A (richCompare .NotEq (.ref p) u) (EP X pins σ Q) X.xe s
  refine rc_ne (hu_of hr) I.kIn J (ty.looks I ry) ty.notFirst hm hne hs hf (thn (run_at F hr.in1 rfl hb hx I (.cons rr (.cons ry .nil)) q) fun r s' hh => ?_)
  obtain ⟨z, H', I', rz, b, ez, q'⟩ := hh
  subst ez
  cases rz
  exact ⟨b, rfl, .bl (!b), H', I', rfl, q'⟩
end
end Own

namespace Toy
open PySem L2 Own
/-! ### the text by places -/
def top (i : Nat) : Stmt := PySem.Challenge.pw_breakerrow_k56_playings_of_rows_kept_apa.main.body.getD i (.Pass ⟨0, 0, 0, 0⟩)
abbrev st__wall : Stmt := top 0
abbrev st_InvalidRow_init : Stmt := inClass (top 3) 0
abbrev st_InvalidIndex_init : Stmt := inClass (top 4) 0
abbrev st_InvalidBound_init : Stmt := inClass (top 5) 0
abbrev st_InvalidLog_init : Stmt := inClass (top 6) 0
abbrev st_InvalidCall_init : Stmt := inClass (top 7) 0
abbrev st_LimitExceeded_init : Stmt := inClass (top 8) 0
abbrev st_is_integer : Stmt := top 10
abbrev st_is_at_least : Stmt := top 11
abbrev st_is_within : Stmt := top 12
abbrev st_Row_init : Stmt := inClass (top 17) 0
abbrev st_Row_breaker_list : Stmt := inClass (top 17) 1
abbrev st_Row_step_length : Stmt := inClass (top 17) 2
abbrev st_Row_phase_time : Stmt := inClass (top 17) 3
abbrev st_Row_len : Stmt := inClass (top 17) 4
abbrev st_Row_getitem : Stmt := inClass (top 17) 5
abbrev st_Row_iter : Stmt := inClass (top 17) 6
abbrev st_Row_contains : Stmt := inClass (top 17) 7
abbrev st_Row_add : Stmt := inClass (top 17) 8
abbrev st_Row_eq : Stmt := inClass (top 17) 9
abbrev st_is_breaker : Stmt := top 18
abbrev st_check_breakers : Stmt := top 19
abbrev st_check_step : Stmt := top 20
abbrev st_request_time : Stmt := top 21
abbrev st_closed_states : Stmt := top 26
abbrev st_passes : Stmt := top 27
abbrev st_state_behind : Stmt := top 28
abbrev st_sent : Stmt := top 29
abbrev st_Playing_init : Stmt := inClass (top 31) 0
abbrev st_Playing_base_row : Stmt := inClass (top 31) 1
abbrev st_Playing_next_request : Stmt := inClass (top 31) 2
abbrev st_Playing_request : Stmt := inClass (top 31) 3
abbrev st_Playing_state_list : Stmt := inClass (top 31) 4
abbrev st_Playing_is_whole : Stmt := inClass (top 31) 5
abbrev st_Playing_log : Stmt := inClass (top 31) 6
abbrev st_Playing_undo : Stmt := inClass (top 31) 7
abbrev st_Playing_eq : Stmt := inClass (top 31) 8
abbrev st_is_word : Stmt := top 32
abbrev st_check_words : Stmt := top 33
abbrev st_played : Stmt := top 34
abbrev st_replay : Stmt := top 35
abbrev st_outcomes : Stmt := top 36
abbrev st__law_cell_at : Stmt := top 38
abbrev st__law_source_of : Stmt := top 39
abbrev st__law_draw : Stmt := top 40
abbrev st__law_choice : Stmt := top 41
abbrev st__law_specs : Stmt := top 42
abbrev st__law_words : Stmt := top 43
abbrev st__law_is_shut : Stmt := top 44
abbrev st__law_behind : Stmt := top 45
abbrev st__law_due : Stmt := top 46
abbrev st__law_shown : Stmt := top 47
abbrev st__law_three_right : Stmt := top 48
abbrev st__law_logs_right : Stmt := top 49
abbrev st__law_long : Stmt := top 50
abbrev st_law : Stmt := top 51
/-- a def of the top -/
structure Dfn (K : PySem.W.Frag) (mg : Str → Option Value) (x : Str) (st : Stmt) (f : Addr) (ps : List Str) : Prop where
  ex : ∃ fd, Fun K x x st f fd ∧ Binds K fd ps []
  g : mg x = some (.ref f)
structure Mth (K : PySem.W.Frag) (C : Addr) (m q : Str) (st : Stmt) (f : Addr) (ps : List Str) : Prop where
  ex : ∃ fd, Fun K m q st f fd ∧ Binds K fd ps []
  at_ : PySem.W.findIn K (.ref C) m = some (some (.ref f))
  fn : PySem.W.isFn K (.ref f) = true
  fk : PySem.W.fnIn K f = true
/-- a def that is called by its name, with its promise -/
structure Cal (P : Program) (w : World) (K : PySem.W.Frag) (mg : Str → Option Value) (base : Heap) (x : Str) (k : Nat) (f : Addr) (ps : List Str) (sp : Sp) : Prop where
  ex : ∃ fd, FnOk P w K mg base CX0 k f fd ps sp ∧ Binds K fd ps []
  g : mg x = some (.ref f)
  kp : PySem.W.keepIn K (.ref f) = true
theorem Dfn.cal {P : Program} {w : World} {K : PySem.W.Frag} {mg : Str → Option Value} {base : Heap} {x : Str} {st : Stmt} {f : Addr} {ps : List Str} {k : Nat} {sp : Sp} (D : Dfn K mg x st f ps) (h : ∀ fd, Fun K x x st f fd → FnOk P w K mg base CX0 k f fd ps sp) : Cal P w K mg base x k f ps sp := by
  obtain ⟨fd, F, b⟩ := D.ex
  exact ⟨⟨fd, h fd F, b⟩, D.g, F.kp⟩
theorem pe_c {X : Cx} {x : Str} {k : Nat} {f : Addr} {ps : List Str} {sp : Sp} {t : TA} {e : Expr} {es : List Expr} {p pos : Pos} (c : Cal X.prog X.w X.K X.mg X.base x k f ps sp) (hr : Room k X.A) (hg : Gl X x)
    (ha : PA X (e :: es) t) (hdb : (x == ("__debug__" : Str)) = false := by decide) (he : starEach (e :: es) X.env = (false, eval e X.env) :: starEach es X.env := by rfl) (hpl : (backTo pos (starEach es X.env)).any (·.1) = false := by rfl) :
    PE X (.Call (.Name x p) (e :: es) [] pos) (tCall sp [] E0 t) := by
  obtain ⟨fd, F, b⟩ := c.ex
  exact pe_call F hr hg c.g c.kp b .nil pass0 ha hdb he hpl
/-- a method with its promise -/
structure Met (P : Program) (w : World) (K : PySem.W.Frag) (mg : Str → Option Value) (base : Heap) (C : Addr) (m : Str) (k : Nat) (f : Addr) (ps : List Str) (sp : Sp) : Prop where
  ex : ∃ fd, FnOk P w K mg base CX0 k f fd ps sp ∧ Binds K fd ps []
  me : Meth K C m f
  fk : PySem.W.fnIn K f = true
theorem Mth.met {P : Program} {w : World} {K : PySem.W.Frag} {mg : Str → Option Value} {base : Heap} {C : Addr} {m q : Str} {st : Stmt} {f : Addr} {ps : List Str} {k : Nat} {sp : Sp} (D : Mth K C m q st f ps) (h : ∀ fd, Fun K m q st f fd → FnOk P w K mg base CX0 k f fd ps sp) : Met P w K mg base C m k f ps sp := by
  obtain ⟨fd, F, b⟩ := D.ex
  exact ⟨⟨fd, h fd F, b⟩, ⟨D.at_, D.fn, F.kp⟩, D.fk⟩

/-! ### values of plain kinds -/
inductive Kd (H : Hp) : V → String → Prop where
  | non : Kd H .non "NoneType"
  | bl (b : Bool) : Kd H (.bl b) "bool"
  | int (i : Int) : Kd H (.int i) "int"
  | str (x : Str) : Kd H (.str x) "str"
  | lst {a : Addr} {xs : List V} (e : H a = some (.lst xs)) : Kd H (.ref a) "list"
  | tup {a : Addr} {xs : List V} (e : H a = some (.tup xs)) : Kd H (.ref a) "tuple"
  | dK {a : Addr} {xs : List (Key × V)} (e : H a = some (.dK xs)) : Kd H (.ref a) "dict"
theorem Kd.ty {K : PySem.W.Frag} {H : Hp} {v : V} {n : String} (h : Kd H v n) : TyX K H v (.type n) := by
  cases h with
  | non => exact .base .non
  | bl b => exact .base (.bl b)
  | int i => exact .base (.int i)
  | str x => exact .base (.str x)
  | lst e => exact .base (.lst e)
  | tup e => exact .base (.tup e)
  | dK e => exact .base (.dK e)
def isI : V → Bool
  | .int _ => true
  | _ => false
def toI : V → Int
  | .int i => i
  | _ => 0
theorem Kd.kit {K : PySem.W.Frag} {H : Hp} {v : V} {n : String} (h : Kd H v n) (c : String) (b : Bool) (hc : c = "int" ∧ b = (n == "int" || n == "bool") ∨ c ≠ "int" ∧ c ∈ ["bool", "list", "tuple"] ∧ b = (n == c)) : PySem.W.kitOne K (.type n) (.type c) = some b := by
  rcases hc with ⟨rfl, rfl⟩ | ⟨_, hc, rfl⟩
  · cases h <;> exact kit_ty (by decide +kernel)
  · simp only [List.mem_cons, List.mem_nil_iff, or_false] at hc
    rcases hc with rfl | rfl | rfl <;> cases h <;> exact kit_ty (by decide +kernel)
theorem Kd.same {H H' : Hp} {v : V} {n : String} (h : Kd H v n) (s : ∀ b o, v = .ref b → H b = some o → H' b = some o) : Kd H' v n := by
  cases h with
  | non => exact .non
  | bl b => exact .bl b
  | int i => exact .int i
  | str x => exact .str x
  | lst e => exact .lst (s _ _ rfl e)
  | tup e => exact .tup (s _ _ rfl e)
  | dK e => exact .dK (s _ _ rfl e)
/-- all but what stands at a is kept -/
def Kp (a : Addr) (H H' : Hp) : Prop := ∀ b o, b ≠ a → H b = some o → H' b = some o
theorem Kp.refl {a : Addr} {H : Hp} : Kp a H H := fun _ _ _ h => h
theorem Kp.trans {a : Addr} {H H1 H2 : Hp} (h : Kp a H H1) (h' : Kp a H1 H2) : Kp a H H2 := fun b o n e => h' b o n (h b o n e)
theorem Kp.of {a : Addr} {H H' : Hp} (s : Same H H') : Kp a H H' := fun b o _ e => s b o e
theorem Kp.upd {a : Addr} {H : Hp} {o : HO} : Kp a H (upd H a o) := fun b _ n e => by rw [upd_ne n]; exact e
theorem Same.upd {H : Hp} {p : Addr} {o : HO} (h : H p = none) : Same H (L2.upd H p o) := fun b u e => by rw [upd_ne (ne_of_none e h)]; exact e
theorem Kp.free {a b : Addr} {H H' : Hp} {o : HO} (k : Kp a H H') (ha : H a = some o) (h : H' b = none) (n : b ≠ a) : H b = none := by
  cases q : H b with
  | none => rfl
  | some u => rw [k b u n q] at h; cases h

/-! ### the promises of the small defs -/
def spIsInt : Sp := fun vs H Q _ => ∃ v n, vs = [v] ∧ Kd H v n ∧ Q (.bl (isI v)) H
def spAtL : Sp := fun vs H Q _ => ∃ v n l, vs = [v, .int l] ∧ Kd H v n ∧ Q (.bl (isI v && decide (l ≤ toI v))) H
def spWithin : Sp := fun vs H Q _ => ∃ v n l m, vs = [v, .int l, .int m] ∧ Kd H v n ∧ Q (.bl (isI v && (decide (l ≤ toI v) && decide (toI v ≤ m)))) H
/-- how many steps -/
def stepsUp (d s : Int) : Int := if -(-d / s) > 0 then -(-d / s) else 0
def spSteps : Sp := fun vs H Q _ => ∃ d s, vs = [.int d, .int s] ∧ 0 < s ∧ s.natAbs.log2 < 9000 ∧ Q (.int (stepsUp d s)) H

/-- what is no list is kept -/
def NL (H H' : Hp) : Prop := ∀ b o, H b = some o → (∀ xs, o ≠ .lst xs) → H' b = some o
theorem NL.refl {H : Hp} : NL H H := fun _ _ h _ => h
theorem NL.trans {H H1 H2 : Hp} (a : NL H H1) (b : NL H1 H2) : NL H H2 := fun c o h n => b c o (a c o h n) n
theorem NL.of {H H' : Hp} (s : Same H H') : NL H H' := fun b o e _ => s b o e
theorem Kp.nl {a : Addr} {H H' : Hp} {xs : List V} (k : Kp a H H') (h : H a = some (.lst xs)) : NL H H' := fun b o e n => k b o (fun z => by subst z; rw [h] at e; exact n xs (Option.some.inj e).symm) e
theorem NL.upd {H : Hp} {p : Addr} {xs : List V} {o : HO} (h : H p = some (.lst xs)) : NL H (L2.upd H p o) := Kp.nl Kp.upd h
theorem pe_gI {X : Cx} {x : Str} {i : Int} {t : Tok} {pos : Pos} (hm : X.mg x = some (.int i t)) (hg : Gl X x := by rfl) (hd : (x == ("__debug__" : Str)) = false := by decide) : PE X (.Name x pos) (tC (.int i)) := pe_glob hg hm ⟨t, rfl⟩ hd
@[irreducible] def PB (n : Nat) : Int := 2 ^ n
theorem PB_succ (n : Nat) : PB (n + 1) = PB n + PB n := by
  unfold PB
  rw [Int.pow_succ]
  omega
theorem PB_pos (n : Nat) : 1 ≤ PB n := by
  unfold PB
  have : (0 : Int) < 2 ^ n := Int.pow_pos (by decide)
  omega
theorem PB_le {n m : Nat} (h : n ≤ m) : PB n ≤ PB m := by
  induction m with
  | zero => rw [Nat.le_zero.mp h]; exact Int.le_refl _
  | succ m ih =>
    by_cases e : n = m + 1
    · rw [e]; exact Int.le_refl _
    · have h1 := ih (by omega)
      have h2 := PB_succ m
      have h3 := PB_pos m
      omega
theorem PB_abs {i : Int} {n : Nat} (h0 : 0 ≤ i) (h : i ≤ PB n) : i.natAbs < 2 ^ (n + 1) := by
  unfold PB at h
  have e : (2 : Nat) ^ (n + 1) = 2 ^ n * 2 := Nat.pow_succ 2 n
  have e2 : ((2 ^ n : Nat) : Int) = 2 ^ n := by rw [Int.natCast_pow]; rfl
  rw [← e2] at h
  have : 0 < 2 ^ n := Nat.pow_pos (by decide)
  rw [e]
  generalize 2 ^ n = w at *
  omega
theorem PB_of {i : Int} {n : Nat} (h : i.natAbs < 2 ^ n) : i ≤ PB n := by
  unfold PB
  have e2 : ((2 ^ n : Nat) : Int) = 2 ^ n := by rw [Int.natCast_pow]; rfl
  rw [← e2]
  generalize 2 ^ n = w at *
  omega
def BB : Int := PB 5000
theorem BB0 : 0 ≤ BB := by
  have := PB_pos 5000
  unfold BB
  omega
theorem bb_lt {i : Int} (h0 : 0 ≤ i) (h : i ≤ BB + BB) : i.natAbs < 2 ^ 5002 := PB_abs h0 (by rw [PB_succ]; exact h)
theorem mulBB {i j : Int} (i0 : 0 ≤ i) (i1 : i ≤ BB + BB) (j0 : 0 ≤ j) (j1 : j ≤ BB + BB) : CMulW i j := wide_mul (bb_lt i0 i1) (bb_lt j0 j1) (by decide) (by decide) (by decide)
theorem BB1 : 1 ≤ BB := PB_pos 5000
theorem divBB {j : Int} (j0 : 1 ≤ j) (j1 : j ≤ BB) : j.natAbs.log2 < 9000 := (wide_div (i := 0) (by omega : 0 < j) (bb_lt (by omega) (by have := BB0; omega)) (by decide) (by decide)).2
theorem small2 {n : Nat} (h : n ≤ 100000) : n ≤ sizeLine := Nat.le_trans h (by decide)
theorem small1 {n : Nat} (h : n ≤ 100000) : n < sizeLine := Nat.lt_of_le_of_lt h (by decide)
theorem tYes_of {σ : L2.St} {H : Hp} {A B : Hp → Prop} (h : A H) : tYes σ H (fun b H3 => if b = true then A H3 else B H3) := by
  show if true = true then A H else B H
  rw [if_pos rfl]
  exact h
theorem cut_init (xs : List V) : cutV xs none (some (-1)) = xs.take (xs.length - 1) := by
  show (xs.drop 0).take ((if (-1 : Int) < 0 then ((-1 : Int) + (xs.length : Int)).toNat else min (-1 : Int).toNat xs.length) - 0) = _
  rw [if_pos (by decide), List.drop_zero]
  congr 1
  omega
theorem cut_last (xs : List V) : cutV xs (some (-1)) none = xs.drop (xs.length - 1) := by
  show (xs.drop (if (-1 : Int) < 0 then ((-1 : Int) + (xs.length : Int)).toNat else min (-1 : Int).toNat xs.length)).take (xs.length - (if (-1 : Int) < 0 then ((-1 : Int) + (xs.length : Int)).toNat else min (-1 : Int).toNat xs.length)) = _
  rw [if_pos (by decide)]
  have e : ((-1 : Int) + (xs.length : Int)).toNat = xs.length - 1 := by omega
  rw [e]
  refine List.take_of_length_le ?_
  rw [List.length_drop]
  exact Nat.le_refl _
theorem none_of {H H' : Hp} {l : Addr} (s : Same H H') (h : H' l = none) : H l = none := by
  cases q : H l with
  | none => rfl
  | some o => rw [s _ _ q] at h; cases h
theorem for_enum {K : PySem.W.Frag} {a : Addr} {xs : List V} {g : TG} {tb : TS} {D : Ends} {σ : L2.St} {H : Hp} (Pv : Nat → L2.St → Hp → Prop) (h0 : Pv 0 σ H) (hl : ∀ i σ H, i ≤ xs.length → Pv i σ H → SqL K H a xs)
    (hs : ∀ i x T σ H, xs[i]? = some x → Pv i σ H → H T = none → g (.ref T) σ (upd H T (.tup [.int (i : Nat), x])) fun σ2 H2 => tb { D with nx := Pv (i + 1), ct := Pv (i + 1), bk := D.nx } σ2 H2) (hd : ∀ σ H, Pv xs.length σ H → D.nx σ H) :
    ∃ W : Nat → Nat → L2.St → Hp → Prop, (∃ m, W 0 m σ H) ∧ ∀ i m σ H, W i m σ H →
      ((Ite K a).stop i H ∧ D.nx σ H) ∨ ((Ite K a).go i H ∧ ∃ N : L2.St → Hp → Prop, (∀ σ' H', N σ' H' → ∃ m', m' < m ∧ W (i + 1) m' σ' H') ∧ ∀ x H', (Ite K a).yld i H x H' → g x σ H' fun σ2 H2 => tb { D with nx := N, ct := N, bk := D.nx } σ2 H2) := by
  refine ⟨fun i m σ H => m = xs.length - i ∧ i ≤ xs.length ∧ Pv i σ H, ⟨xs.length, by simp, Nat.zero_le _, h0⟩, ?_⟩
  rintro i m σ H ⟨rfl, hi, p⟩
  have q := hl i σ H hi p
  by_cases hlt : i < xs.length
  · refine .inr ⟨⟨xs, xs[i], q, by simp [hlt]⟩, Pv (i + 1), fun σ' H' p' => ⟨xs.length - (i + 1), by omega, rfl, hlt, p'⟩, fun x H' y => ?_⟩
    obtain ⟨T, x', rfl, hT, rfl, hx⟩ := y
    exact hs i x' T σ H (hx xs q) p hT
  · have e : i = xs.length := by omega
    subst e
    exact .inl ⟨⟨xs, q, Nat.le_refl _⟩, hd σ H p⟩
theorem pe_callN0 {X : Cx} {CX : CXT} {k : Nat} {f : Addr} {fd : FuncData} {ps ks : List Str} {sp : Sp} {E : XK} {x : Str} {p pos : Pos} {kws : List Keyword} {tk : TA} {g : List Value → List Value → List Value} {gV : List V → List V → List V}
    (F : FnOk X.prog X.w X.K X.mg X.base CX k f fd ps sp) (hr : Room k X.A) (hg : Gl X x) (hm : X.mg x = some (.ref f)) (hk : PySem.W.keepIn X.K (.ref f) = true) (hb : KBn X.K fd ps 0 ks g gV) (hx : Passes CX X E) (hkw : PK X kws tk)
    (hall : (backToKw pos (keywordEach kws X.env)).all (·.1.isSome) = true := by rfl) (hks : (backToKw pos (keywordEach kws X.env)).filterMap (·.1) = ks := by rfl) (hdb : (x == ("__debug__" : Str)) = false := by decide)
    (hpl : ((backTo pos (starEach [] X.env)).any (·.1) || (backToKw pos (keywordEach kws X.env)).any (·.1.isNone)) = false := by rfl) :
    PE X (.Call (.Name x p) [] kws pos) (tCallN 0 ks.length sp gV E tNil tk) := by
  refine ⟨fun pins s σ H Q I h => ?_⟩
  refine wpAny_Call_Name_kw (ld_glob I hg hm ?_ hdb)
  refine PySem.W.callWith_KW0 (h₀ := X.base) I.ok.mod.kin hk hall ?_ hpl
  refine thn (hkw.run pos pins s σ H _ I h) fun ws s2 ⟨zs, H2, I2, rz, l1, l2, q2⟩ => ⟨I2.kIn, ?_⟩
  rw [hks]
  exact run_fnN F hr hb hx I2 .nil rz rfl l2 q2
section
variable {X : Cx} {C : Addr} {k : Nat} {f : Addr} {ps : List Str} {sp : Sp}
theorem Met.op_in (c : Met X.prog X.w X.K X.mg X.base C "__contains__" k f ps sp) (hr : Room k X.A) : OpR X (compareOp .In) (rOwnIn C sp E0 _root_.id) := by
  obtain ⟨fd, F, b⟩ := c.ex
  exact op_own_in F hr c.me.at_ c.me.fn b pass0
theorem Met.op_notin (c : Met X.prog X.w X.K X.mg X.base C "__contains__" k f ps sp) (hr : Room k X.A) : OpR X (compareOp .NotIn) (rOwnIn C sp E0 Bool.not) := by
  obtain ⟨fd, F, b⟩ := c.ex
  exact op_own_notin F hr c.me.at_ c.me.fn b pass0
theorem Met.c_len (c : Met X.prog X.w X.K X.mg X.base C "__len__" k f ps sp) (hr : Room (k + 1) X.A) : CallR X (.builtin "len") (rOwnLen C sp E0) := by
  obtain ⟨fd, F, b⟩ := c.ex
  exact call_own_len F hr c.me.at_ c.me.fn b pass0
theorem Met.op_add (c : Met X.prog X.w X.K X.mg X.base C "__add__" k f ps sp) (hr : Room k X.A) (hc : PySem.W.selfFirst X.K C = true) : OpR X (binaryOp .Add) (rOwnAdd C sp E0) := by
  obtain ⟨fd, F, b⟩ := c.ex
  exact op_own_add F hr hc c.me.at_ c.me.fn b pass0
theorem Met.op_eq (c : Met X.prog X.w X.K X.mg X.base C "__eq__" k f ps sp) (hr : Room k X.A) : OpR X (compareOp .Eq) (rOwnEq C sp E0 _root_.id) := by
  obtain ⟨fd, F, b⟩ := c.ex
  exact op_own_eq F hr c.me.at_ c.me.fn b pass0
theorem Met.op_ne (c : Met X.prog X.w X.K X.mg X.base C "__eq__" k f ps sp) (hr : Room (k + 1) X.A) (hm : PySem.W.mroIn X.K C (.type "object") = some true) (hne : PySem.W.findIn X.K (.ref C) "__ne__" = some (some (.builtin "object.__ne__"))) : OpR X (compareOp .NotEq) (rOwnEq C sp E0 Bool.not) := by
  obtain ⟨fd, F, b⟩ := c.ex
  exact op_own_ne F hr hm hne c.me.at_ c.me.fn b pass0
theorem Met.p_ix {a b : Expr} {ta tb : TE} {pos : Pos} (c : Met X.prog X.w X.K X.mg X.base C "__getitem__" k f ps sp) (hr : Room (k + 1) X.A) (ha : PE X a ta) (hb' : PE X b tb) (hsl : ∀ o i, subscripted b true o i = runValue (.builtin "lifetime.subscript" ⟨[o, i], []⟩) := by exact fun _ _ => rfl) :
    PE X (.Subscript a b pos) (tOp (rOwnIx C sp E0) ta tb) := by
  obtain ⟨fd, F, bb⟩ := c.ex
  exact pe_own_ix F hr c.me.at_ c.fk c.me.fn bb pass0 ha hb' hsl
end
theorem Met.p_m0 {X : Cx} {C : Addr} {k : Nat} {f : Addr} {ps : List Str} {sp : Sp} {m : Str} {o : Expr} {ta : TE} {apos pos : Pos} {pl : Sem Bool} (c : Met X.prog X.w X.K X.mg X.base C m k f ps sp) (cl : Cls X.K C) (hr : Room k X.A) (he : PE X o ta)
    (ht : eval (.Call (.Attribute o m apos) [] [] pos) X.env = (do
      let ov ← eval o X.env
      standAt apos.atName
      let (f, first) ← holding [ov] (getMethod ov m pl)
      callWith pos f first (backTo pos (starEach [] X.env)) (backToKw pos (keywordEach [] X.env))) := by rfl) :
    PE X (.Call (.Attribute o m apos) [] [] pos) (tMeth C m sp [] E0 ta tNil) := by
  obtain ⟨fd, F, b⟩ := c.ex
  exact pe_meth0 he cl c.me F hr b .nil pass0 ht
/-! ### a class of the text -/
structure CF (K : PySem.W.Frag) (C : Addr) : Prop where
  cl : Cls K C
  cls : PySem.W.isClsIn K C = true
  ty : PySem.W.typeIn K (.ref C) = some (.type "type")
  oc : PySem.W.findIn K (.ref C) "__class__" = some (some (.builtin "object.__class__"))
  og : PySem.W.specialIn K (.builtin "object.__class__") "__get__" = some (some (.builtin "getset_descriptor.__get__"))
  ot : PySem.W.takesIn K (.builtin "object.__class__") = some true
  om : PySem.W.mroIn K C (.type "object") = some true
  sf : PySem.W.selfFirst K C = true
  ne : PySem.W.findIn K (.ref C) "__ne__" = some (some (.builtin "object.__ne__"))
theorem CF.kitT {K : PySem.W.Frag} {C : Addr} (M : CF K C) {H : Hp} {v : V} {n : String} (h : Kd H v n) : PySem.W.kitOne K (.type n) (.ref C) = some false := by
  have e1 : ((PySem.W.clsIn K C).isSome && PySem.W.typeIn K (.ref C) == some (.type "type")) = true := by
    have h2 : (PySem.W.clsIn K C).isSome = true := M.cls
    rw [h2, M.ty] <;> rfl
  have e2 : PySem.W.subIn K (.type n) (.ref C) = some false := by
    cases h with
    | non => exact sub_ty (l := ["NoneType", "object"]) (by decide +kernel)
    | bl _ => exact sub_ty (l := ["bool", "int", "object"]) (by decide +kernel)
    | int _ => exact sub_ty (l := ["int", "object"]) (by decide +kernel)
    | str _ => exact sub_ty (l := ["str", "object"]) (by decide +kernel)
    | lst _ => exact sub_ty (l := ["list", "object"]) (by decide +kernel)
    | tup _ => exact sub_ty (l := ["tuple", "object"]) (by decide +kernel)
    | dK _ => exact sub_ty (l := ["dict", "object"]) (by decide +kernel)
  show (if (Value.type n == Value.ref C) = true then some true else PySem.W.kitCls K (.type n) (.ref C)) = some false
  rw [if_neg (by intro z; cases z)]
  show (if ((PySem.W.clsIn K C).isSome && PySem.W.typeIn K (.ref C) == some (.type "type")) = true then PySem.W.subIn K (.type n) (.ref C) else none) = some false
  rw [if_pos e1, e2]
theorem CF.tyR {K : PySem.W.Frag} {C : Addr} (M : CF K C) {H : Hp} {p dx : Addr} {fs : List (Str × V)} (h : H p = some (.ins C dx fs)) : TyX K H (.ref p) (.ref C) := .base (.ins h M.cl M.oc M.og M.ot M.om)
theorem vals_rev {vs : List V} {us : List Value} (r : Vals vs us) : Vals vs.reverse us.reverse := by
  induction r with
  | nil => exact .nil
  | cons h t ih =>
    rw [List.reverse_cons, List.reverse_cons]
    exact ih.append (.cons h .nil)
/-- f(c = .., b = .., a = ..) of a def f(a, b, c) -/
theorem pe_kr {X : Cx} {k : Nat} {f : Addr} {sp : Sp} {x : Str} {ps : List Str} {st : Stmt} {kws : List Keyword} {tk : TA} {p pos : Pos} (D : Dfn X.K X.mg x st f ps) (h : ∀ fd, Fun X.K x x st f fd → FnOk X.prog X.w X.K X.mg X.base CX0 k f fd ps sp)
    (hbind : ∀ (kV doc pm : Value) (an : Option Addr) (cdv ct : Value) (us : List Value), us.length = ps.reverse.length → bindArgs (PySem.W.fnOf x x (defArgs st) (defBody st) (defScope st) .none kV doc pm an cdv ct) ⟨[], ps.reverse.zip us⟩ = pure (ps.zip us.reverse))
    (hr : Room k X.A) (hg : Gl X x) (hkw : PK X kws tk) (hall : (backToKw pos (keywordEach kws X.env)).all (·.1.isSome) = true := by rfl) (hks : (backToKw pos (keywordEach kws X.env)).filterMap (·.1) = ps.reverse := by rfl) (hdb : (x == ("__debug__" : Str)) = false := by decide)
    (hpl : ((backTo pos (starEach [] X.env)).any (·.1) || (backToKw pos (keywordEach kws X.env)).any (·.1.isNone)) = false := by rfl) :
    PE X (.Call (.Name x p) [] kws pos) (tCallN 0 ps.reverse.length sp (fun us ws => us ++ ws.reverse) E0 tNil tk) := by
  obtain ⟨fd, F, _⟩ := D.ex
  have hb : KBn X.K fd ps 0 ps.reverse (fun us ws => us ++ ws.reverse) (fun us ws => us ++ ws.reverse) := by
    refine ⟨fun s us ws hX h1 h2 => ?_, fun r1 r2 => r1.append (vals_rev r2)⟩
    obtain ⟨oc, od, kV, doc, pm, an, cdv, ct, osl, rfl, lk, hcd⟩ := F.ex
    match us, h1 with
    | [], _ => exact .of_eq (hbind kV doc pm an cdv ct ws h2)
  exact pe_callN0 (h fd F) hr hg D.g F.kp hb pass0 hkw hall hks hdb hpl
/-- where the defs and classes of the text stand -/
structure LA where
  f__wall : Addr
  f_is_integer : Addr
  f_is_at_least : Addr
  f_is_within : Addr
  f_is_breaker : Addr
  f_check_breakers : Addr
  f_check_step : Addr
  f_request_time : Addr
  f_closed_states : Addr
  f_passes : Addr
  f_state_behind : Addr
  f_sent : Addr
  f_is_word : Addr
  f_check_words : Addr
  f_played : Addr
  f_replay : Addr
  f_outcomes : Addr
  f__law_cell_at : Addr
  f__law_source_of : Addr
  f__law_draw : Addr
  f__law_choice : Addr
  f__law_specs : Addr
  f__law_words : Addr
  f__law_is_shut : Addr
  f__law_behind : Addr
  f__law_due : Addr
  f__law_shown : Addr
  f__law_three_right : Addr
  f__law_logs_right : Addr
  f__law_long : Addr
  c_Row : Addr
  i_Row : Addr
  m_Row_breaker_list : Addr
  m_Row_step_length : Addr
  m_Row_phase_time : Addr
  m_Row_len : Addr
  m_Row_getitem : Addr
  m_Row_contains : Addr
  m_Row_add : Addr
  m_Row_eq : Addr
  c_Playing : Addr
  i_Playing : Addr
  m_Playing_base_row : Addr
  m_Playing_next_request : Addr
  m_Playing_request : Addr
  m_Playing_state_list : Addr
  m_Playing_is_whole : Addr
  m_Playing_log : Addr
  m_Playing_undo : Addr
  m_Playing_eq : Addr
/-- what the text says of them -/
structure LX (K : PySem.W.Frag) (mg : Str → Option Value) (L : LA) : Prop where
  b_bool : mg "bool" = none
  b_enumerate : mg "enumerate" = none
  b_int : mg "int" = none
  b_isinstance : mg "isinstance" = none
  b_len : mg "len" = none
  b_list : mg "list" = none
  b_range : mg "range" = none
  b_str : mg "str" = none
  b_sum : mg "sum" = none
  b_tuple : mg "tuple" = none
  b_zip : mg "zip" = none
  n_MOST_BREAKERS : ∃ t, mg "MOST_BREAKERS" = some (.int 12 t)
  n_MOST_COUNT : ∃ t, mg "MOST_COUNT" = some (.int 1000000000000 t)
  n_MOST_TIME : ∃ t, mg "MOST_TIME" = some (.int 1000000000000000000000000000000 t)
  n_MOST_REQUESTS : ∃ t, mg "MOST_REQUESTS" = some (.int 10000 t)
  n_SERVED : ∃ a, mg "SERVED" = some (.ref a) ∧ ∀ H : Hp, SqT K H a [.str "served"]
  n_FAILED : ∃ a, mg "FAILED" = some (.ref a) ∧ ∀ H : Hp, SqT K H a [.str "failed"]
  d__wall : Dfn K mg "_wall" st__wall L.f__wall ["k"]
  d_is_integer : Dfn K mg "is_integer" st_is_integer L.f_is_integer ["value"]
  d_is_at_least : Dfn K mg "is_at_least" st_is_at_least L.f_is_at_least ["value", "least"]
  d_is_within : Dfn K mg "is_within" st_is_within L.f_is_within ["value", "least", "most"]
  d_is_breaker : Dfn K mg "is_breaker" st_is_breaker L.f_is_breaker ["value"]
  d_check_breakers : Dfn K mg "check_breakers" st_check_breakers L.f_check_breakers ["breakers", "part"]
  d_check_step : Dfn K mg "check_step" st_check_step L.f_check_step ["step"]
  d_request_time : Dfn K mg "request_time" st_request_time L.f_request_time ["row", "number"]
  d_closed_states : Dfn K mg "closed_states" st_closed_states L.f_closed_states ["number"]
  d_passes : Dfn K mg "passes" st_passes L.f_passes ["breaker", "state", "time"]
  d_state_behind : Dfn K mg "state_behind" st_state_behind L.f_state_behind ["breaker", "state", "time", "succeeded"]
  d_sent : Dfn K mg "sent" st_sent L.f_sent ["breakers", "states", "time", "up"]
  d_is_word : Dfn K mg "is_word" st_is_word L.f_is_word ["value"]
  d_check_words : Dfn K mg "check_words" st_check_words L.f_check_words ["log"]
  d_played : Dfn K mg "played" st_played L.f_played ["row", "log"]
  d_replay : Dfn K mg "replay" st_replay L.f_replay ["row", "log"]
  d_outcomes : Dfn K mg "outcomes" st_outcomes L.f_outcomes ["row", "log"]
  d__law_cell_at : Dfn K mg "_law_cell_at" st__law_cell_at L.f__law_cell_at ["_law_script", "_law_place"]
  d__law_source_of : Dfn K mg "_law_source_of" st__law_source_of L.f__law_source_of ["_law_cell"]
  d__law_draw : Dfn K mg "_law_draw" st__law_draw L.f__law_draw ["_law_source", "_law_bound"]
  d__law_choice : Dfn K mg "_law_choice" st__law_choice L.f__law_choice ["_law_source", "_law_options"]
  d__law_specs : Dfn K mg "_law_specs" st__law_specs L.f__law_specs ["_law_source", "_law_most", "_law_far"]
  d__law_words : Dfn K mg "_law_words" st__law_words L.f__law_words ["_law_source", "_law_most"]
  d__law_is_shut : Dfn K mg "_law_is_shut" st__law_is_shut L.f__law_is_shut ["_law_spec", "_law_state", "_law_time"]
  d__law_behind : Dfn K mg "_law_behind" st__law_behind L.f__law_behind ["_law_specs_here", "_law_states", "_law_time", "_law_word"]
  d__law_due : Dfn K mg "_law_due" st__law_due L.f__law_due ["_law_parts", "_law_words_here"]
  d__law_shown : Dfn K mg "_law_shown" st__law_shown L.f__law_shown ["_law_game"]
  d__law_three_right : Dfn K mg "_law_three_right" st__law_three_right L.f__law_three_right ["_law_source", "_law_parts"]
  d__law_logs_right : Dfn K mg "_law_logs_right" st__law_logs_right L.f__law_logs_right ["_law_source", "_law_parts"]
  d__law_long : Dfn K mg "_law_long" st__law_long L.f__law_long ["_law_row"]
  gc_Row : mg "Row" = some (.ref L.c_Row)
  cf_Row : CF K L.c_Row
  mk_Row : Mk K L.c_Row L.i_Row
  nf_Row_breakers : NoAttr K L.c_Row "breakers"
  nf_Row_step : NoAttr K L.c_Row "step"
  nf_Row_phase : NoAttr K L.c_Row "phase"
  in_Row : ∃ fd, FunD K "__init__" "Row.__init__" (defArgs st_Row_init) (defBody st_Row_init) (defScope st_Row_init) [] [("phase", .int 0)] L.i_Row fd
  mm_Row_breaker_list : Mth K L.c_Row "breaker_list" "Row.breaker_list" st_Row_breaker_list L.m_Row_breaker_list ["self"]
  mm_Row_step_length : Mth K L.c_Row "step_length" "Row.step_length" st_Row_step_length L.m_Row_step_length ["self"]
  mm_Row_phase_time : Mth K L.c_Row "phase_time" "Row.phase_time" st_Row_phase_time L.m_Row_phase_time ["self"]
  mm_Row_len : Mth K L.c_Row "__len__" "Row.__len__" st_Row_len L.m_Row_len ["self"]
  mm_Row_getitem : Mth K L.c_Row "__getitem__" "Row.__getitem__" st_Row_getitem L.m_Row_getitem ["self", "at"]
  mm_Row_contains : Mth K L.c_Row "__contains__" "Row.__contains__" st_Row_contains L.m_Row_contains ["self", "x"]
  mm_Row_add : Mth K L.c_Row "__add__" "Row.__add__" st_Row_add L.m_Row_add ["self", "other"]
  mm_Row_eq : Mth K L.c_Row "__eq__" "Row.__eq__" st_Row_eq L.m_Row_eq ["self", "other"]
  gc_Playing : mg "Playing" = some (.ref L.c_Playing)
  cf_Playing : CF K L.c_Playing
  mk_Playing : Mk K L.c_Playing L.i_Playing
  nf_Playing_row : NoAttr K L.c_Playing "row"
  nf_Playing_words : NoAttr K L.c_Playing "words"
  nf_Playing_history : NoAttr K L.c_Playing "history"
  in_Playing : ∃ fd, Fun K "__init__" "Playing.__init__" st_Playing_init L.i_Playing fd ∧ Binds K fd ["self", "row"] []
  mm_Playing_base_row : Mth K L.c_Playing "base_row" "Playing.base_row" st_Playing_base_row L.m_Playing_base_row ["self"]
  mm_Playing_next_request : Mth K L.c_Playing "next_request" "Playing.next_request" st_Playing_next_request L.m_Playing_next_request ["self"]
  mm_Playing_request : Mth K L.c_Playing "request" "Playing.request" st_Playing_request L.m_Playing_request ["self", "word"]
  mm_Playing_state_list : Mth K L.c_Playing "state_list" "Playing.state_list" st_Playing_state_list L.m_Playing_state_list ["self"]
  mm_Playing_is_whole : Mth K L.c_Playing "is_whole" "Playing.is_whole" st_Playing_is_whole L.m_Playing_is_whole ["self"]
  mm_Playing_log : Mth K L.c_Playing "log" "Playing.log" st_Playing_log L.m_Playing_log ["self"]
  mm_Playing_undo : Mth K L.c_Playing "undo" "Playing.undo" st_Playing_undo L.m_Playing_undo ["self", "count"]
  mm_Playing_eq : Mth K L.c_Playing "__eq__" "Playing.__eq__" st_Playing_eq L.m_Playing_eq ["self", "other"]
  mo_Row_Playing : PySem.W.mroIn K L.c_Row (.ref L.c_Playing) = some false
  mo_Playing_Row : PySem.W.mroIn K L.c_Playing (.ref L.c_Row) = some false

/-- a comprehension over zip of two lists -/
theorem lc_zip {K : PySem.W.Frag} {a b : Addr} {xs ys : List V} {g : TG} {tt : TT} {te : TE} {vs : List Nat} {σ : L2.St} {H1 : Hp} {D : Addr} {Qd : Hp → Prop} (hlen : ys.length ≤ xs.length) (Pv : Nat → Hp → Prop) (h0 : Pv 0 (upd H1 D (.lst []))) (hl : ∀ i H, Pv i H → SqL K H a xs ∧ SqL K H b ys)
    (hs : ∀ (i : Nat) (x y : V) (T : Addr) (H : Hp), xs[i]? = some x → ys[i]? = some y → Pv i H → H T = none → g (.ref T) (wipe σ vs) (upd H T (.tup [x, y])) fun σ2 H2 => wipe σ2 vs = wipe σ vs ∧ tt σ2 H2 fun b H3 =>
      if b = true then te σ2 H3 fun y H4 => ∃ acc, H4 D = some (.lst acc) ∧ acc.length < sizeLine ∧ Pv (i + 1) (upd H4 D (.lst (acc ++ [y]))) else Pv (i + 1) H3) (hd : ∀ H, Pv ys.length H → Qd H) :
    ∃ W : Nat → Nat → Hp → Prop, (∃ m, W 0 m (upd H1 D (.lst []))) ∧ ∀ i m H, W i m H → ((Itz K a b).stop i H ∧ Qd H) ∨ ((Itz K a b).go i H ∧ ∃ Nx : Hp → Prop, (∀ H', Nx H' → ∃ m', m' < m ∧ W (i + 1) m' H') ∧ ∀ x H', (Itz K a b).yld i H x H' → g x (wipe σ vs) H' fun σ2 H2 => wipe σ2 vs = wipe σ vs ∧ tt σ2 H2 fun b H3 =>
        if b = true then te σ2 H3 fun y H4 => ∃ acc, H4 D = some (.lst acc) ∧ acc.length < sizeLine ∧ Nx (upd H4 D (.lst (acc ++ [y]))) else Nx H3) := by
  refine ⟨fun i m H => m = ys.length - i ∧ i ≤ ys.length ∧ Pv i H, ⟨ys.length, by omega, Nat.zero_le _, h0⟩, ?_⟩
  rintro i m H ⟨rfl, hi, p⟩
  obtain ⟨qx, qy⟩ := hl i H p
  by_cases hlt : i < ys.length
  · have hx : xs[i]? = some xs[i] := List.getElem?_eq_getElem (by omega)
    have hy : ys[i]? = some ys[i] := List.getElem?_eq_getElem hlt
    refine .inr ⟨⟨xs, ys, _, _, qx, qy, hx, hy⟩, Pv (i + 1), fun H' p' => ⟨ys.length - (i + 1), by omega, rfl, hlt, p'⟩, fun v H' y => ?_⟩
    obtain ⟨T, x', y', rfl, hT, rfl, f1, f2⟩ := y
    exact hs i x' y' T H (f1 xs qx) (f2 ys qy) p hT
  · have e : i = ys.length := by omega
    subst e
    exact .inl ⟨⟨xs, ys, qx, qy, .inr (Nat.le_refl _)⟩, hd H p⟩
/-- an attribute inside a comprehension -/
theorem pe_fldK {X : Cx} {K : PySem.W.Frag} {e : Expr} {f : Str} {pos : Pos} {ta : TE} (hK : X.K = K) (he : PE X e ta) (hb : attributeBase e f X.env (eval e X.env) = eval e X.env) : PE X (.Attribute e f pos) (tFld K ta f) := by
  subst hK
  exact pe_fld he hb
theorem putF_len (f : Str) (v : V) (fs : List (Str × V)) {n : Nat} (h : fs.length ≤ n) : (putF f v fs).length ≤ n + 1 := Nat.le_trans (length_putF f v fs) (Nat.succ_le_succ h)
def spRup : Sp := fun vs H Q _ => ∃ v u : Int, vs = [.int v, .int u] ∧ 0 < u ∧ u.natAbs.log2 < 9000 ∧ CMulW (stepsUp v u) u ∧ Q (.int (stepsUp v u * u)) H
/-! ### the small defs -/
section
variable {P : Program} {w : World} {K : PySem.W.Frag} {mg : Str → Option Value} {base : Heap} {L : LA}
abbrev N_isinteger : List Str := ["value"]
theorem sc_isinteger : FnScope N_isinteger ["value"] (defScope st_is_integer) := ⟨rfl, rfl, rfl, by decide +kernel, rfl, by decide +kernel, by decide +kernel⟩
theorem fn_isinteger (T : LX K mg L) {fd : FuncData} (F : Fun K "is_integer" "is_integer" st_is_integer L.f_is_integer fd) : FnOk P w K mg base CX0 1 L.f_is_integer fd ["value"] (spIsInt) := by
  have nd := sc_isinteger.nd
  refine F.ok sc_isinteger (fun vs H Q E h => ?_) (fun cdv A outer S H vs Q E hr h => ?_)
  · obtain ⟨v, n, rfl, _⟩ := h
    rfl
  · obtain ⟨v, n, rfl, hv, k⟩ := h
    refine ⟨_, (pss_one (ps_ret (pe_and (pe_callB call_isi (by rfl) T.b_isinstance (by decide +kernel) (pa_cons (pv 0) (pa_cons (pe_bltn (by rfl) T.b_int (by decide +kernel : bootBuiltins "int" = some (.type "int")) (v := .ty "int") rfl) pa_nil))) (pe_one (pe_not (pe_callB call_isi (by rfl) T.b_isinstance (by decide +kernel) (pa_cons (pv 0) (pa_cons (pe_bltn (by rfl) T.b_bool (by decide +kernel : bootBuiltins "bool" = some (.type "bool")) (v := .ty "bool") rfl) pa_nil)))))))), ?_⟩
    refine ⟨_, rfl, v, .ty "int", _, _, _, rfl, .ty "int", hv.ty, hv.kit "int" _ (.inl ⟨rfl, rfl⟩), _, rfl, ?_⟩
    refine ite2 (fun c => ?_) (fun c => ?_)
    · refine ⟨_, rfl, v, .ty "bool", _, _, _, rfl, .ty "bool", hv.ty, hv.kit "bool" _ (.inr ⟨by decide, by decide, rfl⟩), _, rfl, ?_⟩
      cases hv <;> first | exact k | (exact absurd c (by decide))
    · cases hv <;> first | exact k | (exact absurd (by decide) c)
theorem ok_isinteger (T : LX K mg L) : Cal P w K mg base "is_integer" 1 L.f_is_integer ["value"] (spIsInt) := T.d_is_integer.cal fun fd F => fn_isinteger T F
abbrev N_isatleast : List Str := ["value", "least"]
theorem sc_isatleast : FnScope N_isatleast ["value", "least"] (defScope st_is_at_least) := ⟨rfl, rfl, rfl, by decide +kernel, rfl, by decide +kernel, by decide +kernel⟩
theorem fn_isatleast (T : LX K mg L) {fd : FuncData} (F : Fun K "is_at_least" "is_at_least" st_is_at_least L.f_is_at_least fd) : FnOk P w K mg base CX0 2 L.f_is_at_least fd ["value", "least"] (spAtL) := by
  have G_isinteger := ok_isinteger (P := P) (w := w) (base := base) T
  have nd := sc_isatleast.nd
  refine F.ok sc_isatleast (fun vs H Q E h => ?_) (fun cdv A outer S H vs Q E hr h => ?_)
  · obtain ⟨v, n, l, rfl, _⟩ := h
    rfl
  · obtain ⟨v, n, l, rfl, hv, k⟩ := h
    refine ⟨_, (pss_one (ps_ret (pe_and (pe_c G_isinteger (hr.mono (by decide)) rfl (pa_cons (pv 0) pa_nil)) (pe_one (pe_cmpR op_ge (pv 0) (pv 1) (nomark _)))))), ?_⟩
    refine ⟨_, rfl, v, n, rfl, hv, _, rfl, ?_⟩
    cases v with
    | int i => exact iteT ⟨_, rfl, _, rfl, _, _, rfl, rfl, k⟩
    | _ => exact iteF k
theorem ok_isatleast (T : LX K mg L) : Cal P w K mg base "is_at_least" 2 L.f_is_at_least ["value", "least"] (spAtL) := T.d_is_at_least.cal fun fd F => fn_isatleast T F
abbrev N_iswithin : List Str := ["value", "least", "most"]
theorem sc_iswithin : FnScope N_iswithin ["value", "least", "most"] (defScope st_is_within) := ⟨rfl, rfl, rfl, by decide +kernel, rfl, by decide +kernel, by decide +kernel⟩
theorem fn_iswithin (T : LX K mg L) {fd : FuncData} (F : Fun K "is_within" "is_within" st_is_within L.f_is_within fd) : FnOk P w K mg base CX0 2 L.f_is_within fd ["value", "least", "most"] (spWithin) := by
  have G_isinteger := ok_isinteger (P := P) (w := w) (base := base) T
  have nd := sc_iswithin.nd
  refine F.ok sc_iswithin (fun vs H Q E h => ?_) (fun cdv A outer S H vs Q E hr h => ?_)
  · obtain ⟨v, n, l, m, rfl, _⟩ := h
    rfl
  · obtain ⟨v, n, l, m, rfl, hv, k⟩ := h
    refine ⟨_, (pss_one (ps_ret (pe_and (pe_c G_isinteger (hr.mono (by decide)) rfl (pa_cons (pv 0) pa_nil)) (pe_one (pe_chain op_le op_le (pv 1) (pv 0) (pv 2)))))), ?_⟩
    refine ⟨_, rfl, v, n, rfl, hv, _, rfl, ?_⟩
    cases v with
    | int i =>
      refine iteT ⟨_, rfl, _, rfl, _, _, rfl, rfl, _, rfl, ?_⟩
      refine ite2 (fun c => ?_) (fun c => ?_)
      · refine ⟨_, rfl, _, _, rfl, rfl, ?_⟩
        have c' : decide (l ≤ i) = true := c
        have k' : Q (.bl (decide (l ≤ i) && decide (i ≤ m))) H := k
        rw [c', Bool.true_and] at k'
        exact k'
      · have c' : decide (l ≤ i) = false := by simpa using c
        have k' : Q (.bl (decide (l ≤ i) && decide (i ≤ m))) H := k
        rw [c', Bool.false_and] at k'
        exact k'
    | _ => exact iteF k
theorem ok_iswithin (T : LX K mg L) : Cal P w K mg base "is_within" 2 L.f_is_within ["value", "least", "most"] (spWithin) := T.d_is_within.cal fun fd F => fn_iswithin T F
end
/-! ### trains as data -/
abbrev Trn := Int × Int × Option Int
def OkTr (t : Trn) : Prop := 0 ≤ t.1 ∧ 1 ≤ t.2.1 ∧ ∀ c, t.2.2 = some c → 1 ≤ c
/-- all times of the first are before the second -/
def Lt (t u : Trn) : Prop := ∃ c, t.2.2 = some c ∧ t.1 + (c - 1) * t.2.1 < u.1
def Srt (ts : List Trn) : Prop := (∀ t ∈ ts, OkTr t) ∧ ts.Pairwise Lt
def minO (n : Int) : Option Int → Int
  | none => n
  | some c => if c < n then c else n
/-- how many times of a train are before x -/
def nbT (t : Trn) (x : Int) : Int := minO (stepsUp (x - t.1) t.2.1) t.2.2
def NB : List Trn → Int → Int
  | [], _ => 0
  | t :: ts, x => nbT t x + NB ts x
def At : List Trn → Int → Option Int
  | [], _ => none
  | t :: ts, i => match t.2.2 with
    | none => some (t.1 + i * t.2.1)
    | some c => if i < c then some (t.1 + i * t.2.1) else At ts (i - c)
def addO (c : Int) : Option Int → Option Int
  | none => none
  | some n => some (c + n)
def Tot : List Trn → Option Int
  | [] => some 0
  | t :: ts => match t.2.2 with
    | none => none
    | some c => addO c (Tot ts)
/-- d / s, rounded up -/
def cl (d s : Int) : Int := -(-d / s)
theorem stepsUp_cl (d s : Int) : stepsUp d s = if cl d s > 0 then cl d s else 0 := rfl
theorem cl_sub (d s c : Int) (hs : 0 < s) : cl (d - c * s) s = cl d s - c := by
  unfold cl
  have e : -(d - c * s) = -d + c * s := by omega
  rw [e, Int.add_mul_ediv_right _ _ (show s ≠ 0 by omega)]
  omega
theorem cl_le {d s n : Int} (hs : 0 < s) : cl d s ≤ n ↔ d ≤ n * s := by
  unfold cl
  have h : -n ≤ -d / s ↔ -n * s ≤ -d := Int.le_ediv_iff_mul_le hs
  rw [Int.neg_mul] at h
  omega
theorem cl_gt {d s n : Int} (hs : 0 < s) : n < cl d s ↔ n * s < d := by
  have h := cl_le (d := d) (s := s) (n := n) hs
  omega
def subO (k : Option Int) (c : Int) : Option Int := match k with
  | none => none
  | some n => some (n - c)
/-- a train is its first c times, and the others -/
theorem nbT_split {s p c : Int} {k : Option Int} (hp : 0 < p) (hc : 0 ≤ c) (hk : ∀ n, k = some n → c ≤ n) (x : Int) : nbT (s, p, k) x = nbT (s, p, some c) x + nbT (s + c * p, p, subO k c) x := by
  have e : x - (s + c * p) = x - s - c * p := by omega
  show minO (stepsUp (x - s) p) k = minO (stepsUp (x - s) p) (some c) + minO (stepsUp (x - (s + c * p)) p) (subO k c)
  rw [e, stepsUp_cl, stepsUp_cl, cl_sub _ _ _ hp]
  cases k with
  | none =>
    show (if cl (x - s) p > 0 then cl (x - s) p else 0) = (if c < (if cl (x - s) p > 0 then cl (x - s) p else 0) then c else (if cl (x - s) p > 0 then cl (x - s) p else 0)) + (if cl (x - s) p - c > 0 then cl (x - s) p - c else 0)
    split <;> split <;> split <;> omega
  | some n =>
    have := hk n rfl
    show (if n < (if cl (x - s) p > 0 then cl (x - s) p else 0) then n else (if cl (x - s) p > 0 then cl (x - s) p else 0)) = (if c < (if cl (x - s) p > 0 then cl (x - s) p else 0) then c else (if cl (x - s) p > 0 then cl (x - s) p else 0)) + (if n - c < (if cl (x - s) p - c > 0 then cl (x - s) p - c else 0) then n - c else (if cl (x - s) p - c > 0 then cl (x - s) p - c else 0))
    split <;> split <;> split <;> split <;> (try split) <;> omega
/-- the step of a single time is nothing -/
theorem nbT_one {s p q : Int} (hp : 0 < p) (hq : 0 < q) (x : Int) : nbT (s, p, some 1) x = nbT (s, q, some 1) x := by
  have one : ∀ p : Int, 0 < p → nbT (s, p, some 1) x = if s < x then 1 else 0 := fun p hp => by
    show (if (1 : Int) < (if cl (x - s) p > 0 then cl (x - s) p else 0) then (1 : Int) else (if cl (x - s) p > 0 then cl (x - s) p else 0)) = _
    have h0 : 0 < cl (x - s) p ↔ 0 * p < x - s := cl_gt hp
    rw [Int.zero_mul] at h0
    split <;> split <;> split <;> omega
  rw [one p hp, one q hq]
theorem NB_app : ∀ (ts us : List Trn) (x : Int), NB (ts ++ us) x = NB ts x + NB us x
  | [], us, x => by show NB us x = 0 + NB us x; omega
  | t :: ts, us, x => by
    show nbT t x + NB (ts ++ us) x = nbT t x + NB ts x + NB us x
    rw [NB_app ts us x]
    omega
theorem addO_addO (a b : Int) (k : Option Int) : addO a (addO b k) = addO (a + b) k := by
  cases k with
  | none => rfl
  | some n => show some (a + (b + n)) = some (a + b + n); rw [Int.add_assoc]
theorem nbT_nn {t : Trn} (h : OkTr t) (x : Int) : 0 ≤ nbT t x := by
  obtain ⟨s, p, k⟩ := t
  show 0 ≤ minO (stepsUp (x - s) p) k
  rw [stepsUp_cl]
  cases k with
  | none => show 0 ≤ if cl (x - s) p > 0 then cl (x - s) p else 0; split <;> omega
  | some c =>
    have := h.2.2 c rfl
    show 0 ≤ if c < (if cl (x - s) p > 0 then cl (x - s) p else 0) then c else (if cl (x - s) p > 0 then cl (x - s) p else 0)
    split <;> (try split) <;> omega
theorem nbT_zero {t : Trn} (h : OkTr t) {x : Int} (hx : x ≤ t.1) : nbT t x = 0 := by
  obtain ⟨s, p, k⟩ := t
  have hp : 0 < p := by
    have h2 : 1 ≤ p := h.2.1
    omega
  have h1 : cl (x - s) p ≤ 0 := (cl_le hp).mpr (by
    have h2 : x ≤ s := hx
    omega)
  show minO (stepsUp (x - s) p) k = 0
  rw [stepsUp_cl, if_neg (by omega)]
  cases k with
  | none => rfl
  | some c =>
    have := h.2.2 c rfl
    show (if c < 0 then c else 0) = 0
    rw [if_neg (by omega)]
theorem nbT_all {t : Trn} (h : OkTr t) {x c : Int} (hc : t.2.2 = some c) (hx : t.1 + (c - 1) * t.2.1 < x) : nbT t x = c := by
  obtain ⟨s, p, k⟩ := t
  have hp : 0 < p := by
    have h2 : 1 ≤ p := h.2.1
    omega
  have h0 : k = some c := hc
  subst h0
  have h1 : c - 1 < cl (x - s) p := (cl_gt hp).mpr (by
    have h2 : s + (c - 1) * p < x := hx
    omega)
  have := h.2.2 c rfl
  show (if c < stepsUp (x - s) p then c else stepsUp (x - s) p) = c
  rw [stepsUp_cl]
  split <;> (try split at *) <;> omega
theorem NB_nn {ts : List Trn} (h : ∀ t ∈ ts, OkTr t) (x : Int) : 0 ≤ NB ts x := by
  induction ts with
  | nil => exact Int.le_refl _
  | cons t ts ih =>
    have h1 := nbT_nn (h t (List.mem_cons_self ..)) x
    have h2 := ih fun u hu => h u (List.mem_cons_of_mem _ hu)
    show 0 ≤ nbT t x + NB ts x
    omega
theorem NB_zero {ts : List Trn} (h : ∀ t ∈ ts, OkTr t) {x : Int} (hx : ∀ t ∈ ts, x ≤ t.1) : NB ts x = 0 := by
  induction ts with
  | nil => rfl
  | cons t ts ih =>
    show nbT t x + NB ts x = 0
    rw [nbT_zero (h t (List.mem_cons_self ..)) (hx t (List.mem_cons_self ..)), ih (fun u hu => h u (List.mem_cons_of_mem _ hu)) fun u hu => hx u (List.mem_cons_of_mem _ hu)]
    rfl
theorem Srt.tail {t : Trn} {ts : List Trn} (h : Srt (t :: ts)) : Srt ts := ⟨fun u hu => h.1 u (List.mem_cons_of_mem _ hu), (List.pairwise_cons.mp h.2).2⟩
theorem Srt.head {t : Trn} {ts : List Trn} (h : Srt (t :: ts)) : OkTr t := h.1 t (List.mem_cons_self ..)
theorem Srt.lt {t : Trn} {ts : List Trn} (h : Srt (t :: ts)) : ∀ u ∈ ts, Lt t u := (List.pairwise_cons.mp h.2).1
theorem lt_start {t u : Trn} (h : OkTr t) (l : Lt t u) : t.1 < u.1 := by
  obtain ⟨c, e, q⟩ := l
  have hc := h.2.2 c e
  have : 0 ≤ (c - 1) * t.2.1 := Int.mul_nonneg (by omega) (by have := h.2.1; omega)
  omega
/-! what is before x, and which time is the i-th -/
theorem nbT_le {t : Trn} {x c : Int} (e : t.2.2 = some c) : nbT t x ≤ c := by
  unfold nbT
  rw [e]
  show (if c < stepsUp (x - t.1) t.2.1 then c else stepsUp (x - t.1) t.2.1) ≤ c
  split <;> omega
/-- the times before x are those with an index below nbT -/
theorem nbT_lt {t : Trn} (h : OkTr t) {x i : Int} (i0 : 0 ≤ i) (hi : ∀ c, t.2.2 = some c → i < c) : i < nbT t x ↔ t.1 + i * t.2.1 < x := by
  obtain ⟨s, p, k⟩ := t
  have hp : 0 < p := by
    have h2 : 1 ≤ p := h.2.1
    omega
  have h1 : i < cl (x - s) p ↔ i * p < x - s := cl_gt hp
  have e : (s + i * p < x) ↔ i * p < x - s := by omega
  show i < minO (stepsUp (x - s) p) k ↔ s + i * p < x
  rw [stepsUp_cl, e, ← h1]
  cases k with
  | none =>
    show i < (if cl (x - s) p > 0 then cl (x - s) p else 0) ↔ _
    split <;> omega
  | some c =>
    have := hi c rfl
    show i < (if c < (if cl (x - s) p > 0 then cl (x - s) p else 0) then c else (if cl (x - s) p > 0 then cl (x - s) p else 0)) ↔ _
    split <;> (try split) <;> (try split at *) <;> omega
theorem At_lt : ∀ {ts : List Trn}, Srt ts → ∀ {i y : Int}, 0 ≤ i → At ts i = some y → ∀ x, i < NB ts x ↔ y < x
  | [], _, i, y, _, e, _ => by cases e
  | t :: ts, h, i, y, i0, e, x => by
    have ht := h.head
    have hs := h.tail
    have nn := NB_nn hs.1 x
    cases hk : t.2.2 with
    | none =>
      have e' : At (t :: ts) i = some (t.1 + i * t.2.1) := by
        show (match t.2.2 with | none => some (t.1 + i * t.2.1) | some c => if i < c then some (t.1 + i * t.2.1) else At ts (i - c)) = _
        rw [hk]
      rw [e'] at e
      have ey := Option.some.inj e
      subst ey
      have nt : ts = [] := by
        cases ts with
        | nil => rfl
        | cons u us =>
          obtain ⟨c, hc, _⟩ := h.lt u (List.mem_cons_self ..)
          rw [hk] at hc
          cases hc
      subst nt
      have := nbT_lt ht (x := x) i0 (fun c hc => by rw [hk] at hc; cases hc)
      show i < nbT t x + 0 ↔ _
      rw [Int.add_zero]
      exact this
    | some c =>
      have e' : At (t :: ts) i = if i < c then some (t.1 + i * t.2.1) else At ts (i - c) := by
        show (match t.2.2 with | none => some (t.1 + i * t.2.1) | some c => if i < c then some (t.1 + i * t.2.1) else At ts (i - c)) = _
        rw [hk]
      rw [e'] at e
      show i < nbT t x + NB ts x ↔ y < x
      by_cases hi : i < c
      · rw [if_pos hi] at e
        have ey := Option.some.inj e
        have h1 := nbT_lt ht (x := x) i0 (fun c' hc => by rw [hk] at hc; cases hc; exact hi)
        by_cases hl : t.1 + (c - 1) * t.2.1 < x
        · have h2 := nbT_all ht hk hl
          omega
        · have h3 : NB ts x = 0 := NB_zero hs.1 fun u hu => by
            obtain ⟨c', hc, q⟩ := h.lt u hu
            rw [hk] at hc
            cases hc
            omega
          omega
      · rw [if_neg hi] at e
        have ih := At_lt hs (i := i - c) (by omega) e x
        have h2 := nbT_le (x := x) hk
        by_cases hl : t.1 + (c - 1) * t.2.1 < x
        · have h3 := nbT_all ht hk hl
          omega
        · have h3 : NB ts x = 0 := NB_zero hs.1 fun u hu => by
            obtain ⟨c', hc, q⟩ := h.lt u hu
            rw [hk] at hc
            cases hc
            omega
          omega
theorem tot_nn : ∀ {ts : List Trn}, (∀ t ∈ ts, OkTr t) → ∀ n, Tot ts = some n → 0 ≤ n
  | [], _, n, e => by cases e; exact Int.le_refl _
  | t :: ts, h, n, e => by
    cases hk : t.2.2 with
    | none =>
      have e2 : Tot (t :: ts) = none := by
        show (match t.2.2 with | none => none | some c => addO c (Tot ts)) = _
        rw [hk]
      rw [e2] at e
      cases e
    | some c =>
      have e2 : Tot (t :: ts) = addO c (Tot ts) := by
        show (match t.2.2 with | none => none | some c => addO c (Tot ts)) = _
        rw [hk]
      rw [e2] at e
      cases ht : Tot ts with
      | none => rw [ht] at e; cases e
      | some m =>
        rw [ht] at e
        have z' : c + m = n := Option.some.inj e
        have := tot_nn (fun u hu => h u (List.mem_cons_of_mem _ hu)) m ht
        have := (h t (List.mem_cons_self ..)).2.2 c hk
        omega
theorem At_none : ∀ {ts : List Trn}, (∀ t ∈ ts, OkTr t) → ∀ {i : Int}, 0 ≤ i → (At ts i = none ↔ ∃ n, Tot ts = some n ∧ n ≤ i)
  | [], _, i, i0 => ⟨fun _ => ⟨0, rfl, i0⟩, fun _ => rfl⟩
  | t :: ts, h, i, i0 => by
    cases hk : t.2.2 with
    | none =>
      have e' : At (t :: ts) i = some (t.1 + i * t.2.1) := by
        show (match t.2.2 with | none => some (t.1 + i * t.2.1) | some c => if i < c then some (t.1 + i * t.2.1) else At ts (i - c)) = _
        rw [hk]
      have e2 : Tot (t :: ts) = none := by
        show (match t.2.2 with | none => none | some c => addO c (Tot ts)) = _
        rw [hk]
      rw [e', e2]
      exact ⟨fun z => (by cases z), fun ⟨n, z, _⟩ => (by cases z)⟩
    | some c =>
      have e' : At (t :: ts) i = if i < c then some (t.1 + i * t.2.1) else At ts (i - c) := by
        show (match t.2.2 with | none => some (t.1 + i * t.2.1) | some c => if i < c then some (t.1 + i * t.2.1) else At ts (i - c)) = _
        rw [hk]
      have e2 : Tot (t :: ts) = addO c (Tot ts) := by
        show (match t.2.2 with | none => none | some c => addO c (Tot ts)) = _
        rw [hk]
      have tn : ∀ n, Tot ts = some n → 0 ≤ n := tot_nn fun u hu => h u (List.mem_cons_of_mem _ hu)
      rw [e', e2]
      by_cases hi : i < c
      · rw [if_pos hi]
        refine ⟨fun z => (by cases z), fun ⟨n, z, hn⟩ => ?_⟩
        cases ht : Tot ts with
        | none => rw [ht] at z; cases z
        | some m =>
          rw [ht] at z
          have := tn m ht
          have z' : c + m = n := Option.some.inj z
          omega
      · rw [if_neg hi]
        have ih := At_none (ts := ts) (fun u hu => h u (List.mem_cons_of_mem _ hu)) (i := i - c) (by omega)
        rw [ih]
        constructor
        · rintro ⟨n, e, hn⟩
          exact ⟨c + n, by rw [e]; rfl, by omega⟩
        · rintro ⟨n, e, hn⟩
          cases ht : Tot ts with
          | none => rw [ht] at e; cases e
          | some m =>
            rw [ht] at e
            have z' : c + m = n := Option.some.inj e
            exact ⟨m, rfl, by omega⟩
theorem NB_tot : ∀ {ts : List Trn}, (∀ t ∈ ts, OkTr t) → ∀ {n : Int}, Tot ts = some n → ∀ x, NB ts x ≤ n
  | [], _, n, e, x => by cases e; exact Int.le_refl _
  | t :: ts, h, n, e, x => by
    cases hk : t.2.2 with
    | none =>
      have e2 : Tot (t :: ts) = none := by
        show (match t.2.2 with | none => none | some c => addO c (Tot ts)) = _
        rw [hk]
      rw [e2] at e
      cases e
    | some c =>
      have e2 : Tot (t :: ts) = addO c (Tot ts) := by
        show (match t.2.2 with | none => none | some c => addO c (Tot ts)) = _
        rw [hk]
      rw [e2] at e
      cases ht : Tot ts with
      | none => rw [ht] at e; cases e
      | some m =>
        rw [ht] at e
        have z' : c + m = n := Option.some.inj e
        have h1 := nbT_le (x := x) hk
        have h2 := NB_tot (fun u hu => h u (List.mem_cons_of_mem _ hu)) ht x
        show nbT t x + NB ts x ≤ n
        omega
theorem nbT_step {t : Trn} (h : OkTr t) (x : Int) : nbT t (x + 1) ≤ nbT t x + 1 := by
  obtain ⟨s, p, k⟩ := t
  have hp : 1 ≤ p := h.2.1
  have h1 : cl (x + 1 - s) p ≤ cl (x - s) p + 1 := by
    refine (cl_le (by omega)).mpr ?_
    have h2 : x - s ≤ cl (x - s) p * p := (cl_le (by omega)).mp (Int.le_refl _)
    rw [Int.add_mul, Int.one_mul]
    omega
  show minO (stepsUp (x + 1 - s) p) k ≤ minO (stepsUp (x - s) p) k + 1
  rw [stepsUp_cl, stepsUp_cl]
  cases k with
  | none =>
    show (if cl (x + 1 - s) p > 0 then cl (x + 1 - s) p else 0) ≤ (if cl (x - s) p > 0 then cl (x - s) p else 0) + 1
    split <;> split <;> omega
  | some c =>
    show (if c < (if cl (x + 1 - s) p > 0 then cl (x + 1 - s) p else 0) then c else (if cl (x + 1 - s) p > 0 then cl (x + 1 - s) p else 0)) ≤ (if c < (if cl (x - s) p > 0 then cl (x - s) p else 0) then c else (if cl (x - s) p > 0 then cl (x - s) p else 0)) + 1
    repeat' split
    all_goals omega
theorem NB_step : ∀ {ts : List Trn}, Srt ts → ∀ x, NB ts (x + 1) ≤ NB ts x + 1
  | [], _, x => by show (0 : Int) ≤ 0 + 1; omega
  | t :: ts, h, x => by
    have ht := h.head
    have hs := h.tail
    have st := nbT_step ht x
    show nbT t (x + 1) + NB ts (x + 1) ≤ nbT t x + NB ts x + 1
    cases hk : t.2.2 with
    | none =>
      have nt : ts = [] := by
        cases ts with
        | nil => rfl
        | cons u us =>
          obtain ⟨c, hc, _⟩ := h.lt u (List.mem_cons_self ..)
          rw [hk] at hc
          cases hc
      subst nt
      show nbT t (x + 1) + 0 ≤ nbT t x + 0 + 1
      omega
    | some c =>
      by_cases hl : t.1 + (c - 1) * t.2.1 < x
      · have h1 := nbT_all ht hk hl
        have h2 := nbT_all ht hk (show t.1 + (c - 1) * t.2.1 < x + 1 by omega)
        have h3 := NB_step hs x
        omega
      · have z : ∀ y, y ≤ x + 1 → NB ts y = 0 := fun y hy => NB_zero hs.1 fun u hu => by
          obtain ⟨c', hc, q⟩ := h.lt u hu
          rw [hk] at hc
          cases hc
          omega
        have h1 := z x (by omega)
        have h2 := z (x + 1) (Int.le_refl _)
        omega
/-- the i-th time is told by what is before x -/
theorem At_iff {ts : List Trn} (h : Srt ts) {i y : Int} (i0 : 0 ≤ i) : At ts i = some y ↔ NB ts y = i ∧ NB ts (y + 1) = i + 1 := by
  have one : ∀ {z}, At ts i = some z → NB ts z = i ∧ NB ts (z + 1) = i + 1 := fun {z} e => by
    have h1 := At_lt h i0 e z
    have h2 := At_lt h i0 e (z + 1)
    have h3 := NB_step h z
    omega
  refine ⟨one, fun ⟨e1, e2⟩ => ?_⟩
  cases q : At ts i with
  | none =>
    obtain ⟨n, e3, e4⟩ := (At_none h.1 i0).mp q
    have := NB_tot h.1 e3 (y + 1)
    omega
  | some w =>
    have h3 := At_lt h i0 q y
    have h4 := At_lt h i0 q (y + 1)
    congr 1
    omega
/-- trains with the same counts have the same times -/
theorem At_same {ts us : List Trn} (h : Srt ts) (h' : Srt us) (e : ∀ x, NB ts x = NB us x) {i : Int} (i0 : 0 ≤ i) : At ts i = At us i := by
  cases q : At ts i with
  | some y =>
    obtain ⟨e1, e2⟩ := (At_iff h i0).mp q
    exact ((At_iff h' i0).mpr ⟨by rw [← e]; exact e1, by rw [← e]; exact e2⟩).symm
  | none =>
    cases q2 : At us i with
    | none => rfl
    | some y =>
      obtain ⟨e1, e2⟩ := (At_iff h' i0).mp q2
      rw [(At_iff h i0).mpr ⟨by rw [e]; exact e1, by rw [e]; exact e2⟩] at q
      cases q
/-! ### rows in the heap -/
/-! ### breakers and rows -/
abbrev Tri := Int × Int × Int
def TriV (t : Tri) : List V := [.int t.1, .int t.2.1, .int t.2.2]
def BrAt (H : Hp) (x : V) (t : Tri) : Prop := ∃ a, x = .ref a ∧ H a = some (.tup (TriV t))
def OkT (t : Tri) : Prop := 1 ≤ t.1 ∧ t.1 ≤ 1000000000000 ∧ 1 ≤ t.2.1 ∧ t.2.1 ≤ 1000000000000000000000000000000 ∧ 1 ≤ t.2.2 ∧ t.2.2 ≤ 1000000000000
abbrev Brs (H : Hp) (xs : List V) (ts : List Tri) : Prop := Paired (BrAt H) xs ts
theorem BrAt.nl {H H' : Hp} (k : NL H H') {x : V} {t : Tri} (h : BrAt H x t) : BrAt H' x t := by
  obtain ⟨a, e, h⟩ := h
  exact ⟨a, e, k _ _ h fun _ z => nomatch z⟩
theorem Brs.nl {H H' : Hp} (k : NL H H') {xs : List V} {ts : List Tri} (h : Brs H xs ts) : Brs H' xs ts := L2.Paired.mapP h fun _ _ z => z.nl k
theorem Brs.len {H : Hp} : ∀ {xs : List V} {ts : List Tri}, Brs H xs ts → xs.length = ts.length
  | _, _, .nil => rfl
  | _, _, .cons _ t => congrArg Nat.succ (Brs.len t)
theorem Brs.get {H : Hp} : ∀ {xs : List V} {ts : List Tri} {i : Nat} {x : V}, Brs H xs ts → xs[i]? = some x → ∃ t, ts[i]? = some t ∧ BrAt H x t
  | _, _, _, _, .nil, e => by simp at e
  | _, _, 0, _, .cons r _, e => by simp at e; subst e; exact ⟨_, rfl, r⟩
  | _, _, i + 1, x, .cons _ t, e => by
    obtain ⟨u, h1, h2⟩ := Brs.get (i := i) (x := x) t (by simpa using e)
    exact ⟨u, by simpa using h1, h2⟩
theorem Brs.app {H : Hp} : ∀ {xs ys : List V} {ts us : List Tri}, Brs H xs ts → Brs H ys us → Brs H (xs ++ ys) (ts ++ us)
  | _, _, _, _, .nil, s => s
  | _, _, _, _, .cons r t, s => .cons r (Brs.app t s)
theorem Brs.rev {H : Hp} : ∀ {xs : List V} {ts : List Tri}, Brs H xs ts → Brs H xs.reverse ts.reverse
  | _, _, .nil => .nil
  | _, _, .cons r t => by
    rw [List.reverse_cons, List.reverse_cons]
    exact Brs.app (Brs.rev t) (.cons r .nil)
theorem Brs.take {H : Hp} : ∀ {xs : List V} {ts : List Tri} (n : Nat), Brs H xs ts → Brs H (xs.take n) (ts.take n)
  | _, _, 0, _ => .nil
  | _, _, _ + 1, .nil => .nil
  | _, _, n + 1, .cons r t => .cons r (Brs.take n t)
theorem Brs.drop {H : Hp} : ∀ {xs : List V} {ts : List Tri} (n : Nat), Brs H xs ts → Brs H (xs.drop n) (ts.drop n)
  | _, _, 0, r => r
  | _, _, _ + 1, .nil => .nil
  | _, _, n + 1, .cons _ t => Brs.drop n t
/-! the attributes of a row, as __init__ stores them -/
theorem k1 : ¬ (("breakers" : Str) = "step") := by decide +kernel
theorem k2 : ¬ (("breakers" : Str) = "phase") := by decide +kernel
theorem k3 : ¬ (("step" : Str) = "phase") := by decide +kernel
def rowF (T : Addr) (st ph : Int) : List (Str × V) := putF "phase" (.int ph) (putF "step" (.int st) (putF "breakers" (.ref T) []))
theorem rowF_b (T : Addr) (st ph : Int) : (rowF T st ph).lookup ("breakers" : Str) = some (.ref T) := by
  unfold rowF
  rw [lookup_putF, if_neg k2, lookup_putF, if_neg k1, lookup_putF, if_pos rfl]
theorem rowF_s (T : Addr) (st ph : Int) : (rowF T st ph).lookup ("step" : Str) = some (.int st) := by
  unfold rowF
  rw [lookup_putF, if_neg k3, lookup_putF, if_pos rfl]
theorem rowF_p (T : Addr) (st ph : Int) : (rowF T st ph).lookup ("phase" : Str) = some (.int ph) := by
  unfold rowF
  rw [lookup_putF, if_pos rfl]
theorem rowF_no (T : Addr) (st ph : Int) {m : Str} (h1 : ¬ m = "phase") (h2 : ¬ m = "step") (h3 : ¬ m = "breakers") : (rowF T st ph).lookup m = none := by
  unfold rowF
  rw [lookup_putF, if_neg h1, lookup_putF, if_neg h2, lookup_putF, if_neg h3]
  all_goals rfl
/-- a Row stands at p -/
structure RowAt (C : Addr) (H : Hp) (p T : Addr) (xs : List V) (ts : List Tri) (st ph : Int) : Prop where
  ob : ∃ dx, H p = some (.ins C dx (rowF T st ph))
  tp : H T = some (.tup xs)
  br : Brs H xs ts
  ok : ∀ t ∈ ts, OkT t
  ln : ts.length ≤ 12
  s0 : 1 ≤ st
  s1 : st ≤ 1000000000000000000000000000000
  p0 : 0 ≤ ph
  p1 : ph ≤ 1000000000000000000000000000000
theorem RowAt.nl {C : Addr} {H H' : Hp} {p T : Addr} {xs : List V} {ts : List Tri} {st ph : Int} (R : RowAt C H p T xs ts st ph) (k : NL H H') : RowAt C H' p T xs ts st ph := by
  obtain ⟨dx, h⟩ := R.ob
  exact ⟨⟨dx, k _ _ h fun _ z => nomatch z⟩, k _ _ R.tp fun _ z => (nomatch z), R.br.nl k, R.ok, R.ln, R.s0, R.s1, R.p0, R.p1⟩
/-! ### promises -/
def spIsBr : Sp := fun vs H Q _ => ∃ x t, vs = [x] ∧ BrAt H x t ∧ OkT t ∧ Q (.bl true) H
def spRChk : Sp := fun vs H Q _ => ∃ a xs ts pt, vs = [.ref a, .str pt] ∧ H a = some (.lst xs) ∧ Brs H xs ts ∧ (∀ t ∈ ts, OkT t) ∧ ts.length ≤ 12 ∧ ∀ H', Same H H' → Q .non H'
def spRStep : Sp := fun vs H Q _ => ∃ st : Int, vs = [.int st] ∧ 1 ≤ st ∧ st ≤ 1000000000000000000000000000000 ∧ Q .non H
def spRInit (C : Addr) : Sp := fun vs H Q _ => ∃ p a st ph xs ts dx, vs = [.ref p, .ref a, .int st, .int ph] ∧ H p = some (.ins C dx []) ∧ H a = some (.lst xs) ∧ Brs H xs ts ∧ (∀ t ∈ ts, OkT t) ∧ ts.length ≤ 12 ∧
  (1 ≤ st ∧ st ≤ 1000000000000000000000000000000 ∧ 0 ≤ ph ∧ ph ≤ 1000000000000000000000000000000) ∧ ∀ T H', RowAt C H' p T xs ts st ph → Kp p H H' → Q .non H'
def spRBl (C : Addr) : Sp := fun vs H Q _ => ∃ p T xs ts st ph, vs = [.ref p] ∧ RowAt C H p T xs ts st ph ∧ ∀ l H', H l = none → H' = upd H l (.lst xs) → Q (.ref l) H'
def spRSt (C : Addr) : Sp := fun vs H Q _ => ∃ p T xs ts st ph, vs = [.ref p] ∧ RowAt C H p T xs ts st ph ∧ Q (.int st) H
def spRPh (C : Addr) : Sp := fun vs H Q _ => ∃ p T xs ts st ph, vs = [.ref p] ∧ RowAt C H p T xs ts st ph ∧ Q (.int ph) H
def spRLen (C : Addr) : Sp := fun vs H Q _ => ∃ p T xs ts st ph, vs = [.ref p] ∧ RowAt C H p T xs ts st ph ∧ Q (.int xs.length) H
def spRGet (C : Addr) : Sp := fun vs H Q _ => ∃ p T xs ts st ph i x, vs = [.ref p, .int i] ∧ RowAt C H p T xs ts st ph ∧ 0 ≤ i ∧ atI xs i = some x ∧ i < xs.length ∧ Q x H
def spRCon (C : Addr) : Sp := fun vs H Q _ => ∃ p T xs ts st ph x n, vs = [.ref p, x] ∧ RowAt C H p T xs ts st ph ∧ Kd H x n ∧ Q (.bl (isI x && (decide (ph ≤ toI x) && decide ((toI x - ph) % st = 0)))) H
def spRRt (C : Addr) : Sp := fun vs H Q _ => ∃ p T xs ts st ph i, vs = [.ref p, .int i] ∧ RowAt C H p T xs ts st ph ∧ 0 ≤ i ∧ i ≤ BB ∧ Q (.int (ph + i * st)) H
def spRFr (C : Addr) : Sp := fun vs H Q _ => ∃ p T xs ts st ph i, vs = [.ref p, .int i] ∧ RowAt C H p T xs ts st ph ∧ 0 ≤ i ∧ Q (.int (stepsUp (i - ph) st)) H
theorem row_made {C : Addr} {H : Hp} {Q : Addr → Hp → Prop} {a : Addr} {st ph : Int} {xs : List V} {ts : List Tri} (ha : H a = some (.lst xs)) (hb : Brs H xs ts) (ho : ∀ t ∈ ts, OkT t) (hl : ts.length ≤ 12)
    (bd : 1 ≤ st ∧ st ≤ 1000000000000000000000000000000 ∧ 0 ≤ ph ∧ ph ≤ 1000000000000000000000000000000) (k : ∀ p T H', RowAt C H' p T xs ts st ph → Same H H' → H p = none → Q p H') :
    ∀ x dx, H x = none → H dx = none → dx ≠ x → spRInit C [.ref x, .ref a, .int st, .int ph] (upd (upd H dx (.own x)) x (.ins C dx [])) (fun v H3 => v = .non ∧ Q x H3) E0 := by
  intro x dx hx hd hne
  have s0 : Same H (upd (upd H dx (.own x)) x (.ins C dx [])) := fun b o e => by
    rw [upd_ne (ne_of_none e hx), upd_ne (ne_of_none e hd)]
    exact e
  refine ⟨x, a, st, ph, xs, ts, dx, rfl, upd_same, s0 _ _ ha, hb.nl (NL.of s0), ho, hl, bd, fun T H' R kp => ⟨rfl, k x T H' R (fun b o e => kp b o (ne_of_none e hx) (s0 b o e)) hx⟩⟩
abbrev RDat := List Tri × Int × Int
/-- what == is asked of -/
inductive EqOf (C : Addr) (H : Hp) (d : RDat) : V → Bool → Prop where
  | row {q U : Addr} {ys : List V} {us : List Tri} {st ph : Int} (R : RowAt C H q U ys us st ph) : EqOf C H d (.ref q) (decide (d = (us, st, ph)))
  | non : EqOf C H d .non false
  | lst {a : Addr} {xs : List V} (e : H a = some (.lst xs)) : EqOf C H d (.ref a) false
  | tup {a : Addr} {xs : List V} (e : H a = some (.tup xs)) : EqOf C H d (.ref a) false
theorem EqOf.nl {C : Addr} {H H' : Hp} {d : RDat} {v : V} {b : Bool} (h : EqOf C H d v b) (k : Same H H') : EqOf C H' d v b := by
  cases h with
  | row R => exact .row (R.nl (NL.of k))
  | non => exact .non
  | lst e => exact .lst (k _ _ e)
  | tup e => exact .tup (k _ _ e)
/-- breakers as data -/
def triD (t : Tri) : PyData := .tuple [.int t.1, .int t.2.1, .int t.2.2]
theorem Brs.dp {K : PySem.W.Frag} {H : Hp} : ∀ {xs : List V} {ts : List Tri}, Brs H xs ts → DpAll K H xs (ts.map triD)
  | _, _, .nil => .nil
  | _, _, .cons ⟨a, e, h⟩ t => by
    subst e
    exact .cons (.tup (SqT.of h) (.cons (.int _) (.cons (.int _) (.cons (.int _) .nil)))) (Brs.dp t)
theorem triD_eq (t u : Tri) : PyData.eqv (triD t) (triD u) = decide (t = u) := by
  obtain ⟨a, b, c⟩ := t
  obtain ⟨a', b', c'⟩ := u
  simp only [triD, PyData.eqv, PyData.eqvAll, Bool.and_true]
  rw [Bool.eq_iff_iff]
  simp [Prod.ext_iff]
theorem triDs_eq : ∀ ts us : List Tri, PyData.eqvAll (ts.map triD) (us.map triD) = decide (ts = us)
  | [], [] => by simp [PyData.eqvAll]
  | [], _ :: _ => by simp [PyData.eqvAll]
  | _ :: _, [] => by simp [PyData.eqvAll]
  | t :: ts, u :: us => by
    rw [List.map_cons, List.map_cons, PyData.eqvAll, triD_eq, triDs_eq ts us, Bool.eq_iff_iff]
    simp
theorem canAll : ∀ ts : List Tri, PyData.canLayAll0 (ts.map triD) = true
  | [] => by simp [PyData.canLayAll0]
  | t :: ts => by
    rw [List.map_cons, PyData.canLayAll0, canAll ts]
    simp [triD, PyData.canLay0, PyData.canLayAll0]
theorem depAll : ∀ ts : List Tri, PyData.depthAll (ts.map triD) ≤ 10
  | [] => by simp [PyData.depthAll]
  | t :: ts => by
    have := depAll ts
    rw [List.map_cons, PyData.depthAll]
    have h2 : (triD t).depth ≤ 10 := by simp [triD, PyData.depth, PyData.depthAll]
    omega
theorem shT (ts : List Tri) : SeqAt.shaped (.tuple (ts.map triD)) = true := by
  refine Bool.and_eq_true_iff.mpr ⟨?_, decide_eq_true ?_⟩
  · rw [PyData.canLay0]
    exact canAll ts
  · have := depAll ts
    rw [PyData.depth]
    omega

theorem wide200 {i j : Int} (h1 : i.natAbs < 2 ^ 200) (h2 : j.natAbs < 2 ^ 200) : CMulW i j := wide_mul h1 h2 (by decide) (by decide) (by decide)
theorem lt200 {i : Int} (h0 : 0 ≤ i) (h : i ≤ 1000000000000000000000000000000) : i.natAbs < 2 ^ 200 := Nat.lt_of_le_of_lt (show i.natAbs ≤ 1000000000000000000000000000000 by omega) (by decide)
theorem log200 {i : Int} (h0 : 1 ≤ i) (h : i ≤ 1000000000000000000000000000000) : i.natAbs.log2 < 9000 := (wide_div (by omega : 0 < i) (lt200 (by omega) h) (by decide) (by decide) (i := 0)).2
theorem st_bb {s : Int} (h : s ≤ 1000000000000000000000000000000) : s ≤ BB := Int.le_trans h (Int.le_trans (PB_of (n := 100) (by decide +kernel)) (PB_le (by decide)))
theorem k6_pos {P : Prop} {q : Prop} [Decidable P] [Decidable q] (h : P) (h' : q) : (decide P && decide q) = true := by rw [decide_eq_true h, decide_eq_true h']; rfl
section
variable {P : Program} {w : World} {K : PySem.W.Frag} {mg : Str → Option Value} {base : Heap} {L : LA}
abbrev N_isbreaker : List Str := ["value", "failures", "wait", "successes"]
theorem sc_isbreaker : FnScope N_isbreaker ["value"] (defScope st_is_breaker) := ⟨rfl, rfl, rfl, by decide +kernel, rfl, by decide +kernel, by decide +kernel⟩
theorem fn_isbreaker (T : LX K mg L) {fd : FuncData} (F : Fun K "is_breaker" "is_breaker" st_is_breaker L.f_is_breaker fd) : FnOk P w K mg base CX0 3 L.f_is_breaker fd ["value"] (spIsBr) := by
  have G_iswithin := ok_iswithin (P := P) (w := w) (base := base) T
  obtain ⟨tk_MOST_COUNT, c_MOST_COUNT⟩ := T.n_MOST_COUNT
  obtain ⟨tk_MOST_TIME, c_MOST_TIME⟩ := T.n_MOST_TIME
  have nd := sc_isbreaker.nd
  refine F.ok sc_isbreaker (fun vs H Q E h => ?_) (fun cdv A outer S H vs Q E hr h => ?_)
  · obtain ⟨x, t, rfl, _⟩ := h
    rfl
  · obtain ⟨x, t, rfl, ⟨a, rfl, ha⟩, ⟨h1, h2, h3, h4, h5, h6⟩, k⟩ := h
    refine ⟨_, (pss_cons (ps_if (PW.pt (pw_or (pt_not (pt_val (pe_callB call_isi (by rfl) T.b_isinstance (by decide +kernel) (pa_cons (pv 0) (pa_cons (pe_bltn (by rfl) T.b_tuple (by decide +kernel : bootBuiltins "tuple" = some (.type "tuple")) (v := .ty "tuple") rfl) pa_nil))))) (pw_or1 (pt_cmpR op_ne (pe_callB call_len_seq (by rfl) T.b_len PySem.boot_len (pa_cons (pv 0) pa_nil)) pe_int (nomark _))))) (pss_one (ps_ret pe_bl)) pss_nil)
       (pss_cons (ps_asg (pv 0) (pg_tup rfl (pgs_cons (pg_name (i := 1) nd rfl (Or.inl rfl)) (pgs_cons (pg_name (i := 2) nd rfl (Or.inl rfl)) (pgs_cons (pg_name (i := 3) nd rfl (Or.inl rfl)) pgs_nil)))))
       (pss_one (ps_ret (pe_and (pe_c G_iswithin (hr.mono (by decide)) rfl (pa_cons (pv 1) (pa_cons pe_int (pa_cons (pe_gI c_MOST_COUNT) pa_nil)))) (pe_and (pe_c G_iswithin (hr.mono (by decide)) rfl (pa_cons (pv 2) (pa_cons pe_int (pa_cons (pe_gI c_MOST_TIME) pa_nil)))) (pe_one (pe_c G_iswithin (hr.mono (by decide)) rfl (pa_cons (pv 3) (pa_cons pe_int (pa_cons (pe_gI c_MOST_COUNT) pa_nil))))))))))), ?_⟩
    refine ⟨_, rfl, _, .ty "tuple", _, _, _, rfl, .ty "tuple", (Kd.tup ha).ty, (Kd.tup ha).kit "tuple" _ (.inr ⟨by decide, by decide, rfl⟩), _, rfl, iteF ?_⟩
    refine ⟨_, rfl, a, _, rfl, .inr (SqT.of ha), rfl, _, rfl, iteF ?_⟩
    refine ⟨_, rfl, a, _, rfl, SqT.of ha, rfl, _, _, rfl, _, _, rfl, _, _, rfl, rfl, ?_⟩
    refine ⟨_, rfl, _, _, _, _, rfl, .int _, _, rfl, ?_⟩
    have e1 : (decide ((1 : Int) ≤ t.1) && decide (t.1 ≤ 1000000000000)) = true := k6_pos h1 h2
    have e2 : (decide ((1 : Int) ≤ t.2.1) && decide (t.2.1 ≤ 1000000000000000000000000000000)) = true := k6_pos h3 h4
    have e3 : (decide ((1 : Int) ≤ t.2.2) && decide (t.2.2 ≤ 1000000000000)) = true := k6_pos h5 h6
    show if (decide ((1 : Int) ≤ t.1) && decide (t.1 ≤ 1000000000000)) = true then _ else _
    rw [e1]
    refine iteT ?_
    refine ⟨_, rfl, _, _, _, _, rfl, .int _, _, rfl, ?_⟩
    show if (decide ((1 : Int) ≤ t.2.1) && decide (t.2.1 ≤ 1000000000000000000000000000000)) = true then _ else _
    rw [e2]
    refine iteT ?_
    refine ⟨_, rfl, _, _, _, _, rfl, .int _, ?_⟩
    show Q (.bl (decide ((1 : Int) ≤ t.2.2) && decide (t.2.2 ≤ 1000000000000))) H
    rw [e3]
    exact k
theorem ok_isbreaker (T : LX K mg L) : Cal P w K mg base "is_breaker" 3 L.f_is_breaker ["value"] (spIsBr) := T.d_is_breaker.cal fun fd F => fn_isbreaker T F
abbrev N_checkbreakers : List Str := ["breakers", "part", "at", "breaker"]
theorem sc_checkbreakers : FnScope N_checkbreakers ["breakers", "part"] (defScope st_check_breakers) := ⟨rfl, rfl, rfl, by decide +kernel, rfl, by decide +kernel, by decide +kernel⟩
theorem fn_checkbreakers (T : LX K mg L) {fd : FuncData} (F : Fun K "check_breakers" "check_breakers" st_check_breakers L.f_check_breakers fd) : FnOk P w K mg base CX0 4 L.f_check_breakers fd ["breakers", "part"] (spRChk) := by
  obtain ⟨tk_MOST_BREAKERS, c_MOST_BREAKERS⟩ := T.n_MOST_BREAKERS
  have G_isbreaker := ok_isbreaker (P := P) (w := w) (base := base) T
  have nd := sc_checkbreakers.nd
  refine F.ok sc_checkbreakers (fun vs H Q E h => ?_) (fun cdv A outer S H vs Q E hr h => ?_)
  · obtain ⟨a, xs, ts, pt, rfl, _⟩ := h
    rfl
  · obtain ⟨a, xs, ts, pt, rfl, ha, hb, ho, hl, k⟩ := h
    refine ⟨_, (pss_cons (ps_if (PW.pt (pw_or (pt_not (pt_val (pe_callB call_isi (by rfl) T.b_isinstance (by decide +kernel) (pa_cons (pv 0) (pa_cons (pe_bltn (by rfl) T.b_list (by decide +kernel : bootBuiltins "list" = some (.type "list")) (v := .ty "list") rfl) pa_nil))))) (pw_or1 (pt_cmpR op_gt (pe_callB call_len_seq (by rfl) T.b_len PySem.boot_len (pa_cons (pv 0) pa_nil)) (pe_gI c_MOST_BREAKERS) (nomark _))))) (pss_one (ps_never)) pss_nil)
       (pss_one (ps_for PassesOwn.never rfl (pi_enum (by rfl) T.b_enumerate (pa_cons (pv 0) pa_nil)) (pg_tup rfl (pgs_cons (pg_name (i := 2) nd rfl (Or.inl rfl)) (pgs_cons (pg_name (i := 3) nd rfl (Or.inl rfl)) pgs_nil))) (pss_one (ps_if (pt_not (pt_val (pe_c G_isbreaker (hr.mono (by decide)) rfl (pa_cons (pv 3) pa_nil)))) (pss_one (ps_never)) pss_nil))))), ?_⟩
    refine ⟨_, rfl, _, .ty "list", _, _, _, rfl, .ty "list", (Kd.lst ha).ty, (Kd.lst ha).kit "list" _ (.inr ⟨by decide, by decide, rfl⟩), _, rfl, iteF ?_⟩
    refine ⟨_, rfl, a, _, rfl, .inl (SqL.of ha), _, _, rfl, rfl, _, rfl, ?_⟩
    have hn : ¬ ((12 : Int) < (xs.length : Nat)) := by rw [hb.len]; omega
    rw [decide_eq_false hn]
    refine iteF ?_
    refine ⟨_, rfl, a, xs, rfl, SqL.of ha, for_enum (K := K) (a := a) (xs := xs) (fun i σ H2 => ∃ u v : Option V, σ = [some (.ref a), some (.str pt), u, v] ∧ Same H H2) ⟨none, none, rfl, Same.refl H⟩ (fun i σ H2 _ ⟨_, _, _, s2⟩ => SqL.of (s2 _ _ ha)) ?_ ?_⟩
    · rintro i x T' σ H2 hx ⟨u, v, rfl, s2⟩ hT
      obtain ⟨t, ht, hbr⟩ := hb.get hx
      have s3 : Same H (upd H2 T' (.tup [.int (i : Nat), x])) := s2.trans (Same.upd hT)
      refine ⟨T', _, rfl, SqT.of upd_same, rfl, _, _, rfl, _, _, rfl, rfl, ?_⟩
      refine ⟨_, rfl, x, t, rfl, hbr.nl (NL.of s3), ho t (List.mem_of_getElem? ht), _, rfl, iteF ?_⟩
      exact ⟨_, _, rfl, s3⟩
    · rintro σ H2 ⟨u, v, rfl, s2⟩
      exact k H2 s2
theorem ok_checkbreakers (T : LX K mg L) : Cal P w K mg base "check_breakers" 4 L.f_check_breakers ["breakers", "part"] (spRChk) := T.d_check_breakers.cal fun fd F => fn_checkbreakers T F
abbrev N_checkstep : List Str := ["step"]
theorem sc_checkstep : FnScope N_checkstep ["step"] (defScope st_check_step) := ⟨rfl, rfl, rfl, by decide +kernel, rfl, by decide +kernel, by decide +kernel⟩
theorem fn_checkstep (T : LX K mg L) {fd : FuncData} (F : Fun K "check_step" "check_step" st_check_step L.f_check_step fd) : FnOk P w K mg base CX0 3 L.f_check_step fd ["step"] (spRStep) := by
  have G_iswithin := ok_iswithin (P := P) (w := w) (base := base) T
  obtain ⟨tk_MOST_TIME, c_MOST_TIME⟩ := T.n_MOST_TIME
  have nd := sc_checkstep.nd
  refine F.ok sc_checkstep (fun vs H Q E h => ?_) (fun cdv A outer S H vs Q E hr h => ?_)
  · obtain ⟨st, rfl, _⟩ := h
    rfl
  · obtain ⟨st, rfl, b1, b2, k⟩ := h
    refine ⟨_, (pss_one (ps_if (pt_not (pt_val (pe_c G_iswithin (hr.mono (by decide)) rfl (pa_cons (pv 0) (pa_cons pe_int (pa_cons (pe_gI c_MOST_TIME) pa_nil)))))) (pss_one (ps_never)) pss_nil)), ?_⟩
    have e1 : (decide ((1 : Int) ≤ st) && decide (st ≤ 1000000000000000000000000000000)) = true := k6_pos b1 b2
    refine ⟨_, rfl, _, _, _, _, rfl, .int _, _, rfl, ?_⟩
    show if (!(decide ((1 : Int) ≤ st) && decide (st ≤ 1000000000000000000000000000000))) = true then _ else _
    rw [e1]
    exact iteF k
theorem ok_checkstep (T : LX K mg L) : Cal P w K mg base "check_step" 3 L.f_check_step ["step"] (spRStep) := T.d_check_step.cal fun fd F => fn_checkstep T F
abbrev N_Rowinit : List Str := ["self", "breakers", "step", "phase"]
theorem sc_Rowinit : FnScope N_Rowinit ["self", "breakers", "step", "phase"] (defScope st_Row_init) := ⟨rfl, rfl, rfl, by decide +kernel, rfl, by decide +kernel, by decide +kernel⟩
theorem fn_Rowinit (T : LX K mg L) {fd : FuncData} (F : Fun K "__init__" "Row.__init__" st_Row_init L.i_Row fd) : FnOk P w K mg base CX0 5 L.i_Row fd ["self", "breakers", "step", "phase"] (spRInit L.c_Row) := by
  have G_checkbreakers := ok_checkbreakers (P := P) (w := w) (base := base) T
  have G_checkstep := ok_checkstep (P := P) (w := w) (base := base) T
  have G_iswithin := ok_iswithin (P := P) (w := w) (base := base) T
  obtain ⟨tk_MOST_TIME, c_MOST_TIME⟩ := T.n_MOST_TIME
  have nd := sc_Rowinit.nd
  refine F.ok sc_Rowinit (fun vs H Q E h => ?_) (fun cdv A outer S H vs Q E hr h => ?_)
  · obtain ⟨p, a, st, ph, xs, ts, dx, rfl, _⟩ := h
    rfl
  · obtain ⟨p, a, st, ph, xs, ts, dx, rfl, hp, ha, hb, ho, hl, ⟨b1, b2, b3, b4⟩, k⟩ := h
    refine ⟨_, (pss_cons (ps_expr (pe_c G_checkbreakers (hr.mono (by decide)) rfl (pa_cons (pv 1) (pa_cons pe_str pa_nil))))
       (pss_cons (ps_expr (pe_c G_checkstep (hr.mono (by decide)) rfl (pa_cons (pv 2) pa_nil)))
       (pss_cons (ps_if (pt_not (pt_val (pe_c G_iswithin (hr.mono (by decide)) rfl (pa_cons (pv 3) (pa_cons pe_int (pa_cons (pe_gI c_MOST_TIME) pa_nil)))))) (pss_one (ps_never)) pss_nil)
       (pss_cons (ps_fld (pv 0) (pe_callTy call_tuple_of (by rfl) T.b_tuple (by decide +kernel) (pa_cons (pv 1) pa_nil)) rfl)
       (pss_cons (ps_fld (pv 0) (pv 2) rfl)
       (pss_one (ps_fld (pv 0) (pv 3) rfl))))))), ?_⟩
    refine ⟨_, rfl, a, xs, ts, _, rfl, ha, hb, ho, hl, fun H1 s1 => ?_⟩
    have e2 : (decide ((0 : Int) ≤ ph) && decide (ph ≤ 1000000000000000000000000000000)) = true := k6_pos b3 b4
    refine ⟨_, rfl, _, rfl, b1, b2, ?_⟩
    refine ⟨_, rfl, _, _, _, _, rfl, .int _, _, rfl, ?_⟩
    show if (!(decide ((0 : Int) ≤ ph) && decide (ph ≤ 1000000000000000000000000000000))) = true then _ else _
    rw [e2]
    refine iteF ?_
    have hp1 := s1 _ _ hp
    refine ⟨_, rfl, a, xs, rfl, .inl ⟨SqL.of (s1 _ _ ha), fun l hl' => ?_⟩⟩
    have npl : p ≠ l := ne_of_none hp1 hl'
    refine ⟨_, rfl, p, L.c_Row, dx, [], rfl, (by rw [upd_ne npl]; exact hp1), T.cf_Row.cl, T.nf_Row_breakers, (by show 0 < 1000; decide), ?_⟩
    refine ⟨_, rfl, _, rfl, p, L.c_Row, dx, _, rfl, upd_same, T.cf_Row.cl, T.nf_Row_step, Nat.lt_of_le_of_lt (putF_len _ _ [] (Nat.le_refl 0)) (by decide), ?_⟩
    refine ⟨_, rfl, _, rfl, p, L.c_Row, dx, _, rfl, upd_same, T.cf_Row.cl, T.nf_Row_phase, Nat.lt_of_le_of_lt (putF_len _ _ _ (putF_len _ _ [] (Nat.le_refl 0))) (by decide), ?_⟩
    refine k l _ ⟨⟨dx, upd_same⟩, ?_, ?_, ho, hl, b1, b2, b3, b4⟩ ?_
    · rw [upd_ne npl.symm, upd_ne npl.symm, upd_ne npl.symm, upd_same]
    · refine L2.Paired.mapP hb fun x t ⟨b, e, h⟩ => ⟨b, e, ?_⟩
      have nbp : b ≠ p := ne_of h hp (by intro z; cases z)
      have h1 := s1 _ _ h
      rw [upd_ne nbp, upd_ne nbp, upd_ne nbp, upd_ne (ne_of_none h1 hl')]
      exact h1
    · intro b o n e
      have h1 := s1 _ _ e
      rw [upd_ne n, upd_ne n, upd_ne n, upd_ne (ne_of_none h1 hl')]
      exact h1
abbrev N_Rowbreakerlist : List Str := ["self"]
theorem sc_Rowbreakerlist : FnScope N_Rowbreakerlist ["self"] (defScope st_Row_breaker_list) := ⟨rfl, rfl, rfl, by decide +kernel, rfl, by decide +kernel, by decide +kernel⟩
theorem fn_Rowbreakerlist (T : LX K mg L) {fd : FuncData} (F : Fun K "breaker_list" "Row.breaker_list" st_Row_breaker_list L.m_Row_breaker_list fd) : FnOk P w K mg base CX0 1 L.m_Row_breaker_list fd ["self"] (spRBl L.c_Row) := by
  have nd := sc_Rowbreakerlist.nd
  refine F.ok sc_Rowbreakerlist (fun vs H Q E h => ?_) (fun cdv A outer S H vs Q E hr h => ?_)
  · obtain ⟨p, B, xs, ts, st, ph, rfl, _⟩ := h
    rfl
  · obtain ⟨p, B, xs, ts, st, ph, rfl, R, k⟩ := h
    refine ⟨_, (pss_one (ps_ret (pe_callTy call_list_of (by rfl) T.b_list (by decide +kernel) (pa_cons (pe_fld (pv 0) rfl) pa_nil)))), ?_⟩
    obtain ⟨dx, hp⟩ := R.ob
    exact ⟨_, rfl, p, L.c_Row, dx, _, _, rfl, hp, T.cf_Row.cl, T.nf_Row_breakers, rowF_b _ _ _, B, xs, rfl, .inr (SqT.of R.tp), fun l hl' => k l _ hl' rfl⟩
theorem ok_Rowbreakerlist (T : LX K mg L) : Met P w K mg base L.c_Row "breaker_list" 1 L.m_Row_breaker_list ["self"] (spRBl L.c_Row) := T.mm_Row_breaker_list.met fun fd F => fn_Rowbreakerlist T F
abbrev N_Rowlen : List Str := ["self"]
theorem sc_Rowlen : FnScope N_Rowlen ["self"] (defScope st_Row_len) := ⟨rfl, rfl, rfl, by decide +kernel, rfl, by decide +kernel, by decide +kernel⟩
theorem fn_Rowlen (T : LX K mg L) {fd : FuncData} (F : Fun K "__len__" "Row.__len__" st_Row_len L.m_Row_len fd) : FnOk P w K mg base CX0 1 L.m_Row_len fd ["self"] (spRLen L.c_Row) := by
  have nd := sc_Rowlen.nd
  refine F.ok sc_Rowlen (fun vs H Q E h => ?_) (fun cdv A outer S H vs Q E hr h => ?_)
  · obtain ⟨p, B, xs, ts, st, ph, rfl, _⟩ := h
    rfl
  · obtain ⟨p, B, xs, ts, st, ph, rfl, R, k⟩ := h
    refine ⟨_, (pss_one (ps_ret (pe_callB call_len_seq (by rfl) T.b_len PySem.boot_len (pa_cons (pe_fld (pv 0) rfl) pa_nil)))), ?_⟩
    obtain ⟨dx, hp⟩ := R.ob
    exact ⟨_, rfl, p, L.c_Row, dx, _, _, rfl, hp, T.cf_Row.cl, T.nf_Row_breakers, rowF_b _ _ _, B, xs, rfl, .inr (SqT.of R.tp), k⟩
theorem ok_Rowlen (T : LX K mg L) : Met P w K mg base L.c_Row "__len__" 1 L.m_Row_len ["self"] (spRLen L.c_Row) := T.mm_Row_len.met fun fd F => fn_Rowlen T F
abbrev N_Rowgetitem : List Str := ["self", "at"]
theorem sc_Rowgetitem : FnScope N_Rowgetitem ["self", "at"] (defScope st_Row_getitem) := ⟨rfl, rfl, rfl, by decide +kernel, rfl, by decide +kernel, by decide +kernel⟩
theorem fn_Rowgetitem (T : LX K mg L) {fd : FuncData} (F : Fun K "__getitem__" "Row.__getitem__" st_Row_getitem L.m_Row_getitem fd) : FnOk P w K mg base CX0 3 L.m_Row_getitem fd ["self", "at"] (spRGet L.c_Row) := by
  have G_iswithin := ok_iswithin (P := P) (w := w) (base := base) T
  have nd := sc_Rowgetitem.nd
  refine F.ok sc_Rowgetitem (fun vs H Q E h => ?_) (fun cdv A outer S H vs Q E hr h => ?_)
  · obtain ⟨p, B, xs, ts, st, ph, i, x, rfl, _⟩ := h
    rfl
  · obtain ⟨p, B, xs, ts, st, ph, i, x, rfl, R, i0, hx, i1, k⟩ := h
    refine ⟨_, (pss_cons (ps_if (pt_not (pt_val (pe_c G_iswithin (hr.mono (by decide)) rfl (pa_cons (pv 1) (pa_cons pe_int (pa_cons (pe_op op_sub (pe_callB call_len_seq (by rfl) T.b_len PySem.boot_len (pa_cons (pe_fld (pv 0) rfl) pa_nil)) pe_int) pa_nil)))))) (pss_one (ps_never)) pss_nil)
       (pss_one (ps_ret (pe_ix (r := rIxT K) ix_tup (pe_fld (pv 0) rfl) (pv 1) (fun _ _ => rfl))))), ?_⟩
    obtain ⟨dx, hp⟩ := R.ob
    refine ⟨_, rfl, _, rfl, p, L.c_Row, dx, _, _, rfl, hp, T.cf_Row.cl, T.nf_Row_breakers, rowF_b _ _ _, B, xs, rfl, .inr (SqT.of R.tp), _, _, rfl, rfl, _, _, _, _, rfl, .int _, _, rfl, ?_⟩
    have e1 : (decide ((0 : Int) ≤ i) && decide (i ≤ (xs.length : Int) - 1)) = true := k6_pos i0 (by omega)
    show if (!(decide ((0 : Int) ≤ i) && decide (i ≤ (xs.length : Int) - 1))) = true then _ else _
    rw [e1]
    refine iteF ?_
    exact ⟨_, rfl, p, L.c_Row, dx, _, _, rfl, hp, T.cf_Row.cl, T.nf_Row_breakers, rowF_b _ _ _, _, rfl, B, xs, i, x, rfl, rfl, SqT.of R.tp, hx, k⟩
theorem ok_Rowgetitem (T : LX K mg L) : Met P w K mg base L.c_Row "__getitem__" 3 L.m_Row_getitem ["self", "at"] (spRGet L.c_Row) := T.mm_Row_getitem.met fun fd F => fn_Rowgetitem T F
abbrev N_Rowcontains : List Str := ["self", "x"]
theorem sc_Rowcontains : FnScope N_Rowcontains ["self", "x"] (defScope st_Row_contains) := ⟨rfl, rfl, rfl, by decide +kernel, rfl, by decide +kernel, by decide +kernel⟩
theorem fn_Rowcontains (T : LX K mg L) {fd : FuncData} (F : Fun K "__contains__" "Row.__contains__" st_Row_contains L.m_Row_contains fd) : FnOk P w K mg base CX0 3 L.m_Row_contains fd ["self", "x"] (spRCon L.c_Row) := by
  have G_isatleast := ok_isatleast (P := P) (w := w) (base := base) T
  have nd := sc_Rowcontains.nd
  refine F.ok sc_Rowcontains (fun vs H Q E h => ?_) (fun cdv A outer S H vs Q E hr h => ?_)
  · obtain ⟨p, B, xs, ts, st, ph, x, n, rfl, _⟩ := h
    rfl
  · obtain ⟨p, B, xs, ts, st, ph, x, n, rfl, R, hx, k⟩ := h
    refine ⟨_, (pss_one (ps_ret (pe_and (pe_c G_isatleast (hr.mono (by decide)) rfl (pa_cons (pv 1) (pa_cons (pe_fld (pv 0) rfl) pa_nil))) (pe_one (pe_cmpR op_eq (pe_op op_mod (pe_op op_sub (pv 1) (pe_fld (pv 0) rfl)) (pe_fld (pv 0) rfl)) pe_int (nomark _)))))), ?_⟩
    obtain ⟨dx, hp⟩ := R.ob
    have s0 := R.s0
    refine ⟨_, rfl, _, rfl, p, L.c_Row, dx, _, _, rfl, hp, T.cf_Row.cl, T.nf_Row_phase, rowF_p _ _ _, x, n, _, rfl, hx, _, rfl, ?_⟩
    refine ite2 (fun c => ?_) (fun c => ?_)
    · cases x with
      | int i =>
        have c' : decide (ph ≤ i) = true := c
        have k' : Q (.bl (decide (ph ≤ i) && decide ((i - ph) % st = 0))) H := k
        rw [c', Bool.true_and] at k'
        refine ⟨_, rfl, _, rfl, p, L.c_Row, dx, _, _, rfl, hp, T.cf_Row.cl, T.nf_Row_phase, rowF_p _ _ _, _, _, rfl, rfl, _, rfl, p, L.c_Row, dx, _, _, rfl, hp, T.cf_Row.cl, T.nf_Row_step, rowF_s _ _ _, _, _, rfl, rfl, by omega, rfl, ?_⟩
        have e : decide (V.int ((i - ph) % st) = V.int 0) = decide ((i - ph) % st = 0) := by rw [dec_int]; rfl
        rw [e]
        exact k'
      | _ => exact absurd (show false = true from c) Bool.false_ne_true
    · cases x with
      | int i =>
        have c' : decide (ph ≤ i) = false := by
          have c2 : ¬ (decide (ph ≤ i) = true) := c
          simpa using c2
        have k' : Q (.bl (decide (ph ≤ i) && decide ((i - ph) % st = 0))) H := k
        rw [c', Bool.false_and] at k'
        exact k'
      | _ => exact k
theorem ok_Rowcontains (T : LX K mg L) : Met P w K mg base L.c_Row "__contains__" 3 L.m_Row_contains ["self", "x"] (spRCon L.c_Row) := T.mm_Row_contains.met fun fd F => fn_Rowcontains T F
abbrev N_requesttime : List Str := ["row", "number"]
theorem sc_requesttime : FnScope N_requesttime ["row", "number"] (defScope st_request_time) := ⟨rfl, rfl, rfl, by decide +kernel, rfl, by decide +kernel, by decide +kernel⟩
theorem fn_requesttime (T : LX K mg L) {fd : FuncData} (F : Fun K "request_time" "request_time" st_request_time L.f_request_time fd) : FnOk P w K mg base CX0 3 L.f_request_time fd ["row", "number"] (spRRt L.c_Row) := by
  have G_isatleast := ok_isatleast (P := P) (w := w) (base := base) T
  have nd := sc_requesttime.nd
  refine F.ok sc_requesttime (fun vs H Q E h => ?_) (fun cdv A outer S H vs Q E hr h => ?_)
  · obtain ⟨p, B, xs, ts, st, ph, i, rfl, _⟩ := h
    rfl
  · obtain ⟨p, B, xs, ts, st, ph, i, rfl, R, i0, iw, k⟩ := h
    refine ⟨_, (pss_cons (ps_if (pt_not (pt_val (pe_c G_isatleast (hr.mono (by decide)) rfl (pa_cons (pv 1) (pa_cons pe_int pa_nil))))) (pss_one (ps_never)) pss_nil)
       (pss_one (ps_ret (pe_op op_add (pe_fld (pv 0) rfl) (pe_op op_mulW (pv 1) (pe_fld (pv 0) rfl)))))), ?_⟩
    obtain ⟨dx, hp⟩ := R.ob
    have s0 := R.s0
    have s1 := st_bb R.s1
    refine ⟨_, rfl, _, _, _, rfl, .int _, _, rfl, ?_⟩
    show if (!(decide ((0 : Int) ≤ i))) = true then _ else _
    rw [decide_eq_true i0]
    refine iteF ?_
    exact ⟨_, rfl, p, L.c_Row, dx, _, _, rfl, hp, T.cf_Row.cl, T.nf_Row_phase, rowF_p _ _ _, _, rfl, _, rfl, p, L.c_Row, dx, _, _, rfl, hp, T.cf_Row.cl, T.nf_Row_step, rowF_s _ _ _, _, _, rfl, rfl, mulBB i0 (by have := BB1; omega) (by omega) (by have := BB1; omega), _, _, rfl, rfl, k⟩
theorem ok_requesttime (T : LX K mg L) : Cal P w K mg base "request_time" 3 L.f_request_time ["row", "number"] (spRRt L.c_Row) := T.d_request_time.cal fun fd F => fn_requesttime T F
end
section
variable {X : Cx} {L : LA}
theorem row_fn {K : PySem.W.Frag} {mg : Str → Option Value} (T : LX K mg L) : ∃ fd, Fun K "__init__" "Row.__init__" st_Row_init L.i_Row fd ∧ FunD K "__init__" "Row.__init__" (defArgs st_Row_init) (defBody st_Row_init) (defScope st_Row_init) [] [("phase", .int 0)] L.i_Row fd := by
  obtain ⟨fd, F⟩ := T.in_Row
  refine ⟨fd, ?_, F⟩
  obtain ⟨oc, od, dV, kV, doc, pm, an, cdv, ct, osl, rfl, lk, hcd, hD, hK⟩ := F.ex
  rcases hD with ⟨_, rfl⟩ | ⟨e, _⟩
  · exact ⟨⟨oc, od, kV, doc, pm, an, cdv, ct, osl, rfl, lk, hcd⟩, F.kp⟩
  · exact absurd rfl e
theorem row_k1 {K : PySem.W.Frag} {mg : Str → Option Value} (T : LX K mg L) : ∃ fd, Fun K "__init__" "Row.__init__" st_Row_init L.i_Row fd ∧ KBn K fd ["self", "breakers", "step", "phase"] 3 ["phase"] (fun us ws => us ++ ws) (fun us ws => us ++ ws) := by
  obtain ⟨fd, F, FD⟩ := row_fn T
  obtain ⟨mv, h⟩ := FD.kbinds0 (ps := ["self", "breakers", "step", "phase"]) 3 ["phase"] [] (fun us _ ws => us ++ ws) (by simp) (by simp) (fun r1 _ r3 => r1.append r3) (fun D doc pm an cdv ct us mv ws h1 h2 h3 => by
    match us, h1, ws, h3, mv, h2 with
    | [_, _, _], _, [_], _, [], _ => rfl)
  exact ⟨fd, F, h⟩
theorem row_k2 {K : PySem.W.Frag} {mg : Str → Option Value} (T : LX K mg L) : ∃ fd ds, Fun K "__init__" "Row.__init__" st_Row_init L.i_Row fd ∧ Vals [.int 0] ds ∧ Binds K fd ["self", "breakers", "step", "phase"] ds := by
  obtain ⟨fd, F, FD⟩ := row_fn T
  obtain ⟨ds, h1, h2⟩ := FD.binds0 (ps := ["self", "breakers", "step", "phase"]) 3 (by simp) rfl (fun D doc pm an cdv ct us ks h1 h2 => by
    match us, h1, ks, h2 with
    | [_, _, _], _, [_], _ => exact ⟨_, _, _, _, _, _, rfl, rfl, rfl⟩)
  exact ⟨fd, ds, F, h1, h2⟩
/-- Row(e, s, phase=f) -/
theorem pe_mkRow_p_phase (T : LX X.K X.mg L) (hr : Room 6 X.A) {p pos : Pos} {e e2 : Expr} {kws : List Keyword} {t tk : TA} (hg : Gl X "Row") (ha : PA X [e, e2] t) (hkw : PK X kws tk)
    (hall : (backToKw pos (keywordEach kws X.env)).all (·.1.isSome) = true := by rfl) (hks : (backToKw pos (keywordEach kws X.env)).filterMap (·.1) = (["phase"] : List Str) := by rfl)
    (he : starEach (e :: [e2]) X.env = (false, eval e X.env) :: starEach [e2] X.env := by rfl) (hpl : ((backTo pos (starEach (e :: [e2]) X.env)).any (·.1) || (backToKw pos (keywordEach kws X.env)).any (·.1.isNone)) = false := by rfl) :
    PE X (.Call (.Name "Row" p) (e :: [e2]) kws pos) (tMakeK L.c_Row 2 1 (spRInit L.c_Row) (fun us ws => us ++ ws) E0 t tk) := by
  obtain ⟨fd, F, b⟩ := row_k1 T
  exact pe_makeK T.mk_Row (fn_Rowinit T F) hr hg T.gc_Row b pass0 ha hkw hall hks (by decide) he hpl
/-- Row(e, s) -/
theorem pe_mkRow (T : LX X.K X.mg L) (hr : Room 6 X.A) {p pos : Pos} {e e2 : Expr} {t : TA} (hg : Gl X "Row") (ha : PA X [e, e2] t)
    (he : starEach (e :: [e2]) X.env = (false, eval e X.env) :: starEach [e2] X.env := by rfl) (hpl : (backTo pos (starEach [e2] X.env)).any (·.1) = false := by rfl) :
    PE X (.Call (.Name "Row" p) (e :: [e2]) [] pos) (tMake L.c_Row (spRInit L.c_Row) [.int 0] E0 t) := by
  obtain ⟨fd, ds, F, hv, b⟩ := row_k2 T
  exact pe_make T.mk_Row (fn_Rowinit T F) hr hg T.gc_Row b hv pass0 ha (by decide) he hpl
end
/-! ### states of breakers, and data of them -/
abbrev StD := Str × Int
def StAt (H : Hp) (x : V) (s : StD) : Prop := ∃ a, x = .ref a ∧ H a = some (.tup [.str s.1, .int s.2])
abbrev Sts (H : Hp) (xs : List V) (ss : List StD) : Prop := Paired (StAt H) xs ss
theorem StAt.nl {H H' : Hp} (k : NL H H') {x : V} {d : StD} (h : StAt H x d) : StAt H' x d := by
  obtain ⟨a, e, h⟩ := h
  exact ⟨a, e, k _ _ h fun _ z => nomatch z⟩
theorem Sts.nl {H H' : Hp} (k : NL H H') {xs : List V} {ss : List StD} (h : Sts H xs ss) : Sts H' xs ss := L2.Paired.mapP h fun _ _ z => z.nl k
theorem paired_len {α β : Type} {F : α → β → Prop} : ∀ {xs : List α} {ys : List β}, Paired F xs ys → xs.length = ys.length
  | _, _, .nil => rfl
  | _, _, .cons _ p => by rw [List.length_cons, List.length_cons, paired_len p]
theorem paired_get {α β : Type} {F : α → β → Prop} : ∀ {xs : List α} {ys : List β} {i : Nat} {x : α}, Paired F xs ys → xs[i]? = some x → ∃ y, ys[i]? = some y ∧ F x y
  | _, _, i, x, .nil, e => by cases e
  | _, _, 0, x, .cons h _, e => by cases e; exact ⟨_, rfl, h⟩
  | _, _, i + 1, x, .cons _ p, e => paired_get (i := i) p e
theorem paired_get2 {α β : Type} {F : α → β → Prop} : ∀ {xs : List α} {ys : List β} {i : Nat} {y : β}, Paired F xs ys → ys[i]? = some y → ∃ x, xs[i]? = some x ∧ F x y
  | _, _, i, x, .nil, e => by cases e
  | _, _, 0, x, .cons h _, e => by cases e; exact ⟨_, rfl, h⟩
  | _, _, i + 1, x, .cons _ p, e => paired_get2 (i := i) p e
theorem paired_app {α β : Type} {F : α → β → Prop} : ∀ {xs us : List α} {ys vs : List β}, Paired F xs ys → Paired F us vs → Paired F (xs ++ us) (ys ++ vs)
  | _, _, _, _, .nil, q => q
  | _, _, _, _, .cons h p, q => .cons h (paired_app p q)
theorem StAt.same {H H' : Hp} (s : Same H H') {x : V} {d : StD} (h : StAt H x d) : StAt H' x d := by
  obtain ⟨a, e, h⟩ := h
  exact ⟨a, e, s _ _ h⟩
theorem Sts.same {H H' : Hp} (s : Same H H') {xs : List V} {ss : List StD} (h : Sts H xs ss) : Sts H' xs ss := L2.Paired.mapP h fun _ _ z => z.same s
/-- the breaker passes a request at t -/
def psB (b : Tri) (s : StD) (t : Int) : Prop := s.1 = "open" → b.2.1 ≤ t - s.2
def hfS (s : StD) : StD := if s.1 = "open" then ("half", 0) else s
def okS (b : Tri) (s : StD) : StD := if (hfS s).1 = "half" ∧ (hfS s).2 + 1 < b.2.2 then ("half", (hfS s).2 + 1) else ("closed", 0)
def badS (b : Tri) (s : StD) (t : Int) : StD := if (hfS s).1 = "closed" ∧ (hfS s).2 + 1 < b.1 then ("closed", (hfS s).2 + 1) else ("open", t)
theorem sC_O : ¬ (("closed" : Str) = "open") := by decide +kernel
theorem sH_O : ¬ (("half" : Str) = "open") := by decide +kernel
theorem sO_C : ¬ (("open" : Str) = "closed") := by decide +kernel
theorem sH_C : ¬ (("half" : Str) = "closed") := by decide +kernel
theorem sC_H : ¬ (("closed" : Str) = "half") := by decide +kernel
theorem sO_H : ¬ (("open" : Str) = "half") := by decide +kernel
theorem hf_closed (n : Int) : hfS (("closed" : Str), n) = (("closed" : Str), n) := if_neg sC_O
theorem hf_half (n : Int) : hfS (("half" : Str), n) = (("half" : Str), n) := if_neg sH_O
theorem hf_open (n : Int) : hfS (("open" : Str), n) = (("half" : Str), 0) := if_pos rfl
/-- what is told of a request that k of n breakers pass -/
def outV (n k : Nat) (inS : Bool) : List V := if k < n then [.str "rejected", .int k] else if inS then [.str "failed"] else [.str "served"]
def okW (s : StD) : Prop := s.1 = "closed" ∨ s.1 = "open" ∨ s.1 = "half"
def stD (s : StD) : PyData := .tuple [.str s.1, .int s.2]
theorem Sts.dp {K : PySem.W.Frag} {H : Hp} : ∀ {xs : List V} {ss : List StD}, Sts H xs ss → DpAll K H xs (ss.map stD)
  | _, _, .nil => .nil
  | _, _, .cons ⟨a, e, h⟩ t => by
    subst e
    exact .cons (.tup (SqT.of h) (.cons (.str _) (.cons (.int _) .nil))) (Sts.dp t)
theorem stD_eq (s u : StD) : PyData.eqv (stD s) (stD u) = decide (s = u) := by
  obtain ⟨a, b⟩ := s
  obtain ⟨a', b'⟩ := u
  simp only [stD, PyData.eqv, PyData.eqvAll, Bool.and_true]
  rw [Bool.eq_iff_iff]
  simp [Prod.ext_iff]
theorem stDs_eq : ∀ ss us : List StD, PyData.eqvAll (ss.map stD) (us.map stD) = decide (ss = us)
  | [], [] => by simp [PyData.eqvAll]
  | [], _ :: _ => by simp [PyData.eqvAll]
  | _ :: _, [] => by simp [PyData.eqvAll]
  | t :: ts, u :: us => by
    rw [List.map_cons, List.map_cons, PyData.eqvAll, stD_eq, stDs_eq ts us, Bool.eq_iff_iff]
    simp
theorem sok_W {s : StD} (h : okW s) : PyData.strOk s.1 = true := by
  obtain ⟨a, b⟩ := s
  rcases h with h | h | h
  · have h : a = "closed" := h
    subst h
    show PyData.strOk "closed" = true
    decide +kernel
  · have h : a = "open" := h
    subst h
    show PyData.strOk "open" = true
    decide +kernel
  · have h : a = "half" := h
    subst h
    show PyData.strOk "half" = true
    decide +kernel
theorem canSts : ∀ {ss : List StD}, (∀ s ∈ ss, okW s) → PyData.canLayAll0 (ss.map stD) = true
  | [], _ => by simp [PyData.canLayAll0]
  | t :: ts, h => by
    rw [List.map_cons, PyData.canLayAll0, canSts fun s hs => h s (List.mem_cons_of_mem _ hs)]
    simp [stD, PyData.canLay0, PyData.canLayAll0, sok_W (h t (List.mem_cons_self ..))]
theorem depSts : ∀ ss : List StD, PyData.depthAll (ss.map stD) ≤ 10
  | [] => by simp [PyData.depthAll]
  | t :: ts => by
    have := depSts ts
    rw [List.map_cons, PyData.depthAll]
    have h2 : (stD t).depth ≤ 10 := by simp [stD, PyData.depth, PyData.depthAll]
    omega
theorem shSts {ss : List StD} (h : ∀ s ∈ ss, okW s) : SeqAt.shaped (.list (ss.map stD)) = true := by
  refine Bool.and_eq_true_iff.mpr ⟨?_, decide_eq_true ?_⟩
  · rw [PyData.canLay0]
    exact canSts h
  · have := depSts ss
    rw [PyData.depth]
    omega
theorem Sts.dpl {K : PySem.W.Frag} {H : Hp} {l : Addr} {ys : List V} {ss : List StD} (h : H l = some (.lst ys)) (s : Sts H ys ss) : Dp K H (.ref l) (.list (ss.map stD)) := .lst (SqL.of h) s.dp
theorem eqSts (ss us : List StD) : PyData.eqv (.list (ss.map stD)) (.list (us.map stD)) = decide (ss = us) := by
  rw [PyData.eqv]
  exact stDs_eq ss us
/-! ### the states before all requests -/
theorem sts_rep {H : Hp} {t : Addr} {d : StD} (h : H t = some (.tup [.str d.1, .int d.2])) : ∀ n : Nat, Sts H (List.replicate n (V.ref t)) (List.replicate n d)
  | 0 => .nil
  | n + 1 => .cons ⟨t, rfl, h⟩ (sts_rep h n)
def spClosed : Sp := fun vs H Q _ => ∃ n : Nat, vs = [.int n] ∧ n ≤ 100 ∧ ∀ l ys H', H' l = some (.lst ys) → Sts H' ys (List.replicate n ("closed", 0)) → Same H H' → H l = none → Q (.ref l) H'
section
variable {P : Program} {w : World} {K : PySem.W.Frag} {mg : Str → Option Value} {base : Heap} {L : LA}
abbrev N_closedstates : List Str := ["number"]
theorem sc_closedstates : FnScope N_closedstates ["number"] (defScope st_closed_states) := ⟨rfl, rfl, rfl, by decide +kernel, rfl, by decide +kernel, by decide +kernel⟩
theorem fn_closedstates (T : LX K mg L) {fd : FuncData} (F : Fun K "closed_states" "closed_states" st_closed_states L.f_closed_states fd) : FnOk P w K mg base CX0 3 L.f_closed_states fd ["number"] (spClosed) := by
  have nd := sc_closedstates.nd
  refine F.ok sc_closedstates (fun vs H Q E h => ?_) (fun cdv A outer S H vs Q E hr h => ?_)
  · obtain ⟨n, rfl, _⟩ := h
    rfl
  · obtain ⟨n, rfl, hn, k⟩ := h
    refine ⟨_, (pss_one (ps_ret (pe_op op_rep (pe_lst (pa_cons (pe_tup (pa_cons pe_str (pa_cons pe_int pa_nil))) pa_nil)) (pv 0)))), ?_⟩
    refine ⟨(by show 2 ≤ sizeLine; decide), fun t ht => ⟨(by show 1 ≤ sizeLine; decide), fun l hl => ?_⟩⟩
    have s1 := Same.upd (o := .tup [.str "closed", .int 0]) ht
    have s2 := s1.trans (Same.upd (o := .lst [.ref t]) hl)
    refine ⟨_, rfl, ?_⟩
    refine ⟨l, _, [.ref t], rfl, rfl, upd_same, by omega, by omega, small2 (by rw [Int.toNat_natCast]; show 1 * n ≤ 100000; omega), fun r hr => ?_⟩
    have s3 := s2.trans (Same.upd (o := .lst (List.replicate (n : Int).toNat [V.ref t]).flatten) hr)
    refine k r _ _ upd_same ?_ s3 (none_of s2 hr)
    rw [Int.toNat_natCast, List.flatten_replicate_singleton]
    have ht3 : (upd (upd (upd H t (.tup [.str "closed", .int 0])) l (.lst [.ref t])) r (.lst (List.replicate n (V.ref t)))) t = some (.tup [.str "closed", .int 0]) := by
      have h1 : (upd (upd H t (.tup [.str "closed", .int 0])) l (.lst [.ref t])) t = some (.tup [.str "closed", .int 0]) := (Same.upd hl) _ _ upd_same
      rw [upd_ne (ne_of_none h1 hr)]
      exact h1
    exact sts_rep ht3 n
theorem ok_closedstates (T : LX K mg L) : Cal P w K mg base "closed_states" 3 L.f_closed_states ["number"] (spClosed) := T.d_closed_states.cal fun fd F => fn_closedstates T F
end
/-! ### lists of ints as data; what the law asks of told times -/
def intsD (ns : List Int) : PyData := .list (ns.map PyData.int)
theorem ints_dp {K : PySem.W.Frag} {H : Hp} : ∀ ns : List Int, DpAll K H (ns.map V.int) (ns.map PyData.int)
  | [] => .nil
  | n :: ns => .cons (.int n) (ints_dp ns)
theorem canInts : ∀ ns : List Int, PyData.canLayAll0 (ns.map PyData.int) = true
  | [] => by simp [PyData.canLayAll0]
  | n :: ns => by rw [List.map_cons, PyData.canLayAll0, canInts ns]; simp [PyData.canLay0]
theorem depInts : ∀ ns : List Int, PyData.depthAll (ns.map PyData.int) ≤ 10
  | [] => by simp [PyData.depthAll]
  | n :: ns => by
    have := depInts ns
    rw [List.map_cons, PyData.depthAll]
    have h2 : (PyData.int n).depth ≤ 10 := by simp [PyData.depth]
    omega
theorem shInts (ns : List Int) : SeqAt.shaped (intsD ns) = true := by
  refine Bool.and_eq_true_iff.mpr ⟨?_, decide_eq_true ?_⟩
  · unfold intsD
    rw [PyData.canLay0]
    exact canInts ns
  · have := depInts ns
    unfold intsD
    rw [PyData.depth]
    omega
theorem eqInts1 : ∀ ns ms : List Int, PyData.eqvAll (ns.map PyData.int) (ms.map PyData.int) = decide (ns = ms)
  | [], [] => by simp [PyData.eqvAll]
  | [], _ :: _ => by simp [PyData.eqvAll]
  | _ :: _, [] => by simp [PyData.eqvAll]
  | n :: ns, m :: ms => by
    rw [List.map_cons, List.map_cons, PyData.eqvAll, eqInts1 ns ms, Bool.eq_iff_iff]
    simp [PyData.eqv]
theorem eqInts (ns ms : List Int) : PyData.eqv (intsD ns) (intsD ms) = decide (ns = ms) := by
  unfold intsD
  rw [PyData.eqv]
  exact eqInts1 ns ms
theorem Dp.ints {K : PySem.W.Frag} {H : Hp} {a : Addr} {ns : List Int} (h : H a = some (.lst (ns.map V.int))) : Dp K H (.ref a) (intsD ns) := .lst (SqL.of h) (ints_dp ns)
/-! ### rules inside comprehensions -/
theorem call_lenK {X : Cx} {K : PySem.W.Frag} (h : X.K = K) : CallR X (.builtin "len") (fun xs H Q => ∃ p ys, xs = [.ref p] ∧ (SqL K H p ys ∨ SqT K H p ys) ∧ Q (.int ys.length) H) := h ▸ call_len_seq
theorem call_listK {X : Cx} {K : PySem.W.Frag} (h : X.K = K) : CallR X (.type "list") (fun xs H Q => ∃ p ys, xs = [.ref p] ∧ (SqL K H p ys ∨ SqT K H p ys) ∧ ∀ l, H l = none → Q (.ref l) (upd H l (.lst ys))) := h ▸ call_list_of
theorem op_neDK {X : Cx} {K : PySem.W.Frag} (h : X.K = K) (hu : X.A.units + 64 < cLine) : OpR X (compareOp .NotEq) (rNeD K) := h ▸ op_neD hu
theorem op_eqDK {X : Cx} {K : PySem.W.Frag} (h : X.K = K) (hu : X.A.units + 64 < cLine) : OpR X (compareOp .Eq) (rEqD K) := h ▸ op_eqD hu
theorem op_inK {X : Cx} {K : PySem.W.Frag} (h : X.K = K) : OpR X (compareOp CmpOp.In) (rIn K false) := h ▸ op_in_seq
theorem op_notInK {X : Cx} {K : PySem.W.Frag} (h : X.K = K) : OpR X (compareOp CmpOp.NotIn) (rIn K true) := h ▸ op_notIn_seq
/-! ### list.count of strings -/
def eqs (k : Str) (v : Value) : Bool := match v with
  | .str n _ => n == k
  | _ => false
def rCntS (K : PySem.W.Frag) : V → List V → Hp → VK → Prop := fun x xs H Q => ∃ (p : Addr) (ss : List Str) (k : Str), x = .ref p ∧ xs = [.str k] ∧ SqL K H p (ss.map V.str) ∧ Q (.int (ss.countP (fun y => decide (y = k)) : Nat)) H
theorem eqs_at {k : Str} {t : Tok} {A : Around} {s : Shared} : ∀ {ss : List Str} {us : List Value}, Vals (ss.map V.str) us → ∀ y ∈ us, SeqAt.EqAt A s y (.str k t) (eqs k y)
  | [], us, r => by
    rw [List.map_nil] at r
    cases r
    exact fun y hy => nomatch hy
  | n :: ss, us, r => by
    rw [List.map_cons] at r
    cases r with
    | cons r1 r2 =>
      obtain ⟨t', rfl⟩ := r1
      intro y hy
      rcases List.mem_cons.mp hy with q | q
      · rw [q]
        exact SeqAt.EqAt.str_str n t' k t
      · exact eqs_at r2 y q
theorem eqs_count {k : Str} : ∀ {ss : List Str} {us : List Value}, Vals (ss.map V.str) us → us.countP (eqs k) = ss.countP fun y => decide (y = k)
  | [], us, r => by
    rw [List.map_nil] at r
    cases r
    rfl
  | n :: ss, us, r => by
    rw [List.map_cons] at r
    cases r with
    | cons r1 r2 =>
      obtain ⟨t', rfl⟩ := r1
      have ih := eqs_count (k := k) r2
      rw [List.countP_cons, List.countP_cons, ih]
      rfl
theorem mt_scount {X : Cx} : MtR X "list.count" (rCntS X.K) := by
  intro pins s σ H x xs v us Q I rx rxs h
  obtain ⟨p, ns, k, rfl, rfl, hs, q⟩ := h
  cases rx
  obtain ⟨u, rfl, ru⟩ := rxs.one
  obtain ⟨t, rfl⟩ := ru
  obtain ⟨its, rv, ⟨⟨cls, dd, data, sl⟩, n, ho, hc, hdn, hd⟩, hlen⟩ := I.list hs
  simp only at hc hd
  subst hc hd
  refine call_meets PySem.F.slot_list_count ⟨_, ho, rfl⟩ PySem.F.entry_list_count (PySem.F.args_list_count_2 _ _)
    (SeqAt.list_countAt p its.toArray n dd sl (.str k t) (eqs k)) ⟨ho, fun y hy => eqs_at rv y (by simpa using hy), ?_⟩
  have ec : its.toArray.toList.countP (eqs k) = ns.countP fun y => decide (y = k) := eqs_count rv
  refine ⟨.int (ns.countP (fun y => decide (y = k)) : Nat), H, I.tok _, ⟨s.toks, ?_⟩, q⟩
  show Value.int ((its.toArray.toList.countP (eqs k) : Nat) : Int) s.toks = Value.int ((ns.countP (fun y => decide (y = k)) : Nat) : Int) s.toks
  rw [ec]
/-- a comprehension over enumerate -/
theorem lc_enum {K : PySem.W.Frag} {a : Addr} {xs : List V} {g : TG} {tt : TT} {te : TE} {vs : List Nat} {σ : L2.St} {H1 : Hp} {D : Addr} {Qd : Hp → Prop} (Pv : Nat → Hp → Prop) (h0 : Pv 0 (upd H1 D (.lst []))) (hl : ∀ i H, Pv i H → SqL K H a xs)
    (hs : ∀ (i : Nat) (x : V) (T : Addr) (H : Hp), xs[i]? = some x → Pv i H → H T = none → g (.ref T) (wipe σ vs) (upd H T (.tup [.int (i : Nat), x])) fun σ2 H2 => wipe σ2 vs = wipe σ vs ∧ tt σ2 H2 fun b H3 =>
      if b = true then te σ2 H3 fun y H4 => ∃ acc, H4 D = some (.lst acc) ∧ acc.length < sizeLine ∧ Pv (i + 1) (upd H4 D (.lst (acc ++ [y]))) else Pv (i + 1) H3) (hd : ∀ H, Pv xs.length H → Qd H) :
    ∃ W : Nat → Nat → Hp → Prop, (∃ m, W 0 m (upd H1 D (.lst []))) ∧ ∀ i m H, W i m H → ((Ite K a).stop i H ∧ Qd H) ∨ ((Ite K a).go i H ∧ ∃ Nx : Hp → Prop, (∀ H', Nx H' → ∃ m', m' < m ∧ W (i + 1) m' H') ∧ ∀ x H', (Ite K a).yld i H x H' → g x (wipe σ vs) H' fun σ2 H2 => wipe σ2 vs = wipe σ vs ∧ tt σ2 H2 fun b H3 =>
        if b = true then te σ2 H3 fun y H4 => ∃ acc, H4 D = some (.lst acc) ∧ acc.length < sizeLine ∧ Nx (upd H4 D (.lst (acc ++ [y]))) else Nx H3) := by
  refine ⟨fun i m H => m = xs.length - i ∧ i ≤ xs.length ∧ Pv i H, ⟨xs.length, by omega, Nat.zero_le _, h0⟩, ?_⟩
  rintro i m H ⟨rfl, hi, p⟩
  have q := hl i H p
  by_cases hlt : i < xs.length
  · refine .inr ⟨⟨xs, xs[i], q, List.getElem?_eq_getElem hlt⟩, Pv (i + 1), fun H' p' => ⟨xs.length - (i + 1), by omega, rfl, hlt, p'⟩, fun v H' y => ?_⟩
    obtain ⟨T, x', rfl, hT, rfl, f⟩ := y
    exact hs i x' T H (f xs q) p hT
  · have e : i = xs.length := by omega
    subst e
    exact .inl ⟨⟨xs, q, Nat.le_refl _⟩, hd H p⟩
theorem op_powW {X : Cx} : OpR X (binaryOp .Pow) (rI (fun i j => 0 ≤ j ∧ (Builtin.Int.intBits i : Int) * j ≤ 2 ^ 27) fun i j => .int (i ^ j.toNat)) := opI fun _ _ _ _ _ _ _ hc q => PyProof.Rows.pow_int hc.1 hc.2 q
/-! ### zip of a tuple and a list -/
section
open PySem.Builtin.SmallTypes
/-- what next() walks: an iterator over a sequence -/
structure Wk (prog : Program) (w : World) where
  it : Heap → Addr → Addr → Nat → Prop
  sq : Heap → Addr → Array Value → Prop
  itx : ∀ {g g' : Heap} {a b l : Addr} {n : Nat}, it g a l n → Heap.ExtBut b g g' → a ≠ b → it g' a l n
  sqx : ∀ {g g' : Heap} {a b : Addr} {xs : Array Value}, sq g a xs → Heap.ExtBut b g g' → a ≠ b → sq g' a xs
  ita : ∀ {g g' : Heap} {a l : Addr} {n : Nat}, it g a l n → (∀ o, g.get? a = some o → g'.get? a = some o) → it g' a l n
  ito : ∀ {g : Heap} {a l : Addr} {n : Nat}, it g a l n → ∃ o, g.get? a = some o ∧ ∃ f, o.data = .fields f
  nxt : ∀ {A : Around} {E : Value → Shared → Prop} {s : Shared} {a l : Addr} {n : Nat} {xs : Array Value} {x : Value} {Q : Value → Shared → Prop}, it s.heap a l n → sq s.heap l xs → xs[n]? = some x →
    (∀ g, it g a l (n + 1) → Heap.SameBut a s.heap g → Q x { s with heap := g }) → wpAny (model prog w) A (nextOf (.ref a)) Q E s
  fin : ∀ {A : Around} {E : Value → Shared → Prop} {s : Shared} {a l : Addr} {n : Nat} {xs : Array Value} {Q : Value → Shared → Prop}, A.handled = none → it s.heap a l n → sq s.heap l xs → xs[n]? = none →
    (∀ g e, Heap.ExtBut a s.heap g → (∃ o, g.get? e = some o ∧ o.cls = .type "StopIteration") → E (.ref e) { s with heap := g }) → wpAny (model prog w) A (nextOf (.ref a)) Q E s
def wkL (prog : Program) (w : World) : Wk prog w where
  it := Heap.IsListIter
  sq := Heap.IsList
  itx := fun x h n => x.extBut h n
  sqx := fun x h n => x.extBut h n
  ita := fun x e => x.at e
  ito := fun x => by obtain ⟨o, e, _, d⟩ := x; exact ⟨o, e, _, d⟩
  nxt := fun a b c d => wpAny_nextOf_list_item a b c d
  fin := fun a b c d e => wpAny_nextOf_list_end a b c d e
def wkT (prog : Program) (w : World) : Wk prog w where
  it := Heap.IsTupleIter
  sq := Heap.IsTuple
  itx := fun x h n => x.extBut h n
  sqx := fun x h n => x.extBut h n
  ita := fun x e => x.at e
  ito := fun x => by obtain ⟨o, e, _, d⟩ := x; exact ⟨o, e, _, d⟩
  nxt := fun a b c d => RZ.nextOf_tuple_item a b c d
  fin := fun a b c d e => RZ.nextOf_tuple_end a b c d e
section
variable {prog : Program} {w : World} {A : Around} {E : Value → Shared → Prop} {s : Shared} (U V : Wk prog w)
/-- the kept of a step -/
def Kz (z T i j : Addr) (g g' : Heap) : Prop := ∀ c o, c ≠ z → c ≠ T → c ≠ i → c ≠ j → g.get? c = some o → g'.get? c = some o
theorem zw_item {z T R i j a b : Addr} {m n : Nat} {xs ys : Array Value} {x y p q : Value} {Q : Value → Shared → Prop} (D : ZipApart z T R i j a b) (hz : IsZip s.heap z T R .none) (hT : IsPair s.heap T (.ref i) (.ref j)) (hR : IsPair s.heap R p q)
    (hi : U.it s.heap i a m) (hj : V.it s.heap j b n) (ha : U.sq s.heap a xs) (hb : V.sq s.heap b ys) (ex : xs[m]? = some x) (ey : ys[n]? = some y)
    (k : ∀ g, IsZip g z T R (rawInt s.heap.objs.size) → IsPair g R x y → U.it g i a (m + 1) → V.it g j b (n + 1) → IsPair g s.heap.objs.size x y → g.objs.size = s.heap.objs.size + 1 → Kz z R i j s.heap g → Q (.ref s.heap.objs.size) { s with heap := g }) :
    wpAny (model prog w) A (Builtin.«zip.__next__» ⟨[.ref z], []⟩) (fun r s' => ∃ v, r = .done (.ret v) ∧ Q v s') E s := by
  show wpAny _ _ (field (.ref z) 2 >>= fun _ => _) _ _ _
  refine wpAny_bind (wpAny_field hz rfl (x := .bool false) rfl (show wpAny _ _ (field (.ref z) 3 >>= fun _ => _) _ _ _ from ?_))
  refine wpAny_bind (wpAny_field hz rfl (x := .ref T) rfl (wpAny_bind (wpAny_seqItems hT rfl (show wpAny _ _ (ownedTupleIsFree (.ref z) >>= fun _ => _) _ _ _ from wpAny_bind ?_))))
  unfold Builtin.SmallTypes.ownedTupleIsFree
  refine wpAny_bind (wpAny_field hz rfl (x := .none) rfl (wpAny_pure ?_)); simp only [if_true]
  refine wpAny_bind (wpAny_rule (wpAny_bind (wpAny_field hz rfl (x := .ref R) rfl (wpAny_bind (wpAny_setField_rec hz (by simp) fun g1 z1 s1 => ?_)))))
  replace z1 : IsZip g1 z T R .ellipsis := z1
  refine wpAny_bind ?_; simp only [List.zipIdx_cons, List.zipIdx_nil, List.forIn_cons, List.forIn_nil]
  refine wpAny_bind (wpAny_bind (wpAny_onRaise (show wpAny _ _ (nextOf (.ref i) >>= fun _ => _) _ _ _ from ?_)))
  refine wpAny_bind (U.nxt (U.itx hi s1.extBut D.i1z) (U.sqx ha s1.extBut D.l1z) ex fun g2 i2 s2 => wpAny_pure ?_)
  have R2 : IsPair g2 R p q := s2.extBut _ _ D.TOi1 (s1.extBut _ _ D.TOz hR)
  refine wpAny_bind (wpAny_seqItems R2 rfl (wpAny_bind (wpAny_updateSeq_pair R2 fun g3 R3 s3 => wpAny_bind (wpAny_letGo (wpAny_pure ?_)))))
  replace R3 : IsPair g3 R x q := R3
  refine wpAny_bind (wpAny_bind (wpAny_onRaise (show wpAny _ _ (nextOf (.ref j) >>= fun _ => _) _ _ _ from ?_)))
  refine wpAny_bind (V.nxt (V.itx (V.itx (V.itx hj s1.extBut D.i2z) s2.extBut D.i12.symm) s3.extBut D.TOi2.symm) (V.sqx (V.sqx (V.sqx hb s1.extBut D.l2z) s2.extBut D.l2i1) s3.extBut D.l2TO) ey fun g4 j4 s4 => wpAny_pure ?_)
  have R4 : IsPair g4 R x q := s4.extBut _ _ D.TOi2 R3
  refine wpAny_bind (wpAny_seqItems R4 rfl (wpAny_bind (wpAny_updateSeq_pair R4 fun g5 R5 s5 => wpAny_bind (wpAny_letGo (wpAny_pure (wpAny_pure ?_))))))
  replace R5 : IsPair g5 R x y := R5
  refine wpAny_bind (wpAny_seqItems R5 rfl (wpAny_bind (wpAny_newTuple ?_)))
  have e5 : g5.objs.size = s.heap.objs.size := by rw [s5.1, s4.1, s3.1, s2.1, s1.1]
  have z5 : IsZip g5 z T R .ellipsis := s5.extBut _ _ D.TOz.symm (s4.extBut _ _ D.i2z.symm (s3.extBut _ _ D.TOz.symm (s2.extBut _ _ D.i1z.symm z1)))
  have k5 : Kz z R i j s.heap g5 := fun c o c1 c2 c3 c4 e => s5.extBut _ _ c2 (s4.extBut _ _ c4 (s3.extBut _ _ c2 (s2.extBut _ _ c3 (s1.extBut _ _ c1 e))))
  have i5 : U.it g5 i a (m + 1) := U.itx (U.itx (U.itx i2 s3.extBut D.TOi1.symm) s4.extBut D.i12) s5.extBut D.TOi1.symm
  have j5 : V.it g5 j b (n + 1) := V.itx j4 s5.extBut D.TOi2.symm
  show wpAny _ _ (ownedTupleHandOut (.ref z) (.ref g5.objs.size) >>= fun _ => _) _ _ _
  refine wpAny_bind ?_; unfold Builtin.SmallTypes.ownedTupleHandOut
  have z6 : IsZip (g5.push { cls := .type "tuple", data := .seq #[x, y] }) z T R .ellipsis := Heap.get?_push_of_some _ z5
  refine wpAny_bind (wpAny_setField_rec z6 (by simp) fun g7 z7 s7 => ?_)
  replace z7 : IsZip g7 z T R (rawInt g5.objs.size) := z7
  refine wpAny_setField_rec z7 (by simp) fun g8 z8 s8 => ?_
  replace z8 : IsZip g8 z T R (rawInt g5.objs.size) := z8
  have up : ∀ c o, c ≠ z → g5.get? c = some o → g8.get? c = some o := fun c o c1 e => s8.extBut _ _ c1 (s7.extBut _ _ c1 (Heap.get?_push_of_some _ e))
  have T8 : IsPair g8 g5.objs.size x y := s8.extBut _ _ (Nat.ne_of_gt (Heap.lt_size z5)) (s7.extBut _ _ (Nat.ne_of_gt (Heap.lt_size z5)) (Heap.get?_push_size _ rfl))
  have e8 : g8.objs.size = g5.objs.size + 1 := by rw [s8.1, s7.1, Heap.size_push]
  rw [e5] at z8 T8 e8
  refine wpAny_pure ⟨_, rfl, (show Q (.ref g5.objs.size) _ from ?_)⟩
  rw [e5]
  exact k g8 z8 (up _ _ D.TOz R5) (U.ita i5 fun o e => up _ o D.i1z e) (V.ita j5 fun o e => up _ o D.i2z e) T8 e8 fun c o c1 c2 c3 c4 e => up c o c1 (k5 c o c1 c2 c3 c4 e)
theorem zw_fin {z T R i j a b : Addr} {m n : Nat} {xs ys : Array Value} {p q : Value} {Q : Fin → Shared → Prop} (hh : A.handled = none) (D : ZipApart z T R i j a b) (hz : IsZip s.heap z T R .none) (hT : IsPair s.heap T (.ref i) (.ref j)) (hR : IsPair s.heap R p q)
    (hi : U.it s.heap i a m) (hj : V.it s.heap j b n) (ha : U.sq s.heap a xs) (hb : V.sq s.heap b ys) (en : xs[m]? = none ∨ ys[n]? = none)
    (k : ∀ g e, Kz z R i j s.heap g → (∃ o, g.get? e = some o ∧ o.cls = .type "StopIteration") → E (.ref e) { s with heap := g }) :
    wpAny (model prog w) A (Builtin.«zip.__next__» ⟨[.ref z], []⟩) Q E s := by
  show wpAny _ _ (field (.ref z) 2 >>= fun _ => _) _ _ _
  refine wpAny_bind (wpAny_field hz rfl (x := .bool false) rfl (show wpAny _ _ (field (.ref z) 3 >>= fun _ => _) _ _ _ from ?_))
  refine wpAny_bind (wpAny_field hz rfl (x := .ref T) rfl (wpAny_bind (wpAny_seqItems hT rfl (show wpAny _ _ (ownedTupleIsFree (.ref z) >>= fun _ => _) _ _ _ from wpAny_bind ?_))))
  unfold Builtin.SmallTypes.ownedTupleIsFree
  refine wpAny_bind (wpAny_field hz rfl (x := .none) rfl (wpAny_pure ?_)); simp only [if_true]
  refine wpAny_bind (wpAny_rule (wpAny_bind (wpAny_field hz rfl (x := .ref R) rfl (wpAny_bind (wpAny_setField_rec hz (by simp) fun g1 z1 s1 => ?_)))))
  replace z1 : IsZip g1 z T R .ellipsis := z1
  refine wpAny_bind ?_; simp only [List.zipIdx_cons, List.zipIdx_nil, List.forIn_cons, List.forIn_nil]
  refine wpAny_bind (wpAny_bind (wpAny_onRaise (show wpAny _ _ (nextOf (.ref i) >>= fun _ => _) _ _ _ from ?_)))
  cases ex : xs[m]? with
  | none =>
    refine wpAny_bind (U.fin hh (U.itx hi s1.extBut D.i1z) (U.sqx ha s1.extBut D.l1z) ex fun g2 e s2 he => ?_)
    obtain ⟨oe, h1, h2⟩ := he
    have z2 : IsZip g2 z T R .ellipsis := s2 _ _ D.i1z.symm z1
    have ne : e ≠ z := fun c => by subst c; rw [z2] at h1; cases h1; simp at h2
    exact wpAny_setField_rec z2 (by simp) fun g3 _ s3 => k g3 e (fun c o c1 _ c3 _ r => s3.extBut _ _ c1 (s2 _ _ c3 (s1.extBut _ _ c1 r))) ⟨oe, s3.extBut _ _ ne h1, h2⟩
  | some x =>
    have ey : ys[n]? = none := by rcases en with h | h; (rw [ex] at h; cases h); exact h
    refine wpAny_bind (U.nxt (U.itx hi s1.extBut D.i1z) (U.sqx ha s1.extBut D.l1z) ex fun g2 i2 s2 => wpAny_pure ?_)
    have R2 : IsPair g2 R p q := s2.extBut _ _ D.TOi1 (s1.extBut _ _ D.TOz hR)
    refine wpAny_bind (wpAny_seqItems R2 rfl (wpAny_bind (wpAny_updateSeq_pair R2 fun g3 R3 s3 => wpAny_bind (wpAny_letGo (wpAny_pure ?_)))))
    refine wpAny_bind (wpAny_bind (wpAny_onRaise (show wpAny _ _ (nextOf (.ref j) >>= fun _ => _) _ _ _ from ?_)))
    refine wpAny_bind (V.fin hh (V.itx (V.itx (V.itx hj s1.extBut D.i2z) s2.extBut D.i12.symm) s3.extBut D.TOi2.symm) (V.sqx (V.sqx (V.sqx hb s1.extBut D.l2z) s2.extBut D.l2i1) s3.extBut D.l2TO) ey fun g4 e s4 he => ?_)
    obtain ⟨oe, h1, h2⟩ := he
    have z4 : IsZip g4 z T R .ellipsis := s4 _ _ D.i2z.symm (s3.extBut _ _ D.TOz.symm (s2.extBut _ _ D.i1z.symm z1))
    have ne : e ≠ z := fun c => by subst c; rw [z4] at h1; cases h1; simp at h2
    exact wpAny_setField_rec z4 (by simp) fun g5 _ s5 => k g5 e (fun c o c1 c2 c3 c4 r => s5.extBut _ _ c1 (s4 _ _ c4 (s3.extBut _ _ c2 (s2.extBut _ _ c3 (s1.extBut _ _ c1 r))))) ⟨oe, s5.extBut _ _ ne h1, h2⟩
theorem zw_next {z T R i j a b : Addr} {m n : Nat} {xs ys : Array Value} {x y p q : Value} {Q : Option Value → Shared → Prop} (D : ZipApart z T R i j a b) (hz : IsZip s.heap z T R .none) (hT : IsPair s.heap T (.ref i) (.ref j)) (hR : IsPair s.heap R p q)
    (hi : U.it s.heap i a m) (hj : V.it s.heap j b n) (ha : U.sq s.heap a xs) (hb : V.sq s.heap b ys) (ex : xs[m]? = some x) (ey : ys[n]? = some y)
    (k : ∀ g, IsZip g z T R (rawInt s.heap.objs.size) → IsPair g R x y → U.it g i a (m + 1) → V.it g j b (n + 1) → IsPair g s.heap.objs.size x y → g.objs.size = s.heap.objs.size + 1 → Kz z R i j s.heap g → Q (some (.ref s.heap.objs.size)) { s with heap := g }) :
    wpAny (model prog w) A (pyNext (.ref z)) Q E s := by
  have hT' : s.TypeIs (.ref z) "zip" := ⟨_, hz, rfl⟩
  unfold pyNext
  exact wpAny_bind (wpAny_attempt (wpAny_callSpecial?_slot (name := Str.ofString "__next__") hT' F.slot_zip_next (wpAny_call_entry F.slot_zip_next hT' F.entry_zip_next
    (zw_item U V D hz hT hR hi hj ha hb ex ey fun g a1 a2 a3 a4 a5 a6 a7 => wpAny_pure (k g a1 a2 a3 a4 a5 a6 a7)) (F.args_zip_next_1 _))))
theorem zw_done {z T R i j a b : Addr} {m n : Nat} {xs ys : Array Value} {p q : Value} {Q : Option Value → Shared → Prop} (hh : A.handled = none) (D : ZipApart z T R i j a b) (hz : IsZip s.heap z T R .none) (hT : IsPair s.heap T (.ref i) (.ref j)) (hR : IsPair s.heap R p q)
    (hi : U.it s.heap i a m) (hj : V.it s.heap j b n) (ha : U.sq s.heap a xs) (hb : V.sq s.heap b ys) (en : xs[m]? = none ∨ ys[n]? = none) (k : ∀ g, Kz z R i j s.heap g → Q none { s with heap := g }) : wpAny (model prog w) A (pyNext (.ref z)) Q E s := by
  have hT' : s.TypeIs (.ref z) "zip" := ⟨_, hz, rfl⟩
  unfold pyNext
  refine wpAny_bind (wpAny_attempt (wpAny_callSpecial?_slot (name := Str.ofString "__next__") hT' F.slot_zip_next (wpAny_call_entry F.slot_zip_next hT' F.entry_zip_next (zw_fin U V hh D hz hT hR hi hj ha hb en fun g e hk he => ?_) (F.args_zip_next_1 _))))
  obtain ⟨o, ho, hc⟩ := he
  exact wpAny_bind (wpAny_isInstance (T := "StopIteration") (b := true) ⟨o, ho, hc⟩ isSubtype_stop (wpAny_pure (k _ hk)))
end
abbrev zmA (h : Heap) (a : Addr) : Heap := h.push { cls := .type "tuple_iterator", data := .fields #[.ref a, .int 0 0] }
abbrev zmB (h : Heap) (a b : Addr) : Heap := (zmA h a).push { cls := .type "list_iterator", data := .fields #[.ref b, .int 0 0] }
abbrev zmC (h : Heap) (a b : Addr) : Heap := (zmB h a b).push { cls := .type "tuple", data := .seq #[.ref h.objs.size, .ref (zmA h a).objs.size] }
abbrev zmD (h : Heap) (a b : Addr) : Heap := (zmC h a b).push { cls := .type "tuple", data := .seq #[.none, .none] }
abbrev zmE (h : Heap) (a b : Addr) : Heap := (zmD h a b).push { cls := .type "zip", data := .fields #[.none, .bool false, .bool false, .ref (zmB h a b).objs.size, .ref (zmC h a b).objs.size] }
theorem zm_new (a b : Addr) (xs ys : Array Value) :
    Meets (Builtin.«zip.__new__» ⟨[.type "zip", .ref a, .ref b], []⟩) (fun _ R s => s.heap.IsTuple a xs ∧ s.heap.IsList b ys ∧ R (.ok (.ret (.ref (zmD s.heap a b).objs.size))) { s with heap := zmE s.heap a b }) :=
  .of_wp fun prog w A R s h => by
    obtain ⟨hp, g, d, tk, os⟩ := s; obtain ⟨h1, h2, h⟩ := h
    have hsub := sub_zip
    have h3 : Heap.IsTuple (Shared.heap ⟨hp, g, d, tk, os⟩) a xs := h1
    have h4 : Heap.IsList (Shared.heap ⟨hp.push { cls := .type "tuple_iterator", data := .fields #[.ref a, .int 0 0] }, g, d, tk, os⟩) b ys := Heap.IsList.push h2 _
    wp_walk using wpAny_pyIter_tuple h3, wpAny_pyIter_list h4
    exact ⟨_, rfl, h⟩
theorem call_zipM {prog : Program} {w : World} {A : Around} {E : Value → Shared → Prop} {s : Shared} {a b : Addr} {xs ys : Array Value} {Q : Value → Shared → Prop} (h1 : s.heap.IsTuple a xs) (h2 : s.heap.IsList b ys)
    (k : ∀ g, IsZip g (s.heap.objs.size + 4) (s.heap.objs.size + 2) (s.heap.objs.size + 3) .none → IsPair g (s.heap.objs.size + 2) (.ref s.heap.objs.size) (.ref (s.heap.objs.size + 1)) → IsPair g (s.heap.objs.size + 3) .none .none →
      g.IsTupleIter s.heap.objs.size a 0 → g.IsListIter (s.heap.objs.size + 1) b 0 → (∀ c o, s.heap.get? c = some o → g.get? c = some o) → Q (.ref (s.heap.objs.size + 4)) { s with heap := g }) :
    wpAny (model prog w) A (call (.type "zip") [.ref a, .ref b]) Q E s := by
  refine callType_new F.called_zip (by decide) (F.typeCall_zip_2 _ _) (F.newCall_zip_2 _ _) (fun o => F.args_object_init_3 o _ _) F.entry_zip_new (zm_new a b xs ys) ⟨h1, h2, ?_⟩
  have z1 : (zmA s.heap a).objs.size = s.heap.objs.size + 1 := Heap.size_push ..
  have z2 : (zmB s.heap a b).objs.size = s.heap.objs.size + 2 := by rw [Heap.size_push, z1]
  have z3 : (zmC s.heap a b).objs.size = s.heap.objs.size + 3 := by rw [Heap.size_push, z2]
  have z4 : (zmD s.heap a b).objs.size = s.heap.objs.size + 4 := by rw [Heap.size_push, z3]
  have g5 : (zmE s.heap a b).get? (zmD s.heap a b).objs.size = some _ := Heap.get?_push_size _ rfl
  have g4 : (zmE s.heap a b).get? (zmC s.heap a b).objs.size = some _ := Heap.get?_push_of_some _ (Heap.get?_push_size _ rfl)
  have g3 : (zmE s.heap a b).get? (zmB s.heap a b).objs.size = some _ := Heap.get?_push_of_some _ (Heap.get?_push_of_some _ (Heap.get?_push_size _ rfl))
  have g2 : (zmE s.heap a b).get? (zmA s.heap a).objs.size = some _ := Heap.get?_push_of_some _ (Heap.get?_push_of_some _ (Heap.get?_push_of_some _ (Heap.get?_push_size _ rfl)))
  have g1 : (zmE s.heap a b).get? s.heap.objs.size = some _ := Heap.get?_push_of_some _ (Heap.get?_push_of_some _ (Heap.get?_push_of_some _ (Heap.get?_push_of_some _ (Heap.get?_push_size _ rfl))))
  show _ ∧ _
  rw [z2, z3, z4] at g5
  rw [z1, z2] at g3
  rw [z3] at g4
  rw [z1] at g2
  rw [z4]
  exact ⟨⟨_, g5, rfl⟩, k _ g5 g3 g4 ⟨_, g1, rfl, rfl⟩ ⟨_, g2, rfl, rfl⟩ fun c o x => Heap.get?_push_of_some _ (Heap.get?_push_of_some _ (Heap.get?_push_of_some _ (Heap.get?_push_of_some _ (Heap.get?_push_of_some _ x))))⟩
end
section
open PyProof.Rows
/-- the tuple at a and the list at b, item by item in new pairs -/
def ItzM (K : PySem.W.Frag) (a b : Addr) : It :=
  ⟨fun i H => ∃ (xs ys : List V) (x y : V), SqT K H a xs ∧ SqL K H b ys ∧ xs[i]? = some x ∧ ys[i]? = some y,
    fun i H v H' => ∃ T x y, v = .ref T ∧ H T = none ∧ H' = upd H T (.tup [x, y]) ∧ (∀ xs, SqT K H a xs → xs[i]? = some x) ∧ ∀ ys, SqL K H b ys → ys[i]? = some y,
    fun i H => ∃ xs ys : List V, SqT K H a xs ∧ SqL K H b ys ∧ (xs.length ≤ i ∨ ys.length ≤ i)⟩
theorem turn_zipM {P : Program} {w : World} {K : PySem.W.Frag} {elts : List Expr} {kk : Nat} {tpos : Pos} {a b z T R i j : Addr} (D : ZipApart z T R i j a b) :
    Turn P w K (.Tuple elts kk tpos) (ItzM K a b) [z, T, R, i, j] z (fun n h => IsZip h z T R .none ∧ IsPair h T (.ref i) (.ref j) ∧ (∃ x y, IsPair h R x y) ∧ h.IsTupleIter i a n ∧ h.IsListIter j b n) where
  mem := List.mem_cons_self ..
  obj := fun n h st c hc => by
    obtain ⟨hz, hT, ⟨x, y, hR⟩, ⟨o1, e1, _, d1⟩, ⟨o2, e2, _, d2⟩⟩ := st
    simp only [List.mem_cons, List.mem_nil_iff, or_false] at hc
    rcases hc with rfl | rfl | rfl | rfl | rfl
    · exact ⟨_, hz, fun v q => nomatch q⟩
    · exact ⟨_, hT, fun v q => nomatch q⟩
    · exact ⟨_, hR, fun v q => nomatch q⟩
    · exact ⟨o1, e1, fun v q => by rw [d1] at q; cases q⟩
    · exact ⟨o2, e2, fun v q => by rw [d2] at q; cases q⟩
  keep := fun n h h' st k => by
    obtain ⟨hz, hT, ⟨x, y, hR⟩, h1, h2⟩ := st
    exact ⟨k z (by simp) _ hz, k T (by simp) _ hT, ⟨x, y, k R (by simp) _ hR⟩, h1.at fun o q => k i (by simp) o q, h2.at fun o q => k j (by simp) o q⟩
  item := by
    intro X eP ew eK hc n pins s σ H E I hf st hg
    subst eP ew eK
    obtain ⟨hz, hT, ⟨x0, y0, hR⟩, h1, h2⟩ := st
    obtain ⟨xs, ys, x, y, qx, qy, hx, hy⟩ := hg
    obtain ⟨its, rv, p, _⟩ := I.tuple qx
    obtain ⟨its2, rv2, p2, _⟩ := I.list qy
    obtain ⟨u, hu, ru⟩ := rv.get hx
    obtain ⟨u2, hu2, ru2⟩ := rv2.get hy
    have lz : z < s.heap.objs.size := Heap.lt_size hz
    refine zw_next (wkT X.prog X.w) (wkL X.prog X.w) D hz hT hR h1 h2 p p2.isList (x := u) (y := u2) (by simpa using hu) (by simpa using hu2) fun h' z' R' h1' h2' hN hsz hk => ?_
    refine ⟨_, rfl, wpAny_letOwnedTupleGo_zip (s := { s with heap := h' }) z' fun h'' z'' sb => ?_⟩
    have hN2 : h''.get? s.heap.objs.size = some { cls := .type "tuple", data := .seq #[u, u2] } := (sb.2 _ (Nat.ne_of_gt lz)).trans hN
    have new : ObjOk X.prog X.w (upd H s.heap.objs.size (.tup [x, y])) h'' s.heap.objs.size (.tup [x, y]) := ⟨by show 2 ≤ sizeLine; decide, [u, u2], .cons ru (.cons ru2 .nil), ⟨_, hN2, rfl, _, rfl⟩⟩
    have I1 : Inv X pins σ (upd H s.heap.objs.size (.tup [x, y])) { s with heap := h'' } := I.turnedNew (t' := s.toks) (ch := [z, T, R, i, j])
      (fun c o hb q => (sb.2 c (fun r => hb (by simp [r]))).trans (hk c o (fun r => hb (by simp [r])) (fun r => hb (by simp [r])) (fun r => hb (by simp [r])) (fun r => hb (by simp [r])) q)) hf (Nat.le_refl _) new
    refine ⟨.ref s.heap.objs.size, _, I1, rfl, ⟨_, x, y, rfl, I.hok.fresh (Nat.le_refl _), rfl, fun l hl => by rw [I.tuple_inj hl qx]; exact hx, fun l hl => by rw [I.list_inj hl qy]; exact hy⟩, ⟨z'', ?_, ⟨u, u2, ?_⟩, ?_, ?_⟩, fun c hcm => ?_⟩
    · exact (sb.2 _ D.TIz).trans (hk _ _ D.TIz D.TITO D.TIi1 D.TIi2 hT)
    · exact (sb.2 _ D.TOz).trans R'
    · exact (wkT X.prog X.w).ita h1' fun o q => (sb.2 _ D.i1z).trans q
    · exact (wkL X.prog X.w).ita h2' fun o q => (sb.2 _ D.i2z).trans q
    · have lt : c < s.heap.objs.size := by
        have hc2 := hcm
        simp only [List.mem_cons, List.mem_nil_iff, or_false] at hc2
        rcases hc2 with rfl | rfl | rfl | rfl | rfl
        · exact lz
        · exact Heap.lt_size hT
        · exact Heap.lt_size hR
        · obtain ⟨_, e1, _⟩ := h1; exact Heap.lt_size e1
        · obtain ⟨_, e2, _⟩ := h2; exact Heap.lt_size e2
      rw [upd_ne (Nat.ne_of_lt lt)]
      exact (hf c hcm).1
  done := by
    intro X eP ew eK hc n pins s σ H E I hf st hg
    subst eP ew eK
    obtain ⟨hz, hT, ⟨x0, y0, hR⟩, h1, h2⟩ := st
    obtain ⟨xs, ys, qx, qy, hend⟩ := hg
    obtain ⟨its, rv, p, _⟩ := I.tuple qx
    obtain ⟨its2, rv2, p2, _⟩ := I.list qy
    have l1 := rv.length
    have l2 := rv2.length
    have he : its.toArray[n]? = none ∨ its2.toArray[n]? = none := by
      rcases hend with q | q
      · left; simp; omega
      · right; simp; omega
    exact zw_done (wkT X.prog X.w) (wkL X.prog X.w) (I.ok.hd hc) D hz hT hR h1 h2 p p2.isList he fun h' hk => ⟨rfl, I.turnedL (t' := s.toks) (ch := [z, T, R, i, j])
      (fun c o hb q => hk c o (fun r => hb (by simp [r])) (fun r => hb (by simp [r])) (fun r => hb (by simp [r])) (fun r => hb (by simp [r])) q) hf⟩
  self := fun A n s Q E st h => wpAny_pyIter_zip st.1 h
def iZipM (K : PySem.W.Frag) (ta : TA) : TI := fun σ H R => ta σ H fun vs H1 => ∃ a b xs ys, vs = [.ref a, .ref b] ∧ SqT K H1 a xs ∧ SqL K H1 b ys ∧ R (ItzM K a b) H1
theorem pi_zipM {X : Cx} {e e2 : Expr} {ta : TA} {p pos tpos : Pos} {elts : List Expr} {kk : Nat} (hg : Gl X "zip") (hm : X.mg "zip" = none) (ha : PA X [e, e2] ta)
    (hs : starEach [e, e2] X.env = (false, eval e X.env) :: starEach [e2] X.env := by rfl) (hpl : (backTo pos (starEach [e2] X.env)).any (·.1) = false := by rfl) : PI X (.Tuple elts kk tpos) (.Call (.Name "zip" p) [e, e2] [] pos) (iZipM X.K ta) := by
  refine ⟨fun pins s σ H R I w0 => ?_⟩
  refine Call_ (ld_blt I hg hm PyProof.Rows.boot_zip (PyProof.Rows.callWith_type1 (thn (ha.run pos pins s σ H _ I w0) fun us s1 ⟨vs, H1, I1, r1, q1⟩ => ?_) hs hpl))
  obtain ⟨a, b, xs, ys, ex, qx, qy, q⟩ := q1
  subst ex
  cases r1 with
  | cons r rr =>
    cases rr with
    | cons r' rr =>
      cases rr; cases r; cases r'
      obtain ⟨its, rv, p1, _⟩ := I1.tuple qx
      obtain ⟨its2, rv2, p2, _⟩ := I1.list qy
      obtain ⟨o1, ho1, _⟩ := id p1
      have fr : ∀ c, c ∈ [s1.heap.objs.size + 4, s1.heap.objs.size + 2, s1.heap.objs.size + 3, s1.heap.objs.size, s1.heap.objs.size + 1] → FpOk X pins H1 c := fun c hcm => by
        have e' : c = s1.heap.objs.size + 4 ∨ c = s1.heap.objs.size + 2 ∨ c = s1.heap.objs.size + 3 ∨ c = s1.heap.objs.size ∨ c = s1.heap.objs.size + 1 := by simpa using hcm
        have le : s1.heap.objs.size ≤ c := by
          rcases e' with c | c | c | c | c
          · rw [c]; exact Nat.le_add_right _ _
          · rw [c]; exact Nat.le_add_right _ _
          · rw [c]; exact Nat.le_add_right _ _
          · rw [c]; exact Nat.le_refl _
          · rw [c]; exact Nat.le_add_right _ _
        exact I1.fpOk le (I1.hok.fresh le)
      refine call_zipM (show s1.heap.IsTuple a its.toArray from p1) p2.isList fun h' hz hT hR h1 h2 hk => wpAny_pyIter_zip hz ?_
      have I2 : Inv X pins σ H1 { s1 with heap := h' } := I1.kept (t' := s1.toks) hk
      exact ⟨s1.heap.objs.size + 4, [s1.heap.objs.size + 4, s1.heap.objs.size + 2, s1.heap.objs.size + 3, s1.heap.objs.size, s1.heap.objs.size + 1], _, _, H1, rfl, I2, turn_zipM (PySem.W.ktu_apart s1.heap.objs.size a b (Heap.lt_size ho1) p2.lt), ⟨hz, hT, ⟨_, _, hR⟩, h1, h2⟩, fr, q⟩
/-- a comprehension over zip of a tuple and a list -/
theorem lc_zipM {K : PySem.W.Frag} {a b : Addr} {xs ys : List V} {g : TG} {tt : TT} {te : TE} {vs : List Nat} {σ : L2.St} {H1 : Hp} {D : Addr} {Qd : Hp → Prop} (hlen : xs.length ≤ ys.length) (Pv : Nat → Hp → Prop) (h0 : Pv 0 (upd H1 D (.lst []))) (hl : ∀ i H, Pv i H → SqT K H a xs ∧ SqL K H b ys)
    (hs : ∀ (i : Nat) (x y : V) (T : Addr) (H : Hp), xs[i]? = some x → ys[i]? = some y → Pv i H → H T = none → g (.ref T) (wipe σ vs) (upd H T (.tup [x, y])) fun σ2 H2 => wipe σ2 vs = wipe σ vs ∧ tt σ2 H2 fun b H3 =>
      if b = true then te σ2 H3 fun y H4 => ∃ acc, H4 D = some (.lst acc) ∧ acc.length < sizeLine ∧ Pv (i + 1) (upd H4 D (.lst (acc ++ [y]))) else Pv (i + 1) H3) (hd : ∀ H, Pv xs.length H → Qd H) :
    ∃ W : Nat → Nat → Hp → Prop, (∃ m, W 0 m (upd H1 D (.lst []))) ∧ ∀ i m H, W i m H → ((ItzM K a b).stop i H ∧ Qd H) ∨ ((ItzM K a b).go i H ∧ ∃ Nx : Hp → Prop, (∀ H', Nx H' → ∃ m', m' < m ∧ W (i + 1) m' H') ∧ ∀ x H', (ItzM K a b).yld i H x H' → g x (wipe σ vs) H' fun σ2 H2 => wipe σ2 vs = wipe σ vs ∧ tt σ2 H2 fun b H3 =>
        if b = true then te σ2 H3 fun y H4 => ∃ acc, H4 D = some (.lst acc) ∧ acc.length < sizeLine ∧ Nx (upd H4 D (.lst (acc ++ [y]))) else Nx H3) := by
  refine ⟨fun i m H => m = xs.length - i ∧ i ≤ xs.length ∧ Pv i H, ⟨xs.length, by omega, Nat.zero_le _, h0⟩, ?_⟩
  rintro i m H ⟨rfl, hi, p⟩
  obtain ⟨qx, qy⟩ := hl i H p
  by_cases c : i < xs.length
  · have hx : xs[i]? = some xs[i] := List.getElem?_eq_getElem c
    have hy : ys[i]? = some ys[i] := List.getElem?_eq_getElem (by omega)
    refine .inr ⟨⟨xs, ys, _, _, qx, qy, hx, hy⟩, Pv (i + 1), fun H' p' => ⟨xs.length - (i + 1), by omega, rfl, c, p'⟩, fun v H' yl => ?_⟩
    obtain ⟨T, x', y', rfl, hT, rfl, f1, f2⟩ := yl
    exact hs i x' y' T H (f1 xs qx) (f2 ys qy) p hT
  · have e : i = xs.length := by omega
    subst e
    exact .inl ⟨⟨xs, ys, qx, qy, .inl (Nat.le_refl _)⟩, hd H p⟩
end
/-! ### one request, by the law -/
def mixE (bs : List Tri) (ss : List StD) (t : Int) (f : Bool) (j k i : Nat) : StD := match bs[i]?, ss[i]? with
  | some b, some s => if i < j then (if f = true then okS b s else badS b s t) else if i < k then hfS s else s
  | _, _ => ("closed", 0)
def mixS (bs : List Tri) (ss : List StD) (t : Int) (f : Bool) (j k : Nat) : List StD := (List.range bs.length).map (mixE bs ss t f j k)
theorem mixE_is {bs : List Tri} {ss : List StD} {t : Int} {f : Bool} {j k i : Nat} {b : Tri} {s : StD} (hb : bs[i]? = some b) (hs : ss[i]? = some s) : mixE bs ss t f j k i = if i < j then (if f = true then okS b s else badS b s t) else if i < k then hfS s else s := by
  unfold mixE
  rw [hb, hs]
theorem mixS_get {bs : List Tri} {ss : List StD} {t : Int} {f : Bool} {j k i : Nat} (h : i < bs.length) : (mixS bs ss t f j k)[i]? = some (mixE bs ss t f j k i) := by
  unfold mixS
  rw [List.getElem?_map, List.getElem?_range h]
  rfl
theorem mixS_len {bs : List Tri} {ss : List StD} {t : Int} {f : Bool} {j k : Nat} : (mixS bs ss t f j k).length = bs.length := by
  unfold mixS
  rw [List.length_map, List.length_range]
theorem map_set {α : Type} {n : Nat} {f g : Nat → α} {i : Nat} {v : α} (hi : i < n) (h1 : v = g i) (h2 : ∀ j, j ≠ i → j < n → f j = g j) : ((List.range n).map f).set i v = (List.range n).map g := by
  refine List.ext_getElem? fun j => ?_
  rw [List.getElem?_set, List.length_map, List.length_range, List.getElem?_map, List.getElem?_map]
  by_cases c : i = j
  · subst c
    rw [if_pos rfl, if_pos hi, List.getElem?_range hi, h1]
    rfl
  · rw [if_neg c]
    by_cases d : j < n
    · rw [List.getElem?_range d]
      exact congrArg some (h2 j (fun e => c e.symm) d)
    · rw [List.getElem?_eq_none (by rw [List.length_range]; omega)]
      rfl
theorem mixS_0 {bs : List Tri} {ss : List StD} {t : Int} {f : Bool} (h : ss.length = bs.length) : mixS bs ss t f 0 0 = ss := by
  refine List.ext_getElem? fun j => ?_
  by_cases c : j < bs.length
  · have hb : bs[j]? = some bs[j] := List.getElem?_eq_getElem c
    have hs : ss[j]? = some (ss[j]'(by omega)) := List.getElem?_eq_getElem (by omega)
    rw [mixS_get c, mixE_is hb hs, hs, if_neg (Nat.not_lt_zero j), if_neg (Nat.not_lt_zero j)]
  · rw [List.getElem?_eq_none (by rw [mixS_len]; omega), List.getElem?_eq_none (by omega)]
theorem mixS_half {bs : List Tri} {ss : List StD} {t : Int} {f : Bool} {i : Nat} {b : Tri} {s : StD} (hb : bs[i]? = some b) (hs : ss[i]? = some s) : (mixS bs ss t f 0 i).set i (hfS s) = mixS bs ss t f 0 (i + 1) := by
  refine map_set (List.getElem?_eq_some_iff.mp hb).1 ?_ fun j ne hj => ?_
  · rw [mixE_is hb hs, if_neg (Nat.not_lt_zero i), if_pos (Nat.lt_succ_self i)]
  · unfold mixE
    cases bs[j]? with
    | none => rfl
    | some b' =>
      cases ss[j]? with
      | none => rfl
      | some s' =>
        show (if j < 0 then _ else if j < i then _ else _) = (if j < 0 then _ else if j < i + 1 then _ else _)
        rw [if_neg (Nat.not_lt_zero j), if_neg (Nat.not_lt_zero j)]
        by_cases c : j < i
        · rw [if_pos c, if_pos (show j < i + 1 by omega)]
        · rw [if_neg c, if_neg (show ¬ j < i + 1 by omega)]
theorem mixS_fin {bs : List Tri} {ss : List StD} {t : Int} {f : Bool} {j k : Nat} {b : Tri} {s : StD} (hb : bs[j]? = some b) (hs : ss[j]? = some s) : (mixS bs ss t f j k).set j (if f = true then okS b s else badS b s t) = mixS bs ss t f (j + 1) k := by
  refine map_set (List.getElem?_eq_some_iff.mp hb).1 ?_ fun i ne hi => ?_
  · rw [mixE_is hb hs, if_pos (Nat.lt_succ_self j)]
  · unfold mixE
    cases bs[i]? with
    | none => rfl
    | some b' =>
      cases ss[i]? with
      | none => rfl
      | some s' =>
        show (if i < j then _ else _) = (if i < j + 1 then _ else _)
        by_cases c : i < j
        · rw [if_pos c, if_pos (show i < j + 1 by omega)]
        · rw [if_neg c, if_neg (show ¬ i < j + 1 by omega)]
theorem mixS_same {bs : List Tri} {ss : List StD} {t : Int} {f g : Bool} {k : Nat} : mixS bs ss t f 0 k = mixS bs ss t g 0 k := by
  refine List.map_congr_left fun i _ => ?_
  unfold mixE
  cases bs[i]? with
  | none => rfl
  | some b' =>
    cases ss[i]? with
    | none => rfl
    | some s' => rfl
theorem mixS_keep {bs : List Tri} {ss : List StD} {t : Int} {f : Bool} {i : Nat} {b : Tri} {s : StD} (hb : bs[i]? = some b) (hs : ss[i]? = some s) (h : hfS s = s) : mixS bs ss t f 0 i = mixS bs ss t f 0 (i + 1) := by
  have hi := (List.getElem?_eq_some_iff.mp hb).1
  rw [← mixS_half hb hs, h]
  refine (List.ext_getElem? fun j => ?_)
  rw [List.getElem?_set, mixS_len]
  by_cases c : i = j
  · subst c
    rw [if_pos rfl, if_pos hi, mixS_get hi, mixE_is hb hs, if_neg (Nat.not_lt_zero i), if_neg (Nat.lt_irrefl i)]
  · rw [if_neg c]
theorem paired_set {α β : Type} {F : α → β → Prop} : ∀ {xs : List α} {ys : List β} (i : Nat) {x : α} {y : β}, Paired F xs ys → F x y → Paired F (xs.set i x) (ys.set i y)
  | _, _, _, _, _, .nil, _ => .nil
  | _, _, 0, _, _, .cons _ t, h => .cons h t
  | _, _, i + 1, _, _, .cons r t, h => .cons r (paired_set i t h)
theorem sts_kp {H H' : Hp} (k : ∀ b xs, H b = some (.tup xs) → H' b = some (.tup xs)) {xs : List V} {ss : List StD} (h : Sts H xs ss) : Sts H' xs ss := L2.Paired.mapP h fun _ _ ⟨a, e, h⟩ => ⟨a, e, k _ _ h⟩
theorem ixN_of {n j : Nat} (h : j < n) : ixN n (j : Int) = some j := by
  unfold ixN
  rw [if_pos (show (0 : Int) ≤ j by omega), if_pos (show (j : Int) < n by omega)]
  congr 1
theorem outV_n (n : Nat) (b : Bool) : outV n n b = if b = true then [.str "failed"] else [.str "served"] := by
  unfold outV
  rw [if_neg (Nat.lt_irrefl n)]
theorem outV_k {n k : Nat} (h : k < n) (b : Bool) : outV n k b = [.str "rejected", .int k] := if_pos h
def outD (n k : Nat) (inS : Bool) : PyData := if k < n then .tuple [.str "rejected", .int k] else if inS then .tuple [.str "failed"] else .tuple [.str "served"]
theorem outV_dp {K : PySem.W.Frag} {H : Hp} {p : Addr} {n k : Nat} {b : Bool} (h : H p = some (.tup (outV n k b))) : Dp K H (.ref p) (outD n k b) := by
  unfold outV at h
  unfold outD
  split
  · rename_i c
    rw [if_pos c] at h
    exact .tup (SqT.of h) (.cons (.str _) (.cons (.int _) .nil))
  · rename_i c
    rw [if_neg c] at h
    cases b with
    | true => exact .tup (SqT.of h) (.cons (.str _) .nil)
    | false => exact .tup (SqT.of h) (.cons (.str _) .nil)
theorem tup_sh {ds : List PyData} (h1 : PyData.canLayAll0 ds = true) (h2 : PyData.depthAll ds ≤ 10) : SeqAt.shaped (.tuple ds) = true := by
  refine Bool.and_eq_true_iff.mpr ⟨?_, decide_eq_true ?_⟩
  · rw [PyData.canLay0]
    exact h1
  · rw [PyData.depth]
    omega
theorem sok_R : PyData.strOk "rejected" = true := by decide +kernel
theorem sok_S : PyData.strOk "served" = true := by decide +kernel
theorem sok_F : PyData.strOk "failed" = true := by decide +kernel
theorem outD_sh (n k : Nat) (b : Bool) : SeqAt.shaped (outD n k b) = true := by
  unfold outD
  split
  · exact tup_sh (by simp [PyData.canLayAll0, PyData.canLay0, sok_R]) (by simp [PyData.depthAll, PyData.depth])
  · cases b <;> exact tup_sh (by simp [PyData.canLayAll0, PyData.canLay0, sok_S, sok_F]) (by simp [PyData.depthAll, PyData.depth])
theorem served_sh : SeqAt.shaped (.tuple [.str "served"]) = true := tup_sh (by simp [PyData.canLayAll0, PyData.canLay0, sok_S]) (by simp [PyData.depthAll, PyData.depth])
theorem outD_served (n k : Nat) (b : Bool) (h : k ≤ n) : PyData.eqv (outD n k b) (.tuple [.str "served"]) = (decide (k = n) && !b) := by
  unfold outD
  split
  · rename_i c
    rw [decide_eq_false (show ¬ k = n by omega)]
    rfl
  · rw [decide_eq_true (show k = n by omega)]
    cases b <;> rfl
theorem outD_eq (n k : Nat) (b : Bool) : PyData.eqv (outD n k b) (outD n k b) = true := by
  unfold outD
  split
  · simp [PyData.eqv, PyData.eqvAll]
  · cases b <;> simp [PyData.eqv, PyData.eqvAll]
def spOne1 : Sp := fun vs H Q _ => ∃ a l xs ys bs ss t good, vs = [.ref a, .ref l, .int t, .bl good] ∧ H a = some (.lst xs) ∧ Brs H xs bs ∧ H l = some (.lst ys) ∧ Sts H ys ss ∧ a ≠ l ∧ ss.length = bs.length ∧ bs.length ≤ 12 ∧ ∀ (k : Nat) td H' ys', k ≤ bs.length → (∀ (i : Nat) (b : Tri) (s : StD), i < k → bs[i]? = some b → ss[i]? = some s → psB b s t) → (∀ (b : Tri) (s : StD), bs[k]? = some b → ss[k]? = some s → ¬ psB b s t) →
  H' td = some (.tup (outV bs.length k (!good))) → H' l = some (.lst ys') → Sts H' ys' (mixS bs ss t (decide (k = bs.length) && good) k k) → Kp l H H' → H td = none → Q (.ref td) H'
/-! ### a request at one breaker -/
instance psDec (b : Tri) (s : StD) (t : Int) : Decidable (psB b s t) := by
  unfold psB
  infer_instance
def stpS (b : Tri) (s : StD) (t : Int) (g : Bool) : StD := if g = true then okS b s else badS b s t
theorem okS_closed {b : Tri} {s : StD} (h : s.1 = "closed") : okS b s = (("closed", 0) : StD) := by
  have e : hfS s = s := if_neg (by rw [h]; exact sC_O)
  unfold okS
  rw [e]
  exact if_neg fun q => sC_H (h.symm.trans q.1)
theorem okS_half {b : Tri} {s : StD} (h : s.1 = "half") : okS b s = if s.2 + 1 < b.2.2 then (("half", s.2 + 1) : StD) else ("closed", 0) := by
  have e : hfS s = s := if_neg (by rw [h]; exact sH_O)
  unfold okS
  rw [e]
  by_cases c : s.2 + 1 < b.2.2
  · rw [if_pos c, if_pos ⟨h, c⟩]
  · rw [if_neg c, if_neg fun q => c q.2]
theorem okS_open {b : Tri} {s : StD} (h : s.1 = "open") : okS b s = if 1 < b.2.2 then (("half", 1) : StD) else ("closed", 0) := by
  have e : hfS s = (("half", 0) : StD) := if_pos h
  unfold okS
  rw [e]
  by_cases c : (1 : Int) < b.2.2
  · rw [if_pos c, if_pos ⟨rfl, by show (0 : Int) + 1 < b.2.2; omega⟩]
    rfl
  · rw [if_neg c, if_neg fun q => c (by have q2 : (0 : Int) + 1 < b.2.2 := q.2; omega)]
theorem badS_closed {b : Tri} {s : StD} {t : Int} (h : s.1 = "closed") : badS b s t = if s.2 + 1 < b.1 then (("closed", s.2 + 1) : StD) else ("open", t) := by
  have e : hfS s = s := if_neg (by rw [h]; exact sC_O)
  unfold badS
  rw [e]
  by_cases c : s.2 + 1 < b.1
  · rw [if_pos c, if_pos ⟨h, c⟩]
  · rw [if_neg c, if_neg fun q => c q.2]
theorem badS_other {b : Tri} {s : StD} {t : Int} (h : ¬ s.1 = "closed") : badS b s t = (("open", t) : StD) := by
  unfold badS
  refine if_neg fun q => ?_
  have q1 := q.1
  unfold hfS at q1
  split at q1
  · exact sH_C q1
  · exact h q1
def spPasses : Sp := fun vs H Q _ => ∃ x y b s t, vs = [x, y, .int t] ∧ BrAt H x b ∧ StAt H y s ∧ Q (.bl (decide (psB b s t))) H
def spBehind : Sp := fun vs H Q _ => ∃ x y b s t g, vs = [x, y, .int t, .bl g] ∧ BrAt H x b ∧ StAt H y s ∧ okW s ∧ ∀ c H', H' c = some (.tup [.str (stpS b s t g).1, .int (stpS b s t g).2]) → Same H H' → H c = none → Q (.ref c) H'
section
variable {P : Program} {w : World} {K : PySem.W.Frag} {mg : Str → Option Value} {base : Heap} {L : LA}
abbrev N_passes : List Str := ["breaker", "state", "time"]
theorem sc_passes : FnScope N_passes ["breaker", "state", "time"] (defScope st_passes) := ⟨rfl, rfl, rfl, by decide +kernel, rfl, by decide +kernel, by decide +kernel⟩
theorem fn_passes (T : LX K mg L) {fd : FuncData} (F : Fun K "passes" "passes" st_passes L.f_passes fd) : FnOk P w K mg base CX0 1 L.f_passes fd ["breaker", "state", "time"] (spPasses) := by
  have nd := sc_passes.nd
  refine F.ok sc_passes (fun vs H Q E h => ?_) (fun cdv A outer S H vs Q E hr h => ?_)
  · obtain ⟨x, y, b, s, t, rfl, _⟩ := h
    rfl
  · obtain ⟨x, y, b, s, t, rfl, ⟨ab, rfl, hb⟩, ⟨as, rfl, hs⟩, k⟩ := h
    refine ⟨_, (pss_one (ps_ret (pe_or (pe_cmpR op_ne (pe_ix (r := rIxT K) ix_tup (pv 1) pe_int (fun _ _ => rfl)) pe_str (nomark _)) (pe_one (pe_cmpR op_ge (pe_op op_sub (pv 2) (pe_ix (r := rIxT K) ix_tup (pv 1) pe_int (fun _ _ => rfl))) (pe_ix (r := rIxT K) ix_tup (pv 0) pe_int (fun _ _ => rfl)) (nomark _)))))), ?_⟩
    refine ⟨_, rfl, as, _, 0, .str s.1, rfl, rfl, SqT.of hs, rfl, rfl, _, rfl, ite2 (fun c => ?_) (fun c => ?_)⟩
    · have c' : ¬ s.1 = "open" := fun e => by simp [e] at c
      rw [decide_eq_true (show psB b s t from fun e => absurd e c')] at k
      exact k
    · have c' : s.1 = "open" := by simpa using c
      have e : decide (psB b s t) = decide (b.2.1 ≤ t - s.2) := by
        rw [Bool.eq_iff_iff, decide_eq_true_iff, decide_eq_true_iff]
        exact ⟨fun h => h c', fun h _ => h⟩
      rw [e] at k
      exact ⟨_, rfl, _, rfl, as, _, 1, .int s.2, rfl, rfl, SqT.of hs, rfl, _, _, rfl, rfl, _, rfl, ab, _, 1, .int b.2.1, rfl, rfl, SqT.of hb, rfl, _, _, rfl, rfl, k⟩
theorem ok_passes (T : LX K mg L) : Cal P w K mg base "passes" 1 L.f_passes ["breaker", "state", "time"] (spPasses) := T.d_passes.cal fun fd F => fn_passes T F
abbrev N_statebehind : List Str := ["breaker", "state", "time", "succeeded", "failures", "wait", "successes", "kind", "number", "reached"]
theorem sc_statebehind : FnScope N_statebehind ["breaker", "state", "time", "succeeded"] (defScope st_state_behind) := ⟨rfl, rfl, rfl, by decide +kernel, rfl, by decide +kernel, by decide +kernel⟩
theorem fn_statebehind (T : LX K mg L) {fd : FuncData} (F : Fun K "state_behind" "state_behind" st_state_behind L.f_state_behind fd) : FnOk P w K mg base CX0 1 L.f_state_behind fd ["breaker", "state", "time", "succeeded"] (spBehind) := by
  have nd := sc_statebehind.nd
  refine F.ok sc_statebehind (fun vs H Q E h => ?_) (fun cdv A outer S H vs Q E hr h => ?_)
  · obtain ⟨x, y, b, s, t, g, rfl, _⟩ := h
    rfl
  · obtain ⟨x, y, b, s, t, g, rfl, ⟨ab, rfl, hb⟩, ⟨as, rfl, hs⟩, ok, k⟩ := h
    refine ⟨_, (pss_cons (ps_asg (pv 0) (pg_tup rfl (pgs_cons (pg_name (i := 4) nd rfl (Or.inl rfl)) (pgs_cons (pg_name (i := 5) nd rfl (Or.inl rfl)) (pgs_cons (pg_name (i := 6) nd rfl (Or.inl rfl)) pgs_nil)))))
       (pss_cons (ps_asg (pv 1) (pg_tup rfl (pgs_cons (pg_name (i := 7) nd rfl (Or.inl rfl)) (pgs_cons (pg_name (i := 8) nd rfl (Or.inl rfl)) pgs_nil))))
       (pss_cons (ps_if (PW.pt (pw_and (pt_val (pv 3)) (pw_and1 (pt_cmpR op_ne (pv 7) pe_str (nomark _))))) (pss_cons (ps_set (i := 9) nd rfl (Or.inl rfl) (pe_ifExp (pt_cmpR op_eq (pv 7) pe_str (nomark _)) (pe_op op_add (pv 8) pe_int) pe_int))
       (pss_one (ps_ret (pe_ifExp (pt_cmpR op_lt (pv 9) (pv 6) (nomark _)) (pe_tup (pa_cons pe_str (pa_cons (pv 9) pa_nil))) (pe_tup (pa_cons pe_str (pa_cons pe_int pa_nil))))))) pss_nil)
       (pss_cons (ps_if (pt_val (pv 3)) (pss_one (ps_ret (pe_tup (pa_cons pe_str (pa_cons pe_int pa_nil))))) pss_nil)
       (pss_cons (ps_if (PW.pt (pw_and (pt_cmpR op_eq (pv 7) pe_str (nomark _)) (pw_and1 (pt_cmpR op_lt (pe_op op_add (pv 8) pe_int) (pv 4) (nomark _))))) (pss_one (ps_ret (pe_tup (pa_cons pe_str (pa_cons (pe_op op_add (pv 8) pe_int) pa_nil))))) pss_nil)
       (pss_one (ps_ret (pe_tup (pa_cons pe_str (pa_cons (pv 2) pa_nil)))))))))), ?_⟩
    refine ⟨_, rfl, ab, _, rfl, SqT.of hb, rfl, _, _, rfl, _, _, rfl, _, _, rfl, rfl, ?_⟩
    refine ⟨_, rfl, as, _, rfl, SqT.of hs, rfl, _, _, rfl, _, _, rfl, rfl, ?_⟩
    have fin : ∀ (d : StD), stpS b s t g = d → ∀ p, H p = none → Q (.ref p) (upd H p (.tup [.str d.1, .int d.2])) := fun d e p hp => by
      subst e
      exact k p _ upd_same (Same.upd hp) hp
    clear k
    cases g with
    | true =>
      refine ⟨_, rfl, _, rfl, iteT ⟨_, rfl, rfl, _, rfl, ite2 (fun c => ?_) (fun c => ?_)⟩⟩
      · have c' : ¬ s.1 = "closed" := fun e => by simp [e] at c
        refine ⟨_, rfl, rfl, _, rfl, ite2 (fun h => ?_) (fun h => ?_)⟩
        · have h' : s.1 = "half" := V.str.inj (of_decide_eq_true h)
          refine ⟨_, rfl, _, _, rfl, rfl, _, rfl, _, rfl, _, _, rfl, rfl, _, rfl, ite2 (fun l => ?_) (fun l => ?_)⟩
          · exact ⟨_, rfl, (by show 2 ≤ sizeLine; decide), fin ("half", s.2 + 1) ((okS_half h').trans (if_pos (of_decide_eq_true l)))⟩
          · exact ⟨(by show 2 ≤ sizeLine; decide), fin ("closed", 0) ((okS_half h').trans (if_neg fun q => l (decide_eq_true q)))⟩
        · have h' : ¬ s.1 = "half" := fun e => h (decide_eq_true (congrArg V.str e))
          have o : s.1 = "open" := by
            rcases ok with e | e | e
            · exact absurd e c'
            · exact e
            · exact absurd e h'
          refine ⟨_, rfl, _, rfl, _, _, rfl, rfl, _, rfl, ite2 (fun l => ?_) (fun l => ?_)⟩
          · exact ⟨_, rfl, (by show 2 ≤ sizeLine; decide), fin ("half", 1) ((okS_open o).trans (if_pos (of_decide_eq_true l)))⟩
          · exact ⟨(by show 2 ≤ sizeLine; decide), fin ("closed", 0) ((okS_open o).trans (if_neg fun q => l (decide_eq_true q)))⟩
      · have c' : s.1 = "closed" := by simpa using c
        exact ⟨_, rfl, _, rfl, iteT ⟨(by show 2 ≤ sizeLine; decide), fin ("closed", 0) (okS_closed c')⟩⟩
    | false =>
      refine ⟨_, rfl, _, rfl, iteF ⟨_, rfl, _, rfl, iteF ⟨_, rfl, rfl, _, rfl, ite2 (fun c => ?_) (fun c => ?_)⟩⟩⟩
      · have c' : s.1 = "closed" := V.str.inj (of_decide_eq_true c)
        refine ⟨_, rfl, _, _, rfl, rfl, _, rfl, _, _, rfl, rfl, _, rfl, ite2 (fun l => ?_) (fun l => ?_)⟩
        · exact ⟨_, rfl, _, _, rfl, rfl, (by show 2 ≤ sizeLine; decide), fin ("closed", s.2 + 1) ((badS_closed c').trans (if_pos (of_decide_eq_true l)))⟩
        · exact ⟨_, rfl, (by show 2 ≤ sizeLine; decide), fin ("open", t) ((badS_closed c').trans (if_neg fun q => l (decide_eq_true q)))⟩
      · have c' : ¬ s.1 = "closed" := fun e => c (decide_eq_true (congrArg V.str e))
        refine iteF ⟨_, rfl, (by show 2 ≤ sizeLine; decide), fin ("open", t) (badS_other c')⟩
theorem ok_statebehind (T : LX K mg L) : Cal P w K mg base "state_behind" 1 L.f_state_behind ["breaker", "state", "time", "succeeded"] (spBehind) := T.d_state_behind.cal fun fd F => fn_statebehind T F
end
/-! ### one request sent by the program -/
/-- how many breakers a request reaches and is passed by -/
def kOf : List Tri → List StD → Int → Nat
  | b :: bs, s :: ss, t => if psB b s t then kOf bs ss t + 1 else 0
  | [], _, _ => 0
  | _ :: _, [], _ => 0
theorem kOf_le : ∀ (bs : List Tri) (ss : List StD) (t : Int), kOf bs ss t ≤ bs.length
  | [], _, _ => Nat.le_refl _
  | _ :: _, [], _ => Nat.zero_le _
  | b :: bs, s :: ss, t => by
    unfold kOf
    split
    · exact Nat.succ_le_succ (kOf_le bs ss t)
    · exact Nat.zero_le _
theorem kOf_ps : ∀ {bs : List Tri} {ss : List StD} {t : Int} {i : Nat} {b : Tri} {s : StD}, i < kOf bs ss t → bs[i]? = some b → ss[i]? = some s → psB b s t
  | [], _, _, _, _, _, h, _, _ => absurd h (Nat.not_lt_zero _)
  | _ :: _, [], _, _, _, _, h, _, _ => absurd h (Nat.not_lt_zero _)
  | b :: bs, s :: ss, t, i, b', s', h, e1, e2 => by
    unfold kOf at h
    split at h
    · rename_i c
      cases i with
      | zero => cases e1; cases e2; exact c
      | succ i => exact kOf_ps (i := i) (Nat.lt_of_succ_lt_succ h) e1 e2
    · exact absurd h (Nat.not_lt_zero _)
theorem kOf_rj : ∀ {bs : List Tri} {ss : List StD} {t : Int} {b : Tri} {s : StD}, bs[kOf bs ss t]? = some b → ss[kOf bs ss t]? = some s → ¬ psB b s t
  | [], _, _, _, _, e1, _ => by cases e1
  | _ :: _, [], _, _, _, _, e2 => by cases e2
  | b :: bs, s :: ss, t, b', s', e1, e2 => by
    unfold kOf at e1 e2
    by_cases c : psB b s t
    · rw [if_pos c] at e1 e2
      exact kOf_rj (bs := bs) (ss := ss) e1 e2
    · rw [if_neg c] at e1 e2
      cases e1
      cases e2
      exact c
theorem kOf_is {bs : List Tri} {ss : List StD} {t : Int} (sl : ss.length = bs.length) {k : Nat} (hk : k ≤ bs.length) (h1 : ∀ (i : Nat) (b : Tri) (s : StD), i < k → bs[i]? = some b → ss[i]? = some s → psB b s t) (h2 : ∀ (b : Tri) (s : StD), bs[k]? = some b → ss[k]? = some s → ¬ psB b s t) : k = kOf bs ss t := by
  have kl := kOf_le bs ss t
  have get : ∀ {j : Nat}, j < bs.length → ∃ b s, bs[j]? = some b ∧ ss[j]? = some s := fun {j} l => ⟨_, _, List.getElem?_eq_getElem l, List.getElem?_eq_getElem (by omega)⟩
  rcases Nat.lt_trichotomy k (kOf bs ss t) with c | c | c
  · obtain ⟨b, s, e1, e2⟩ := get (j := k) (by omega)
    exact absurd (kOf_ps c e1 e2) (h2 b s e1 e2)
  · exact c
  · obtain ⟨b, s, e1, e2⟩ := get (j := kOf bs ss t) (by omega)
    exact absurd (h1 _ b s c e1 e2) (kOf_rj e1 e2)
/-- the states behind a request -/
def sntS (bs : List Tri) (ss : List StD) (t : Int) (up : Bool) : List StD := mixS bs ss t (decide (kOf bs ss t = bs.length) && up) (kOf bs ss t) (kOf bs ss t)
theorem okS_W (b : Tri) (s : StD) : okW (okS b s) := by
  unfold okS
  split
  · exact .inr (.inr rfl)
  · exact .inl rfl
theorem badS_W (b : Tri) (s : StD) (t : Int) : okW (badS b s t) := by
  unfold badS
  split
  · exact .inl rfl
  · exact .inr (.inl rfl)
theorem stpS_W (b : Tri) (s : StD) (t : Int) (g : Bool) : okW (stpS b s t g) := by
  unfold stpS
  split
  · exact okS_W b s
  · exact badS_W b s t
theorem sntS_len {bs : List Tri} {ss : List StD} {t : Int} {up : Bool} : (sntS bs ss t up).length = bs.length := mixS_len
theorem sntS_get {bs : List Tri} {ss : List StD} {t : Int} {up : Bool} {i : Nat} {b : Tri} {s : StD} (hb : bs[i]? = some b) (hs : ss[i]? = some s) :
    (sntS bs ss t up)[i]? = some (if i < kOf bs ss t then stpS b s t (decide (kOf bs ss t = bs.length) && up) else s) := by
  have hi := (List.getElem?_eq_some_iff.mp hb).1
  unfold sntS
  rw [mixS_get hi, mixE_is hb hs]
  congr 1
  by_cases c : i < kOf bs ss t
  · rw [if_pos c, if_pos c]
    rfl
  · rw [if_neg c, if_neg c, if_neg c]
theorem sntS_W {bs : List Tri} {ss : List StD} {t : Int} {up : Bool} (sl : ss.length = bs.length) (h : ∀ s ∈ ss, okW s) : ∀ s ∈ sntS bs ss t up, okW s := by
  intro s hs
  obtain ⟨i, hi⟩ := List.mem_iff_getElem?.mp hs
  have l := (List.getElem?_eq_some_iff.mp hi).1
  rw [sntS_len] at l
  have e1 : bs[i]? = some bs[i] := List.getElem?_eq_getElem l
  have e2 : ss[i]? = some ss[i] := List.getElem?_eq_getElem (by omega)
  rw [sntS_get e1 e2] at hi
  cases hi
  split
  · exact stpS_W _ _ _ _
  · exact h _ (List.getElem_mem _)
theorem sntS_cut {bs : List Tri} {ss : List StD} {t : Int} {up : Bool} (sl : ss.length = bs.length) : sntS bs ss t up = (List.zipWith (fun b s => stpS b s t (decide (kOf bs ss t = bs.length) && up)) (bs.take (kOf bs ss t)) ss) ++ ss.drop (kOf bs ss t) := by
  have kl := kOf_le bs ss t
  apply List.ext_getElem?
  intro i
  by_cases c : i < bs.length
  · have e1 : bs[i]? = some bs[i] := List.getElem?_eq_getElem c
    have e2 : ss[i]? = some ss[i] := List.getElem?_eq_getElem (by omega)
    rw [sntS_get e1 e2]
    by_cases q : i < kOf bs ss t
    · rw [if_pos q, List.getElem?_append_left (by rw [List.length_zipWith, List.length_take]; omega), List.getElem?_zipWith, List.getElem?_take, if_pos q, e1, e2]
    · rw [if_neg q, List.getElem?_append_right (by rw [List.length_zipWith, List.length_take]; omega), List.length_zipWith, List.length_take, List.getElem?_drop, show kOf bs ss t + (i - min (min (kOf bs ss t) bs.length) ss.length) = i by omega, e2]
  · rw [List.getElem?_eq_none (by rw [sntS_len]; omega), List.getElem?_eq_none (by rw [List.length_append, List.length_zipWith, List.length_take, List.length_drop]; omega)]
/-- what is told of a request -/
def TldAt (K : PySem.W.Frag) (H : Hp) (x : V) (n k : Nat) (up : Bool) : Prop := ∃ a, x = .ref a ∧ SqT K H a (outV n k (!up))
theorem TldAt.same {K : PySem.W.Frag} {H H' : Hp} {x : V} {n k : Nat} {up : Bool} (h : TldAt K H x n k up) (s : Same H H') : TldAt K H' x n k up := by
  obtain ⟨a, e, q⟩ := h
  exact ⟨a, e, q.ext fun b o e => s b o e⟩
theorem TldAt.dp {K : PySem.W.Frag} {H : Hp} {x : V} {n k : Nat} {up : Bool} (h : TldAt K H x n k up) : Dp K H x (outD n k (!up)) := by
  obtain ⟨a, rfl, h⟩ := h
  unfold outV at h
  unfold outD
  split
  · rename_i c
    rw [if_pos c] at h
    exact .tup h (.cons (.str _) (.cons (.int _) .nil))
  · rename_i c
    rw [if_neg c] at h
    cases up with
    | true => exact .tup h (.cons (.str _) .nil)
    | false => exact .tup h (.cons (.str _) .nil)
theorem cut_take0 (xs : List V) (k : Nat) (h : k ≤ xs.length) : cutV xs none (some (k : Int)) = xs.take k := by
  unfold cutV
  rw [HT.sIx_nat, HT.sIx_none, List.drop_zero, Nat.sub_zero, Nat.min_eq_left h]
theorem cut_drop0 (xs : List V) (k : Nat) (h : k ≤ xs.length) : cutV xs (some (k : Int)) none = xs.drop k := by
  unfold cutV
  rw [HT.sIx_nat, HT.sIx_none, Nat.min_eq_left h, List.take_of_length_le (by rw [List.length_drop]; exact Nat.le_refl _)]
theorem slA_by {K : PySem.W.Frag} {a : Addr} {xs : List V} {lo hi : Option Int} {H : Hp} {Q : VK} (h : SqT K H a xs) (k : ∀ p H', SqT K H' p (cutV xs lo hi) → Same H H' → Q (.ref p) H') : rSlA K (.ref a) lo hi H Q := by
  refine ⟨a, xs, rfl, h, fun c => k a H ?_ (Same.refl H), fun _ p np => k p _ (SqT.of upd_same) (Same.upd np)⟩
  have e : cutV xs lo hi = xs := by
    unfold cutV
    rw [c.1, c.2, List.drop_zero, Nat.sub_zero, List.take_length]
  rw [e]
  exact h
theorem paired_drop {α β : Type} {F : α → β → Prop} : ∀ {xs : List α} {ys : List β} (n : Nat), Paired F xs ys → Paired F (xs.drop n) (ys.drop n)
  | _, _, 0, h => h
  | _, _, n + 1, .nil => .nil
  | _, _, n + 1, .cons _ p => paired_drop n p
def spSent (K : PySem.W.Frag) : Sp := fun vs H Q _ => ∃ B l xs ys bs ss t up, vs = [.ref B, .ref l, .int t, .bl up] ∧ SqT K H B xs ∧ Brs H xs bs ∧ H l = some (.lst ys) ∧ Sts H ys ss ∧ ss.length = bs.length ∧ bs.length ≤ 100 ∧ (∀ s ∈ ss, okW s) ∧
  ∀ q x l2 ys2 H', H' q = some (.tup [x, .ref l2]) → TldAt K H' x bs.length (kOf bs ss t) up → H' l2 = some (.lst ys2) → Sts H' ys2 (sntS bs ss t up) → Same H H' → H q = none → H l2 = none → Q (.ref q) H'
section
variable {P : Program} {w : World} {K : PySem.W.Frag} {mg : Str → Option Value} {base : Heap} {L : LA}
abbrev N_sent : List Str := ["breakers", "states", "time", "up", "reached", "told", "behind", "breaker", "state"]
theorem sc_sent : FnScope N_sent ["breakers", "states", "time", "up"] (defScope st_sent) := ⟨rfl, rfl, rfl, by decide +kernel, rfl, by decide +kernel, by decide +kernel⟩
theorem fn_sent (T : LX K mg L) {fd : FuncData} (F : Fun K "sent" "sent" st_sent L.f_sent fd) : FnOk P w K mg base CX0 3 L.f_sent fd ["breakers", "states", "time", "up"] (spSent K) := by
  obtain ⟨a_SERVED, c_SERVED, t_SERVED⟩ := T.n_SERVED
  obtain ⟨a_FAILED, c_FAILED, t_FAILED⟩ := T.n_FAILED
  have G_passes := ok_passes (P := P) (w := w) (base := base) T
  have G_statebehind := ok_statebehind (P := P) (w := w) (base := base) T
  have nd := sc_sent.nd
  refine F.ok sc_sent (fun vs H Q E h => ?_) (fun cdv A outer S H vs Q E hr h => ?_)
  · obtain ⟨B, l, xs, ys, bs, ss, t, up, rfl, _⟩ := h
    rfl
  · obtain ⟨B, l, xs, ys, bs, ss, t, up, rfl, hB, hb, hl, hs, sl, bl, ok, k⟩ := h
    refine ⟨_, (pss_cons (ps_set (i := 4) nd rfl (Or.inl rfl) pe_int)
       (C8.pss_cut (ps_while PassesOwn.never (PW.pt (pw_and (pt_cmpR op_lt (pv 4) (pe_callB call_len_seq (by rfl) T.b_len PySem.boot_len (pa_cons (pv 0) pa_nil)) (nomark _)) (pw_and1 (pt_val (pe_c G_passes (hr.mono (by decide)) rfl (pa_cons (pe_ix (r := rIxT K) ix_tup (pv 0) (pv 4) (fun _ _ => rfl)) (pa_cons (pe_ix (r := rIxL K) ix_list (pv 1) (pv 4) (fun _ _ => rfl)) (pa_cons (pv 2) pa_nil)))))))) (pss_one (ps_aug (i := 4) nd rfl (Or.inl rfl) pe_int ip_add)))
       (C8.pss_cut (ps_set (i := 5) nd rfl (Or.inr rfl) (pe_ifExp (pt_val (pv 3)) (pe_glob (by rfl) c_SERVED rr) (pe_glob (by rfl) c_FAILED rr)))
       (C8.pss_cut (ps_if (pt_cmpR op_lt (pv 4) (pe_callB call_len_seq (by rfl) T.b_len PySem.boot_len (pa_cons (pv 0) pa_nil)) (nomark _)) (pss_one (ps_set (i := 5) nd rfl (Or.inr rfl) (pe_tup (pa_cons pe_str (pa_cons (pv 4) pa_nil))))) pss_nil)
       (pss_cons (ps_setLc (i := 6) (own := [("breaker", 7), ("state", 8)]) (g := gTup K 2 (gCons (gName 7) (gCons (gName 8) (gNil)))) (tt := tYes) rfl nd rfl rfl (sw_true rfl rfl rfl (by decide +kernel)) (pi_zipM (by rfl) T.b_zip (pa_cons (pe_slice (r := rSlA K) sl_tupA (pv 0) po_none (po_some (pv 4))) (pa_cons (pv 1) pa_nil))) (blkOk_by (own := [("breaker", 7), ("state", 8)]) (N := N_sent) (sc := defScope st_sent) (by decide +kernel)) (fun _ _ _ _ _ => pg_tup rfl (pgs_cons (pg_name (i := 7) nd rfl (Or.inl rfl)) (pgs_cons (pg_name (i := 8) nd rfl (Or.inl rfl)) pgs_nil))) (fun _ _ _ _ _ => pts_nil) (fun _ _ _ _ _ => (pe_c G_statebehind (hr.mono (by decide)) rfl (pa_cons (pv 7) (pa_cons (pv 8) (pa_cons (pv 2) (pa_cons (pe_cmpR (op_eqDK (K := K) rfl hr.units) (pv 5) (pe_glob (by rfl) c_SERVED rr) (nomark _)) pa_nil)))))))
       (pss_one (ps_ret (pe_tup (pa_cons (pv 5) (pa_cons (pe_op op_cat (pv 6) (pe_slice (r := rSlL K) sl_list (pv 1) (po_some (pv 4)) po_none)) pa_nil)))))))))), ?_⟩
    have xl := hb.len
    have yl := paired_len hs
    refine ⟨fun σ' H' => σ' = [some (.ref B), some (.ref l), some (.int t), some (.bl up), some (.int (kOf bs ss t : Nat)), none, none, none, none] ∧ H' = H, ?_, ?_⟩
    · refine while_by (fun σ H2 => ∃ j : Nat, σ = [some (.ref B), some (.ref l), some (.int t), some (.bl up), some (.int (j : Nat)), none, none, none, none] ∧ j ≤ bs.length ∧ (∀ (i : Nat) (b : Tri) (s : StD), i < j → bs[i]? = some b → ss[i]? = some s → psB b s t) ∧ H2 = H)
        (fun σ _ => match σ with | [_, _, _, _, some (.int r), _, _, _, _] => ((bs.length : Int) - r).toNat | _ => 0)
        ⟨0, rfl, Nat.zero_le _, fun i b s h => absurd h (Nat.not_lt_zero _), rfl⟩ ?_ ?_
      · rintro σ H2 ⟨j, rfl, jl, hj, rfl⟩
        refine ⟨_, rfl, _, rfl, B, _, rfl, .inr hB, _, _, rfl, rfl, _, rfl, ite2 (fun c => ?_) (fun c => ?_)⟩
        · have c' : (j : Int) < xs.length := of_decide_eq_true c
          have jb : j < bs.length := by omega
          obtain ⟨x, hx⟩ : ∃ x, xs[j]? = some x := ⟨_, List.getElem?_eq_getElem (by omega)⟩
          obtain ⟨y, hy⟩ : ∃ y, ys[j]? = some y := ⟨_, List.getElem?_eq_getElem (by omega)⟩
          obtain ⟨b, eb, hbx⟩ := hb.get hx
          obtain ⟨s, es, hsy⟩ := paired_get hs hy
          refine ⟨_, rfl, _, rfl, B, xs, (j : Int), x, rfl, rfl, hB, atI_nat hx, _, rfl, _, rfl, l, ys, (j : Int), y, rfl, rfl, SqL.of hl, atI_nat hy, _, rfl, x, y, b, s, t, rfl, hbx, hsy, _, rfl, ite2 (fun p => ?_) (fun p => ?_)⟩
          · have p' : psB b s t := of_decide_eq_true p
            refine ⟨_, rfl, _, _, rfl, rfl, ⟨j + 1, rfl, jb, fun i b' s' hi e1 e2 => ?_, rfl⟩, ?_⟩
            · by_cases q : i < j
              · exact hj i b' s' q e1 e2
              · have : i = j := by omega
                subst this
                rw [eb] at e1
                rw [es] at e2
                cases e1
                cases e2
                exact p'
            · show ((bs.length : Int) - ((j : Int) + 1)).toNat < ((bs.length : Int) - (j : Int)).toNat
              omega
          · have e := kOf_is sl jl hj fun b' s' e1 e2 => by
              rw [eb] at e1
              rw [es] at e2
              cases e1
              cases e2
              exact fun h => p (decide_eq_true h)
            rw [← e]
            exact ⟨rfl, rfl⟩
        · have c' : ¬ (j : Int) < xs.length := fun h => c (decide_eq_true h)
          have e := kOf_is sl jl hj fun b' s' e1 e2 => absurd (List.getElem?_eq_some_iff.mp e1).1 (by omega)
          rw [← e]
          exact ⟨rfl, rfl⟩
      · rintro σ H Q Q' m ⟨a1, a2, a3, a4, a5, a6, a7, a8, a9, a10, a11, a12, bb, a13, q⟩
        refine ⟨a1, a2, a3, a4, a5, a6, a7, a8, a9, a10, a11, a12, bb, a13, ?_⟩
        cases bb with
        | false => exact iteF (m _ _ (by rwa [if_neg Bool.false_ne_true] at q))
        | true =>
          rw [if_pos rfl] at q
          obtain ⟨b1, b2, b3, b4, b5, b6, b7, b8, b9, b10, b11, b12, b13, b14, b15, b16, b17, b18, b19, b20, b21, b22, b23, b24, b25, b26, b27, b28, b29, b30, b31, b32, b33, b34, b35, b36, q⟩ := q
          exact iteT ⟨b1, b2, b3, b4, b5, b6, b7, b8, b9, b10, b11, b12, b13, b14, b15, b16, b17, b18, b19, b20, b21, b22, b23, b24, b25, b26, b27, b28, b29, b30, b31, b32, b33, b34, b35, b36, m _ _ q⟩
    rintro σ' H' ⟨rfl, rfl⟩
    have kl := kOf_le bs ss t
    obtain ⟨n, hn⟩ : ∃ n, n = kOf bs ss t := ⟨_, rfl⟩
    refine ⟨fun σ2 H2 => ∃ a, σ2 = [some (.ref B), some (.ref l), some (.int t), some (.bl up), some (.int (kOf bs ss t : Nat)), some (.ref a), none, none, none] ∧ SqT K H2 a (outV bs.length bs.length (!up)) ∧ H2 = H', ?_, ?_⟩
    · rw [outV_n]
      cases up with
      | true => exact ⟨_, rfl, _, rfl, iteT ⟨a_SERVED, rfl, t_SERVED _, rfl⟩⟩
      | false => exact ⟨_, rfl, _, rfl, iteF ⟨a_FAILED, rfl, t_FAILED _, rfl⟩⟩
    rintro σ2 H2 ⟨a, rfl, ha, rfl⟩
    refine ⟨fun σ3 H3 => ∃ a, σ3 = [some (.ref B), some (.ref l), some (.int t), some (.bl up), some (.int (kOf bs ss t : Nat)), some (.ref a), none, none, none] ∧ SqT K H3 a (outV bs.length (kOf bs ss t) (!up)) ∧ Same H2 H3, ?_, ?_⟩
    · refine ⟨_, rfl, _, rfl, B, _, rfl, .inr hB, _, _, rfl, rfl, _, rfl, ite2 (fun c => ?_) (fun c => ?_)⟩
      · have c' : (kOf bs ss t : Int) < xs.length := of_decide_eq_true c
        refine ⟨_, rfl, (by show 2 ≤ sizeLine; decide), fun p np => ⟨p, rfl, ?_, Same.upd np⟩⟩
        rw [outV_k (show kOf bs ss t < bs.length by omega)]
        exact SqT.of upd_same
      · have c' : ¬ (kOf bs ss t : Int) < xs.length := fun h => c (decide_eq_true h)
        have e : kOf bs ss t = bs.length := by omega
        rw [e]
        exact ⟨a, rfl, ha, Same.refl _⟩
    rintro σ3 H3 ⟨a, rfl, ha, s3⟩
    -- the comprehension
    refine ⟨_, rfl, _, rfl, (kOf bs ss t : Int), rfl, slA_by (hB.ext fun b o e => s3 b o e) fun Bq H4 hBq s4 => ?_⟩
    rw [cut_take0 xs (kOf bs ss t) (by omega)] at hBq
    have s34 := s3.trans s4
    refine ⟨_, rfl, Bq, l, xs.take (kOf bs ss t), ys, rfl, hBq, SqL.of (s34 _ _ hl), fun D nD => ?_⟩
    have hxn : (xs.take (kOf bs ss t)).length = kOf bs ss t := by rw [List.length_take]; omega
    refine lc_zipM (K := K) (a := Bq) (b := l) (xs := xs.take (kOf bs ss t)) (ys := ys) (by omega) (fun j Hy => ∃ ws, Hy D = some (.lst ws) ∧ Sts Hy ws ((List.zipWith (fun b s => stpS b s t (decide (kOf bs ss t = bs.length) && up)) (bs.take (kOf bs ss t)) ss).take j) ∧ Same H4 Hy)
      ⟨[], upd_same, .nil, Same.upd nD⟩ (fun j Hy ⟨_, _, _, sy⟩ => ⟨hBq.ext fun b o e => sy b o e, SqL.of (sy _ _ (s34 _ _ hl))⟩) ?_ ?_
    · rintro j x y T' Hy hxj hyj ⟨ws, hws, hz, sy⟩ hT
      have jn : j < kOf bs ss t := by have := (List.getElem?_eq_some_iff.mp hxj).1; omega
      rw [List.getElem?_take, if_pos jn] at hxj
      obtain ⟨b, eb, hbx⟩ := hb.get hxj
      obtain ⟨s, es, hsy⟩ := paired_get hs hyj
      have wl := paired_len hz
      rw [List.length_take, List.length_zipWith, List.length_take] at wl
      have sT := Same.upd (o := .tup [x, y]) hT
      have s5 := (s34.trans sy).trans sT
      refine ⟨T', _, rfl, SqT.of upd_same, rfl, _, _, rfl, _, _, rfl, rfl, rfl, tYes_of ?_⟩
      have hd : Dp K (upd Hy T' (.tup [x, y])) (.ref a) (outD bs.length (kOf bs ss t) (!up)) := TldAt.dp ⟨a, rfl, ha.ext fun b o e => ((s4.trans sy).trans sT) b o e⟩
      refine ⟨_, rfl, _, rfl, _, rfl, _, rfl, _, _, hd, .tup (t_SERVED _) (.cons (.str _) .nil), outD_sh _ _ _, served_sh, ?_⟩
      rw [outD_served _ _ _ kl, Bool.not_not]
      refine ⟨x, y, b, s, t, _, rfl, hbx.nl (NL.of s5), hsy.same s5, ok s (List.mem_of_getElem? es), fun c H6 hc s6 nc => ?_⟩
      have hw6 := s6 _ _ (sT _ _ hws)
      have n7 := NL.upd (o := .lst (ws ++ [.ref c])) hw6
      refine ⟨ws, hw6, small1 (by omega), ws ++ [.ref c], upd_same, ?_, fun u o e => ?_⟩
      · have ez : (List.zipWith (fun b s => stpS b s t (decide (kOf bs ss t = bs.length) && up)) (bs.take (kOf bs ss t)) ss)[j]? = some (stpS b s t (decide (kOf bs ss t = bs.length) && up)) := by
          rw [List.getElem?_zipWith, List.getElem?_take, if_pos jn, eb, es]
        rw [List.take_add_one, ez]
        exact paired_app (((hz.same sT).same s6).nl n7) (.cons ⟨c, rfl, n7 _ _ hc fun _ z => nomatch z⟩ .nil)
      · rw [upd_ne (ne_of_none e nD)]
        exact s6 _ _ (sT _ _ (sy _ _ e))
    rintro Hy ⟨ws, hws, hz, sy⟩
    rw [List.take_of_length_le (by rw [List.length_zipWith, List.length_take]; omega)] at hz
    have s4y := s34.trans sy
    refine ⟨_, rfl, _, rfl, _, rfl, _, rfl, (kOf bs ss t : Int), rfl, l, ys, rfl, SqL.of (s4y _ _ hl), fun lt nlt => ?_⟩
    rw [cut_drop0 ys (kOf bs ss t) (by omega)]
    have s6 := Same.upd (o := .lst (ys.drop (kOf bs ss t))) nlt
    have wl := paired_len hz
    rw [List.length_zipWith, List.length_take] at wl
    refine ⟨D, lt, ws, ys.drop (kOf bs ss t), rfl, rfl, s6 _ _ hws, upd_same, small2 (by rw [List.length_drop]; omega), fun l2 nl2 => ?_⟩
    have s7 := Same.upd (o := .lst (ws ++ ys.drop (kOf bs ss t))) nl2
    refine ⟨(by show 2 ≤ sizeLine; decide), fun q nq => ?_⟩
    have s8 := Same.upd (o := .tup [.ref a, .ref l2]) nq
    have s48 := (((s4y.trans s6).trans s7).trans s8)
    have sA : Same H3 _ := (((s4.trans sy).trans s6).trans s7).trans s8
    refine k q (.ref a) l2 (ws ++ ys.drop (kOf bs ss t)) _ upd_same ⟨a, rfl, ha.ext fun b o e => sA b o e⟩ (s8 _ _ upd_same) ?_ s48 (none_of ((s4y.trans s6).trans s7) nq) (none_of (s4y.trans s6) nl2)
    rw [sntS_cut sl]
    exact paired_app ((((hz.same s6).same s7).same s8)) (paired_drop _ (hs.same s48))
theorem ok_sent (T : LX K mg L) : Cal P w K mg base "sent" 3 L.f_sent ["breakers", "states", "time", "up"] (spSent K) := T.d_sent.cal fun fd F => fn_sent T F
end
/-! ### == of rows -/
def spEqR (C : Addr) : Sp := fun vs H Q _ => ∃ p B xs ts st ph v b, vs = [.ref p, v] ∧ RowAt C H p B xs ts st ph ∧ EqOf C H (ts, st, ph) v b ∧ Q (.bl b) H
section
variable {P : Program} {w : World} {K : PySem.W.Frag} {mg : Str → Option Value} {base : Heap} {L : LA}
abbrev N_Roweq : List Str := ["self", "other"]
theorem sc_Roweq : FnScope N_Roweq ["self", "other"] (defScope st_Row_eq) := ⟨rfl, rfl, rfl, by decide +kernel, rfl, by decide +kernel, by decide +kernel⟩
theorem fn_Roweq (T : LX K mg L) {fd : FuncData} (F : Fun K "__eq__" "Row.__eq__" st_Row_eq L.m_Row_eq fd) : FnOk P w K mg base CX0 1 L.m_Row_eq fd ["self", "other"] (spEqR L.c_Row) := by
  have M_Row := T.gc_Row
  have nd := sc_Roweq.nd
  refine F.ok sc_Roweq (fun vs H Q E h => ?_) (fun cdv A outer S H vs Q E hr h => ?_)
  · obtain ⟨p, B, xs, ts, st, ph, v, b, rfl, _⟩ := h
    rfl
  · obtain ⟨p, B, xs, ts, st, ph, v, b, rfl, R, h, k⟩ := h
    refine ⟨_, (pss_one (ps_ret (pe_and (pe_callB call_isi (by rfl) T.b_isinstance (by decide +kernel) (pa_cons (pv 1) (pa_cons (pe_glob rfl M_Row rr) pa_nil))) (pe_and (pe_cmpR (op_eqD hr.units) (pe_fld (pv 0) rfl) (pe_fld (pv 1) rfl) (nomark _)) (pe_and (pe_cmpR op_eq (pe_fld (pv 0) rfl) (pe_fld (pv 1) rfl) (nomark _)) (pe_one (pe_cmpR op_eq (pe_fld (pv 0) rfl) (pe_fld (pv 1) rfl) (nomark _)))))))), ?_⟩
    obtain ⟨dx, hp⟩ := R.ob
    cases h with
    | non => exact ⟨_, rfl, _, .ref L.c_Row, _, _, _, rfl, .own L.c_Row, Kd.non.ty, T.cf_Row.kitT (H := H) .non, _, rfl, iteF k⟩
    | lst e => exact ⟨_, rfl, _, .ref L.c_Row, _, _, _, rfl, .own L.c_Row, (Kd.lst e).ty, T.cf_Row.kitT (.lst e), _, rfl, iteF k⟩
    | tup e => exact ⟨_, rfl, _, .ref L.c_Row, _, _, _, rfl, .own L.c_Row, (Kd.tup e).ty, T.cf_Row.kitT (.tup e), _, rfl, iteF k⟩
    | @row q U ys us st' ph' R' =>
      obtain ⟨dy, hq⟩ := R'.ob
      refine ⟨_, rfl, _, .ref L.c_Row, _, _, _, rfl, .own L.c_Row, T.cf_Row.tyR hq, if_pos (beq_self_eq_true _), _, rfl, iteT ?_⟩
      refine ⟨_, rfl, p, L.c_Row, dx, _, _, rfl, hp, T.cf_Row.cl, T.nf_Row_breakers, rowF_b _ _ _, _, rfl, q, L.c_Row, dy, _, _, rfl, hq, T.cf_Row.cl, T.nf_Row_breakers, rowF_b _ _ _, .tuple (ts.map triD), .tuple (us.map triD), .tup (SqT.of R.tp) R.br.dp, .tup (SqT.of R'.tp) R'.br.dp, shT _, shT _, _, rfl, ?_⟩
      have e0 : PyData.eqv (.tuple (ts.map triD)) (.tuple (us.map triD)) = decide (ts = us) := by rw [PyData.eqv]; exact triDs_eq ts us
      rw [e0]
      have fin : ∀ c : Bool, decide ((ts, st, ph) = (us, st', ph')) = c → Q (.bl c) H := fun c e => by rw [← e]; exact k
      refine ite2 (fun c1 => ?_) (fun c1 => ?_)
      · have c1' : ts = us := of_decide_eq_true c1
        refine ⟨_, rfl, p, L.c_Row, dx, _, _, rfl, hp, T.cf_Row.cl, T.nf_Row_step, rowF_s _ _ _, _, rfl, q, L.c_Row, dy, _, _, rfl, hq, T.cf_Row.cl, T.nf_Row_step, rowF_s _ _ _, rfl, _, rfl, ?_⟩
        refine ite2 (fun c2 => ?_) (fun c2 => ?_)
        · have c2' : st = st' := V.int.inj (of_decide_eq_true c2)
          refine ⟨_, rfl, p, L.c_Row, dx, _, _, rfl, hp, T.cf_Row.cl, T.nf_Row_phase, rowF_p _ _ _, _, rfl, q, L.c_Row, dy, _, _, rfl, hq, T.cf_Row.cl, T.nf_Row_phase, rowF_p _ _ _, rfl, fin _ ?_⟩
          subst c1' c2'
          rw [Bool.eq_iff_iff]
          simp
        · refine fin false (decide_eq_false fun e => c2 (decide_eq_true ?_))
          have e' : st = st' := congrArg (fun z : RDat => z.2.1) e
          rw [e']
      · refine fin false (decide_eq_false fun e => c1 (decide_eq_true ?_))
        exact congrArg (fun z : RDat => z.1) e
theorem ok_Roweq (T : LX K mg L) : Met P w K mg base L.c_Row "__eq__" 1 L.m_Row_eq ["self", "other"] (spEqR L.c_Row) := T.mm_Row_eq.met fun fd F => fn_Roweq T F
end
theorem EqOf.tyN {C : Addr} {H : Hp} {d : RDat} {v : V} {b : Bool} (h : EqOf C H d v b) : ∃ t, TyN H C v t := by
  cases h with
  | row R => obtain ⟨dx, h⟩ := R.ob; exact ⟨_, .ins h⟩
  | non => exact ⟨_, .non⟩
  | lst e => exact ⟨_, .lst e⟩
  | tup e => exact ⟨_, .tup e⟩
theorem ne_row {C : Addr} {H : Hp} {z W : Addr} {xs : List V} {ts : List Tri} {st ph : Int} {v : V} {b : Bool} {Q : VK} (R : RowAt C H z W xs ts st ph) (h : EqOf C H (ts, st, ph) v b) (k : Q (.bl (!b)) H) : rOwnEq C (spEqR C) E0 Bool.not (.ref z) v H Q := by
  obtain ⟨dx, hz⟩ := R.ob
  obtain ⟨t, ty⟩ := h.tyN
  exact ⟨z, dx, _, t, rfl, hz, ty, z, W, xs, ts, st, ph, v, b, rfl, R, h, b, rfl, k⟩
theorem eq_row {C : Addr} {H : Hp} {z W : Addr} {xs : List V} {ts : List Tri} {st ph : Int} {v : V} {b : Bool} {Q : VK} (R : RowAt C H z W xs ts st ph) (h : EqOf C H (ts, st, ph) v b) (k : Q (.bl b) H) : rOwnEq C (spEqR C) E0 _root_.id (.ref z) v H Q := by
  obtain ⟨dx, hz⟩ := R.ob
  obtain ⟨t, ty⟩ := h.tyN
  exact ⟨z, dx, _, t, rfl, hz, ty, z, W, xs, ts, st, ph, v, b, rfl, R, h, b, rfl, k⟩
/-! ### sets of addresses -/
def AvS : Type := Addr → Prop
instance : Membership Addr AvS := ⟨fun s a => s a⟩
def AvS.non : AvS := fun _ => False
def AvS.add (a : Addr) (s : AvS) : AvS := fun b => b = a ∨ s b
def AvS.dom (H : Hp) : AvS := fun b => H b ≠ none
theorem AvS.mem {a b : Addr} {s : AvS} : b ∈ AvS.add a s ↔ b = a ∨ b ∈ s := Iff.rfl
theorem AvS.hd {a : Addr} {s : AvS} : a ∈ AvS.add a s := .inl rfl
theorem AvS.tl {a b : Addr} {s : AvS} (h : b ∈ s) : b ∈ AvS.add a s := .inr h
theorem AvS.of {H : Hp} {b : Addr} {o : HO} (e : H b = some o) : b ∈ AvS.dom H := by
  show H b ≠ none
  rw [e]
  exact fun z => nomatch z
/-! ### rows played -/
theorem Met.p_m1 {X : Cx} {C : Addr} {k : Nat} {f : Addr} {ps : List Str} {sp : Sp} {m : Str} {o e : Expr} {es : List Expr} {ta : TE} {t : TA} {apos pos : Pos} {pl : Sem Bool} (c : Met X.prog X.w X.K X.mg X.base C m k f ps sp) (cl : Cls X.K C) (hr : Room k X.A) (he : PE X o ta) (ha : PA X (e :: es) t)
    (hst : starEach (e :: es) X.env = (false, eval e X.env) :: starEach es X.env := by rfl) (hpl : (backTo pos (starEach es X.env)).any (·.1) = false := by rfl)
    (ht : eval (.Call (.Attribute o m apos) (e :: es) [] pos) X.env = (do let ov ← eval o X.env; standAt apos.atName; let (f, first) ← holding [ov] (getMethod ov m pl); callWith pos f first (backTo pos (starEach (e :: es) X.env)) (backToKw pos (keywordEach [] X.env))) := by rfl) :
    PE X (.Call (.Attribute o m apos) (e :: es) [] pos) (tMeth C m sp [] E0 ta t) := by
  obtain ⟨fd, F, b⟩ := c.ex
  exact pe_meth he cl c.me F hr b .nil pass0 ha hst hpl ht
theorem TldAt.nl {K : PySem.W.Frag} {H H' : Hp} {x : V} {n k : Nat} {up : Bool} (h : TldAt K H x n k up) (s : NL H H') : TldAt K H' x n k up := by
  obtain ⟨a, e, hq⟩ := h
  refine ⟨a, e, ?_⟩
  rcases hq with hq | hq
  · rcases hq with hq | hq
    · exact SqT.of (s _ _ hq fun _ z => nomatch z)
    · exact .inl (.inr (by obtain ⟨u, hq⟩ := hq; exact ⟨u, s _ _ hq fun _ z => nomatch z⟩))
  · exact .inr hq
def wS (up : Bool) : Str := if up = true then "up" else "down"
def wV (up : Bool) : V := .str (wS up)
theorem wS_up : wS true = "up" := rfl
theorem wS_down : wS false = "down" := rfl
theorem up_ne : ¬ (("down" : Str) = "up") := by decide +kernel
/-- the states behind words, from so many requests on -/
def plS (ts : List Tri) (st ph : Int) : Nat → List StD → List Bool → List StD
  | _, ss, [] => ss
  | n, ss, w :: r => plS ts st ph (n + 1) (sntS ts ss (ph + (n : Int) * st) w) r
theorem plS_app (ts : List Tri) (st ph : Int) : ∀ (ws : List Bool) (n : Nat) (ss : List StD) (w : Bool), plS ts st ph n ss (ws ++ [w]) = sntS ts (plS ts st ph n ss ws) (ph + ((n + ws.length : Nat) : Int) * st) w
  | [], _, _, _ => rfl
  | v :: r, n, ss, w => by
    show plS ts st ph (n + 1) (sntS ts ss (ph + (n : Int) * st) v) (r ++ [w]) = _
    rw [plS_app ts st ph r]
    show _ = sntS ts (plS ts st ph (n + 1) (sntS ts ss (ph + (n : Int) * st) v) r) (ph + ((n + (r.length + 1) : Nat) : Int) * st) w
    rw [show n + 1 + r.length = n + (r.length + 1) by omega]
def plA (ts : List Tri) (st ph : Int) (ws : List Bool) : List StD := plS ts st ph 0 (List.replicate ts.length ("closed", 0)) ws
theorem plA_nil (ts : List Tri) (st ph : Int) : plA ts st ph [] = List.replicate ts.length (("closed", 0) : StD) := rfl
theorem plA_app (ts : List Tri) (st ph : Int) (ws : List Bool) (w : Bool) : plA ts st ph (ws ++ [w]) = sntS ts (plA ts st ph ws) (ph + (ws.length : Int) * st) w := by
  unfold plA
  rw [plS_app, Nat.zero_add]
theorem plS_ok (ts : List Tri) (st ph : Int) : ∀ (ws : List Bool) (n : Nat) (ss : List StD), ss.length = ts.length → (∀ s ∈ ss, okW s) → (plS ts st ph n ss ws).length = ts.length ∧ ∀ s ∈ plS ts st ph n ss ws, okW s
  | [], _, _, h1, h2 => ⟨h1, h2⟩
  | _ :: r, n, _, h1, h2 => plS_ok ts st ph r (n + 1) _ sntS_len (sntS_W h1 h2)
theorem plA_ok (ts : List Tri) (st ph : Int) (ws : List Bool) : (plA ts st ph ws).length = ts.length ∧ ∀ s ∈ plA ts st ph ws, okW s :=
  plS_ok ts st ph ws 0 _ List.length_replicate fun s hs => by rw [List.eq_of_mem_replicate hs]; exact .inl rfl
theorem q1 : ¬ (("row" : Str) = "words") := by decide +kernel
theorem q2 : ¬ (("row" : Str) = "history") := by decide +kernel
theorem q3 : ¬ (("words" : Str) = "history") := by decide +kernel
def plF (r aw ah : Addr) : List (Str × V) := putF "history" (.ref ah) (putF "words" (.ref aw) (putF "row" (.ref r) []))
theorem plF_r (r aw ah : Addr) : (plF r aw ah).lookup ("row" : Str) = some (.ref r) := by
  unfold plF
  rw [lookup_putF, if_neg q2, lookup_putF, if_neg q1, lookup_putF, if_pos rfl]
theorem plF_w (r aw ah : Addr) : (plF r aw ah).lookup ("words" : Str) = some (.ref aw) := by
  unfold plF
  rw [lookup_putF, if_neg q3, lookup_putF, if_pos rfl]
theorem plF_h (r aw ah : Addr) : (plF r aw ah).lookup ("history" : Str) = some (.ref ah) := by
  unfold plF
  rw [lookup_putF, if_pos rfl]
theorem plF_no (r aw ah : Addr) {m : Str} (h1 : ¬ m = "history") (h2 : ¬ m = "words") (h3 : ¬ m = "row") : (plF r aw ah).lookup m = none := by
  unfold plF
  rw [lookup_putF, if_neg h1, lookup_putF, if_neg h2, lookup_putF, if_neg h3]
  all_goals rfl
/-- a Playing stands at p -/
structure PlAt (CR C : Addr) (H : Hp) (p r B aw ah : Addr) (xs : List V) (ts : List Tri) (st ph : Int) (ws : List Bool) (ls : List Addr) : Prop where
  ob : ∃ dx, H p = some (.ins C dx (plF r aw ah))
  row : RowAt CR H r B xs ts st ph
  hw : H aw = some (.lst (ws.map wV))
  hh : H ah = some (.lst (ls.map V.ref))
  ln : ls.length = ws.length + 1
  hs : ∀ (k : Nat) (l : Addr), ls[k]? = some l → ∃ ys, H l = some (.lst ys) ∧ Sts H ys (plA ts st ph (ws.take k))
  n1 : aw ≠ ah
  n2 : aw ∉ ls
  n3 : ah ∉ ls
/-- .. whose own lists are none of these -/
def PlV (CR C : Addr) (av : AvS) (H : Hp) (p : Addr) (ts : List Tri) (st ph : Int) (ws : List Bool) : Prop := ∃ r B aw ah xs ls, PlAt CR C H p r B aw ah xs ts st ph ws ls ∧ ∀ b ∈ av, b ≠ aw ∧ b ≠ ah ∧ b ∉ ls
/-- what stays but for the lists of a list -/
def KeB (av : AvS) (H H' : Hp) : Prop := ∀ b o, H b = some o → (b ∉ av ∨ ∀ xs, o ≠ .lst xs) → H' b = some o
/-- what stays of the lists of a list -/
def KeV (av : AvS) (H H' : Hp) : Prop := ∀ b o, H b = some o → (b ∈ av ∨ ∀ xs, o ≠ .lst xs) → H' b = some o
theorem KeB.nl {av : AvS} {H H' : Hp} (k : KeB av H H') : NL H H' := fun b o e n => k b o e (.inr n)
theorem KeV.nl {av : AvS} {H H' : Hp} (k : KeV av H H') : NL H H' := fun b o e n => k b o e (.inr n)
theorem KeB.same {av : AvS} {H H' : Hp} (s : Same H H') : KeB av H H' := fun b o e _ => s b o e
theorem KeV.same {av : AvS} {H H' : Hp} (s : Same H H') : KeV av H H' := fun b o e _ => s b o e
theorem KeV.trans {av : AvS} {H H1 H2 : Hp} (h : KeV av H H1) (h' : KeV av H1 H2) : KeV av H H2 := fun b o e q => h' b o (h b o e q) q
theorem KeB.kp {av : AvS} {a : Addr} {xs : List V} {H H' : Hp} (k : Kp a H H') (m : a ∈ av) (h : H a = some (.lst xs)) : KeB av H H' := fun b o e q => by
  by_cases c : b = a
  · subst c
    rw [h] at e
    cases e
    rcases q with q | q
    · exact absurd m q
    · exact absurd rfl (q _)
  · exact k b o c e
theorem PlAt.keB {CR C : Addr} {H H' : Hp} {p r B aw ah : Addr} {xs : List V} {ts : List Tri} {st ph : Int} {ws : List Bool} {ls : List Addr} {av : AvS} (Y : PlAt CR C H p r B aw ah xs ts st ph ws ls) (n : ∀ b ∈ av, b ≠ aw ∧ b ≠ ah ∧ b ∉ ls) (k : KeB av H H') : PlAt CR C H' p r B aw ah xs ts st ph ws ls := by
  obtain ⟨dx, ob⟩ := Y.ob
  refine ⟨⟨dx, k _ _ ob (.inr fun _ z => nomatch z)⟩, Y.row.nl k.nl, k _ _ Y.hw (.inl fun m => (n _ m).1 rfl), k _ _ Y.hh (.inl fun m => (n _ m).2.1 rfl), Y.ln, fun j l e => ?_, Y.n1, Y.n2, Y.n3⟩
  obtain ⟨ys, h1, h2⟩ := Y.hs j l e
  exact ⟨ys, k _ _ h1 (.inl fun m => (n _ m).2.2 (List.mem_of_getElem? e)), h2.nl k.nl⟩
theorem PlV.keB {CR C : Addr} {H H' : Hp} {p : Addr} {ts : List Tri} {st ph : Int} {ws : List Bool} {av : AvS} (Y : PlV CR C av H p ts st ph ws) (k : KeB av H H') : PlV CR C av H' p ts st ph ws := by
  obtain ⟨r, B, aw, ah, xs, ls, Y, n⟩ := Y
  exact ⟨r, B, aw, ah, xs, ls, Y.keB n k, n⟩
theorem PlV.same {CR C : Addr} {H H' : Hp} {p : Addr} {ts : List Tri} {st ph : Int} {ws : List Bool} {av : AvS} (Y : PlV CR C av H p ts st ph ws) (s : Same H H') : PlV CR C av H' p ts st ph ws := Y.keB (.same s)
/-- one list more that is none of its own -/
theorem PlV.more {CR C : Addr} {H H' : Hp} {p a : Addr} {ts : List Tri} {st ph : Int} {ws : List Bool} {av : AvS} (Y : PlV CR C av H p ts st ph ws) (s : Same H H') (h : H a = none) : PlV CR C (AvS.add a av) H' p ts st ph ws := by
  obtain ⟨r, B, aw, ah, xs, ls, Y, n⟩ := Y
  refine ⟨r, B, aw, ah, xs, ls, Y.keB n (.same s), fun b hb => ?_⟩
  rcases AvS.mem.mp hb with rfl | hb
  · refine ⟨fun e => ?_, fun e => ?_, fun m => ?_⟩
    · rw [e, Y.hw] at h; cases h
    · rw [e, Y.hh] at h; cases h
    · obtain ⟨j, hj⟩ := List.mem_iff_getElem?.mp m
      obtain ⟨ys, h1, _⟩ := Y.hs j b hj
      rw [h1] at h; cases h
  · exact n b hb
theorem PlV.less {CR C : Addr} {H : Hp} {p : Addr} {ts : List Tri} {st ph : Int} {ws : List Bool} {av aw : AvS} (Y : PlV CR C av H p ts st ph ws) (h : ∀ b ∈ aw, b ∈ av) : PlV CR C aw H p ts st ph ws := by
  obtain ⟨r, B, a1, ah, xs, ls, Y, n⟩ := Y
  exact ⟨r, B, a1, ah, xs, ls, Y, fun b hb => n b (h b hb)⟩
theorem PlV.ob {CR C : Addr} {H : Hp} {p : Addr} {ts : List Tri} {st ph : Int} {ws : List Bool} {av : AvS} (Y : PlV CR C av H p ts st ph ws) : ∃ dx r aw ah, H p = some (.ins C dx (plF r aw ah)) := by
  obtain ⟨r, B, a1, ah, xs, ls, Y, n⟩ := Y
  obtain ⟨dx, h⟩ := Y.ob
  exact ⟨dx, r, a1, ah, h⟩
theorem PlV.rowD {CR C : Addr} {H : Hp} {p : Addr} {ts : List Tri} {st ph : Int} {ws : List Bool} {av : AvS} (Y : PlV CR C av H p ts st ph ws) : ts.length ≤ 12 := by
  obtain ⟨r, B, aw, ah, xs, ls, Y, n⟩ := Y
  exact Y.row.ln
theorem RowAt.kpn {C : Addr} {H H' : Hp} {p r B : Addr} {xs : List V} {ts : List Tri} {st ph : Int} (R : RowAt C H r B xs ts st ph) (k : Kp p H H') (n : r ≠ p) (hp : ∃ D dx fs, H p = some (.ins D dx fs)) : RowAt C H' r B xs ts st ph := by
  obtain ⟨dx, ob⟩ := R.ob
  obtain ⟨D, dy, fs, hp⟩ := hp
  have tp : ∀ b us, H b = some (.tup us) → H' b = some (.tup us) := fun b us e => k _ _ (ne_of e hp (by intro z; cases z)) e
  exact ⟨⟨dx, k _ _ n ob⟩, tp _ _ R.tp, L2.Paired.mapP R.br fun _ _ ⟨a, e, h⟩ => ⟨a, e, tp _ _ h⟩, R.ok, R.ln, R.s0, R.s1, R.p0, R.p1⟩
/-- words as data -/
def wD (up : Bool) : PyData := .str (wS up)
theorem ws_dp {K : PySem.W.Frag} {H : Hp} : ∀ ws : List Bool, DpAll K H (ws.map wV) (ws.map wD)
  | [] => .nil
  | w :: r => .cons (.str _) (ws_dp r)
theorem ws_can : ∀ ws : List Bool, PyData.canLayAll0 (ws.map wD) = true ∧ PyData.depthAll (ws.map wD) ≤ 10
  | [] => ⟨by simp [PyData.canLayAll0], by simp [PyData.depthAll]⟩
  | w :: r => by
    obtain ⟨h1, h2⟩ := ws_can r
    have ok : PyData.strOk (wS w) = true := by cases w <;> decide +kernel
    refine ⟨?_, ?_⟩
    · rw [List.map_cons, PyData.canLayAll0, h1]
      simp [wD, PyData.canLay0, ok]
    · rw [List.map_cons, PyData.depthAll]
      have h3 : (wD w).depth ≤ 10 := by simp [wD, PyData.depth]
      omega
theorem ws_sh (ws : List Bool) : SeqAt.shaped (.list (ws.map wD)) = true := by
  obtain ⟨h1, h2⟩ := ws_can ws
  refine Bool.and_eq_true_iff.mpr ⟨?_, decide_eq_true ?_⟩
  · rw [PyData.canLay0]
    exact h1
  · rw [PyData.depth]
    omega
theorem wS_inj {a b : Bool} : wS a = wS b ↔ a = b := by
  cases a <;> cases b <;> decide +kernel
theorem ws_eqA : ∀ ws vs : List Bool, PyData.eqvAll (ws.map wD) (vs.map wD) = decide (ws = vs)
  | [], [] => by simp [PyData.eqvAll]
  | [], _ :: _ => by simp [PyData.eqvAll]
  | _ :: _, [] => by simp [PyData.eqvAll]
  | a :: ws, b :: vs => by
    rw [List.map_cons, List.map_cons, PyData.eqvAll, ws_eqA ws vs, Bool.eq_iff_iff]
    simp [wD, PyData.eqv, wS_inj]
theorem ws_eq (ws vs : List Bool) : PyData.eqv (.list (ws.map wD)) (.list (vs.map wD)) = decide (ws = vs) := by
  rw [PyData.eqv]
  exact ws_eqA ws vs
theorem Dp.ws {K : PySem.W.Frag} {H : Hp} {a : Addr} {ws : List Bool} (h : H a = some (.lst (ws.map wV))) : Dp K H (.ref a) (.list (ws.map wD)) := .lst (SqL.of h) (ws_dp ws)
theorem word_up (up : Bool) : decide (wV up = V.str "up") = up := by
  cases up with
  | true => exact decide_eq_true rfl
  | false => exact decide_eq_false fun e => up_ne (V.str.inj e)
/-! promises -/
def spIsWord : Sp := fun vs H Q _ => ∃ up, vs = [wV up] ∧ ∀ H', Same H H' → Q (.bl true) H'
def spPInit (CR C : Addr) : Sp := fun vs H Q _ => ∃ p dx r B xs ts st ph, vs = [.ref p, .ref r] ∧ H p = some (.ins C dx []) ∧ RowAt CR H r B xs ts st ph ∧
  ∀ aw ah l H', PlAt CR C H' p r B aw ah xs ts st ph [] [l] → H aw = none → H ah = none → H l = none → Kp p H H' → Q .non H'
def spPBase (CR C : Addr) : Sp := fun vs H Q _ => ∃ p av ts st ph ws, vs = [.ref p] ∧ PlV CR C av H p ts st ph ws ∧ ∀ r B xs, RowAt CR H r B xs ts st ph → Q (.ref r) H
def spPNext (CR C : Addr) : Sp := fun vs H Q _ => ∃ p av ts st ph ws, vs = [.ref p] ∧ PlV CR C av H p ts st ph ws ∧ ws.length ≤ 10000 ∧ Q (.int (ph + (ws.length : Int) * st)) H
def spPReq (K : PySem.W.Frag) (CR C : Addr) : Sp := fun vs H Q _ => ∃ p av ts st ph ws up, vs = [.ref p, wV up] ∧ PlV CR C av H p ts st ph ws ∧ ws.length < 10000 ∧ (∀ b ∈ av, H b ≠ none) ∧
  ∀ x H', TldAt K H' x ts.length (kOf ts (plA ts st ph ws) (ph + (ws.length : Int) * st)) up → PlV CR C av H' p ts st ph (ws ++ [up]) → KeV av H H' → Q x H'
def spPStates (CR C : Addr) : Sp := fun vs H Q _ => ∃ p av ts st ph ws, vs = [.ref p] ∧ PlV CR C av H p ts st ph ws ∧ ∀ l ys H', H' l = some (.lst ys) → Sts H' ys (plA ts st ph ws) → Same H H' → H l = none → Q (.ref l) H'
def spPWhole (CR C : Addr) : Sp := fun vs H Q _ => ∃ p av ts st ph ws, vs = [.ref p] ∧ PlV CR C av H p ts st ph ws ∧ ∀ H', Same H H' → Q (.bl (decide (plA ts st ph ws = List.replicate ts.length (("closed", 0) : StD)))) H'
def spPLog (CR C : Addr) : Sp := fun vs H Q _ => ∃ p av ts st ph ws, vs = [.ref p] ∧ PlV CR C av H p ts st ph ws ∧ ∀ l H', H' l = some (.lst (ws.map wV)) → Same H H' → H l = none → Q (.ref l) H'
theorem playing_made {CR C : Addr} {H : Hp} {Q : Addr → Hp → Prop} {r B : Addr} {xs : List V} {ts : List Tri} {st ph : Int} (R : RowAt CR H r B xs ts st ph) (k : ∀ p H', PlV CR C AvS.non H' p ts st ph [] → (∀ av : AvS, (∀ b ∈ av, H b ≠ none) → PlV CR C av H' p ts st ph []) → Same H H' → H p = none → Q p H') :
    ∀ x dx, H x = none → H dx = none → dx ≠ x → spPInit CR C [.ref x, .ref r] (upd (upd H dx (.own x)) x (.ins C dx [])) (fun v H3 => v = .non ∧ Q x H3) E0 := by
  intro x dx hx hd hne
  have s0 : Same H (upd (upd H dx (.own x)) x (.ins C dx [])) := fun b o e => by
    rw [upd_ne (ne_of_none e hx), upd_ne (ne_of_none e hd)]
    exact e
  refine ⟨x, dx, r, B, xs, ts, st, ph, rfl, upd_same, R.nl (NL.of s0), fun aw ah l H' Y nw nh nl kp => ⟨rfl, k x H' ⟨r, B, aw, ah, xs, [l], Y, fun b hb => hb.elim⟩ (fun av hav => ⟨r, B, aw, ah, xs, [l], Y, fun b hb => ?_⟩) (fun b o e => kp b o (ne_of_none e hx) (s0 b o e)) hx⟩⟩
  refine ⟨fun e => hav b hb ?_, fun e => hav b hb ?_, fun m => hav b hb ?_⟩
  · rw [e]; exact none_of s0 nw
  · rw [e]; exact none_of s0 nh
  · rw [List.mem_singleton.mp m]; exact none_of s0 nl
section
variable {P : Program} {w : World} {K : PySem.W.Frag} {mg : Str → Option Value} {base : Heap} {L : LA}
abbrev N_isword : List Str := ["value"]
theorem sc_isword : FnScope N_isword ["value"] (defScope st_is_word) := ⟨rfl, rfl, rfl, by decide +kernel, rfl, by decide +kernel, by decide +kernel⟩
theorem fn_isword (T : LX K mg L) {fd : FuncData} (F : Fun K "is_word" "is_word" st_is_word L.f_is_word fd) : FnOk P w K mg base CX0 1 L.f_is_word fd ["value"] (spIsWord) := by
  have nd := sc_isword.nd
  refine F.ok sc_isword (fun vs H Q E h => ?_) (fun cdv A outer S H vs Q E hr h => ?_)
  · obtain ⟨up, rfl, _⟩ := h
    rfl
  · obtain ⟨up, rfl, k⟩ := h
    refine ⟨_, (pss_one (ps_ret (pe_and (pe_callB call_isi (by rfl) T.b_isinstance (by decide +kernel) (pa_cons (pv 0) (pa_cons (pe_bltn (by rfl) T.b_str (by decide +kernel : bootBuiltins "str" = some (.type "str")) (v := .ty "str") rfl) pa_nil))) (pe_one (pe_cmpR op_in_seq (pv 0) (pe_tup (pa_cons pe_str (pa_cons pe_str pa_nil))) rfl))))), ?_⟩
    refine ⟨_, rfl, _, .ty "str", _, _, _, rfl, .ty "str", (Kd.str (wS up)).ty, if_pos (beq_self_eq_true _), _, rfl, iteT ⟨_, rfl, (by show 2 ≤ sizeLine; decide), fun p np => ?_⟩⟩
    refine ⟨p, _, rfl, .inr (SqT.of upd_same), rfl, rfl, ?_⟩
    have e : inV (.str (wS up)) [V.str "up", .str "down"] = true := by
      cases up <;> decide +kernel
    show Q (.bl (inV (.str (wS up)) [V.str "up", .str "down"])) _
    rw [e]
    exact k _ (Same.upd np)
theorem ok_isword (T : LX K mg L) : Cal P w K mg base "is_word" 1 L.f_is_word ["value"] (spIsWord) := T.d_is_word.cal fun fd F => fn_isword T F
abbrev N_Playinginit : List Str := ["self", "row"]
theorem sc_Playinginit : FnScope N_Playinginit ["self", "row"] (defScope st_Playing_init) := ⟨rfl, rfl, rfl, by decide +kernel, rfl, by decide +kernel, by decide +kernel⟩
theorem fn_Playinginit (T : LX K mg L) {fd : FuncData} (F : Fun K "__init__" "Playing.__init__" st_Playing_init L.i_Playing fd) : FnOk P w K mg base CX0 4 L.i_Playing fd ["self", "row"] (spPInit L.c_Row L.c_Playing) := by
  have M_Row := T.gc_Row
  have G_closedstates := ok_closedstates (P := P) (w := w) (base := base) T
  have G_Rowlen := ok_Rowlen (P := P) (w := w) (base := base) T
  have nd := sc_Playinginit.nd
  refine F.ok sc_Playinginit (fun vs H Q E h => ?_) (fun cdv A outer S H vs Q E hr h => ?_)
  · obtain ⟨p, dx, r, B, xs, ts, st, ph, rfl, _⟩ := h
    rfl
  · obtain ⟨p, dx, r, B, xs, ts, st, ph, rfl, hp, R, k⟩ := h
    refine ⟨_, (pss_cons (ps_if (pt_not (pt_val (pe_callB call_isi (by rfl) T.b_isinstance (by decide +kernel) (pa_cons (pv 1) (pa_cons (pe_glob rfl M_Row rr) pa_nil))))) (pss_one (ps_never)) pss_nil)
       (pss_cons (ps_fld (pv 0) (pv 1) rfl)
       (pss_cons (ps_fld (pv 0) (pe_lst pa_nil) rfl)
       (pss_one (ps_fld (pv 0) (pe_lst (pa_cons (pe_c G_closedstates (hr.mono (by decide)) rfl (pa_cons (pe_callB (G_Rowlen.c_len (hr.mono (by decide))) (by rfl) T.b_len PySem.boot_len (pa_cons (pv 1) pa_nil)) pa_nil)) pa_nil)) rfl))))), ?_⟩
    obtain ⟨dr, hr'⟩ := R.ob
    have npr : r ≠ p := (ne_of hp hr' (fun z => by
      injection z with _ _ z
      have e := rowF_s B st ph
      rw [← z] at e
      cases e)).symm
    have xl := R.br.len
    have xl12 := R.ln
    have fresh : ∀ {Hx : Hp} {b : Addr}, Kp p H Hx → Hx p ≠ none → Hx b = none → H b = none := fun {Hx b} kx np e => by
      cases q : H b with
      | none => rfl
      | some o =>
        by_cases c : b = p
        · rw [c] at e
          exact absurd e np
        · rw [kx _ _ c q] at e
          cases e
    refine ⟨_, rfl, _, .ref L.c_Row, _, _, _, rfl, .own L.c_Row, T.cf_Row.tyR hr', if_pos (beq_self_eq_true _), _, rfl, iteF ?_⟩
    refine ⟨_, rfl, _, rfl, p, L.c_Playing, dx, [], rfl, hp, T.cf_Playing.cl, T.nf_Playing_row, (by show 0 < 1000; decide), ?_⟩
    obtain ⟨H1, hH1⟩ : ∃ H1 : Hp, H1 = upd H p (.ins L.c_Playing dx (putF "row" (.ref r) [])) := ⟨_, rfl⟩
    rw [← hH1]
    have hp1 : H1 p = some (.ins L.c_Playing dx (putF "row" (.ref r) [])) := by rw [hH1]; exact upd_same
    have k1 : Kp p H H1 := by rw [hH1]; exact Kp.upd
    have R1 := R.kpn k1 npr ⟨_, _, _, hp⟩
    have z1 := putF_len "row" (.ref r) [] (Nat.le_refl 0)
    refine ⟨(by show 0 ≤ sizeLine; decide), fun aw nw => ?_⟩
    have npw : p ≠ aw := ne_of_none hp1 nw
    have hp1' := (Same.upd (o := .lst []) nw) _ _ hp1
    refine ⟨_, rfl, p, L.c_Playing, dx, _, rfl, hp1', T.cf_Playing.cl, T.nf_Playing_words, Nat.lt_of_le_of_lt z1 (by decide), ?_⟩
    obtain ⟨H3, hH3⟩ : ∃ H3 : Hp, H3 = upd (upd H1 aw (.lst [])) p (.ins L.c_Playing dx (putF "words" (.ref aw) (putF "row" (.ref r) []))) := ⟨_, rfl⟩
    rw [← hH3]
    have hp3 : H3 p = some (.ins L.c_Playing dx (putF "words" (.ref aw) (putF "row" (.ref r) []))) := by rw [hH3]; exact upd_same
    have hw3 : H3 aw = some (.lst []) := by rw [hH3, upd_ne npw.symm]; exact upd_same
    have k3 : Kp p (upd H1 aw (.lst [])) H3 := by rw [hH3]; exact Kp.upd
    have R3 := (R1.nl (NL.of (Same.upd (o := .lst []) nw))).kpn k3 npr ⟨_, _, _, hp1'⟩
    have z2 := putF_len "words" (.ref aw) _ z1
    have kA : Kp p H H3 := (k1.trans (Kp.of (Same.upd nw))).trans k3
    obtain ⟨dr3, hr3⟩ := R3.ob
    refine ⟨_, rfl, r, dr3, _, rfl, hr3, r, B, xs, ts, st, ph, rfl, R3, _, rfl, by omega, by omega, xs.length, rfl, by omega, fun l ys H4 hl hy s4 nl => ⟨(by show 1 ≤ sizeLine; decide), fun ah nh => ?_⟩⟩
    rw [xl] at hy
    have s5 := Same.upd (o := .lst [.ref l]) nh
    have hp5 := s5 _ _ (s4 _ _ hp3)
    refine ⟨_, rfl, p, L.c_Playing, dx, _, rfl, hp5, T.cf_Playing.cl, T.nf_Playing_history, Nat.lt_of_le_of_lt z2 (by decide), ?_⟩
    obtain ⟨H6, hH6⟩ : ∃ H6 : Hp, H6 = upd (upd H4 ah (.lst [.ref l])) p (.ins L.c_Playing dx (plF r aw ah)) := ⟨_, rfl⟩
    have hg : upd (upd H4 ah (.lst [.ref l])) p (.ins L.c_Playing dx (putF "history" (.ref ah) (putF "words" (.ref aw) (putF "row" (.ref r) [])))) = H6 := by rw [hH6]; rfl
    rw [hg]
    have k6 : Kp p (upd H4 ah (.lst [.ref l])) H6 := by rw [hH6]; exact Kp.upd
    have hp6 : H6 p = some (.ins L.c_Playing dx (plF r aw ah)) := by rw [hH6]; exact upd_same
    have npl : p ≠ l := ne_of_none hp3 nl
    have nph : p ≠ ah := ne_of_none (s4 _ _ hp3) nh
    have nwl : aw ≠ l := ne_of_none hw3 nl
    have nwh : aw ≠ ah := ne_of_none (s4 _ _ hw3) nh
    have nlh : l ≠ ah := ne_of_none hl nh
    have up6 : ∀ b o, b ≠ p → H4 b = some o → H6 b = some o := fun b o n e => k6 _ _ n (s5 _ _ e)
    have sts6 : Sts H6 ys (List.replicate ts.length ("closed", 0)) := L2.Paired.mapP hy fun _ _ ⟨a, e, h⟩ => ⟨a, e, up6 _ _ (ne_of h (s4 _ _ hp3) (by intro z; cases z)) h⟩
    refine k aw ah l H6 ⟨⟨dx, hp6⟩, ((R3.nl (NL.of s4)).nl (NL.of s5)).kpn k6 npr ⟨_, _, _, hp5⟩, up6 _ _ npw.symm (s4 _ _ hw3), k6 _ _ nph.symm upd_same, rfl, fun j b e => ?_, nwh, by simpa using nwl, by simpa using nlh.symm⟩
      (fresh k1 (by rw [hp1]; exact fun z => nomatch z) nw) (fresh (kA.trans (Kp.of s4)) (by rw [s4 _ _ hp3]; exact fun z => nomatch z) nh) (fresh kA (by rw [hp3]; exact fun z => nomatch z) nl) ((kA.trans (Kp.of (s4.trans s5))).trans k6)
    cases j with
    | zero =>
      cases e
      exact ⟨ys, up6 _ _ npl.symm hl, sts6⟩
    | succ j => cases e
abbrev N_Playingbaserow : List Str := ["self"]
theorem sc_Playingbaserow : FnScope N_Playingbaserow ["self"] (defScope st_Playing_base_row) := ⟨rfl, rfl, rfl, by decide +kernel, rfl, by decide +kernel, by decide +kernel⟩
theorem fn_Playingbaserow (T : LX K mg L) {fd : FuncData} (F : Fun K "base_row" "Playing.base_row" st_Playing_base_row L.m_Playing_base_row fd) : FnOk P w K mg base CX0 1 L.m_Playing_base_row fd ["self"] (spPBase L.c_Row L.c_Playing) := by
  have nd := sc_Playingbaserow.nd
  refine F.ok sc_Playingbaserow (fun vs H Q E h => ?_) (fun cdv A outer S H vs Q E hr h => ?_)
  · obtain ⟨p, av, ts, st, ph, ws, rfl, _⟩ := h
    rfl
  · obtain ⟨p, av, ts, st, ph, ws, rfl, ⟨r, B, aw, ah, xs, ls, Y, n⟩, k⟩ := h
    refine ⟨_, (pss_one (ps_ret (pe_fld (pv 0) rfl))), ?_⟩
    obtain ⟨dx, hp⟩ := Y.ob
    exact ⟨_, rfl, p, L.c_Playing, dx, _, _, rfl, hp, T.cf_Playing.cl, T.nf_Playing_row, plF_r _ _ _, k r B xs Y.row⟩
theorem ok_Playingbaserow (T : LX K mg L) : Met P w K mg base L.c_Playing "base_row" 1 L.m_Playing_base_row ["self"] (spPBase L.c_Row L.c_Playing) := T.mm_Playing_base_row.met fun fd F => fn_Playingbaserow T F
abbrev N_Playingnextrequest : List Str := ["self"]
theorem sc_Playingnextrequest : FnScope N_Playingnextrequest ["self"] (defScope st_Playing_next_request) := ⟨rfl, rfl, rfl, by decide +kernel, rfl, by decide +kernel, by decide +kernel⟩
theorem fn_Playingnextrequest (T : LX K mg L) {fd : FuncData} (F : Fun K "next_request" "Playing.next_request" st_Playing_next_request L.m_Playing_next_request fd) : FnOk P w K mg base CX0 4 L.m_Playing_next_request fd ["self"] (spPNext L.c_Row L.c_Playing) := by
  have G_requesttime := ok_requesttime (P := P) (w := w) (base := base) T
  have nd := sc_Playingnextrequest.nd
  refine F.ok sc_Playingnextrequest (fun vs H Q E h => ?_) (fun cdv A outer S H vs Q E hr h => ?_)
  · obtain ⟨p, av, ts, st, ph, ws, rfl, _⟩ := h
    rfl
  · obtain ⟨p, av, ts, st, ph, ws, rfl, ⟨r, B, aw, ah, xs, ls, Y, n⟩, wl, k⟩ := h
    refine ⟨_, (pss_one (ps_ret (pe_c G_requesttime (hr.mono (by decide)) rfl (pa_cons (pe_fld (pv 0) rfl) (pa_cons (pe_callB call_len_seq (by rfl) T.b_len PySem.boot_len (pa_cons (pe_fld (pv 0) rfl) pa_nil)) pa_nil))))), ?_⟩
    obtain ⟨dx, hp⟩ := Y.ob
    have wb : ((ws.length : Nat) : Int) ≤ BB := Int.le_trans (show ((ws.length : Nat) : Int) ≤ 10000 by omega) (Int.le_trans (PB_of (n := 20) (by decide +kernel)) (PB_le (by decide)))
    refine ⟨_, rfl, p, L.c_Playing, dx, _, _, rfl, hp, T.cf_Playing.cl, T.nf_Playing_row, plF_r _ _ _, _, rfl, p, L.c_Playing, dx, _, _, rfl, hp, T.cf_Playing.cl, T.nf_Playing_words, plF_w _ _ _, aw, _, rfl, .inl (SqL.of Y.hw), r, B, xs, ts, st, ph, ((ws.map wV).length : Nat), rfl, Y.row, by omega, by rw [List.length_map]; exact wb, ?_⟩
    rw [List.length_map]
    exact k
theorem ok_Playingnextrequest (T : LX K mg L) : Met P w K mg base L.c_Playing "next_request" 4 L.m_Playing_next_request ["self"] (spPNext L.c_Row L.c_Playing) := T.mm_Playing_next_request.met fun fd F => fn_Playingnextrequest T F
abbrev N_Playingstatelist : List Str := ["self"]
theorem sc_Playingstatelist : FnScope N_Playingstatelist ["self"] (defScope st_Playing_state_list) := ⟨rfl, rfl, rfl, by decide +kernel, rfl, by decide +kernel, by decide +kernel⟩
theorem fn_Playingstatelist (T : LX K mg L) {fd : FuncData} (F : Fun K "state_list" "Playing.state_list" st_Playing_state_list L.m_Playing_state_list fd) : FnOk P w K mg base CX0 1 L.m_Playing_state_list fd ["self"] (spPStates L.c_Row L.c_Playing) := by
  have nd := sc_Playingstatelist.nd
  refine F.ok sc_Playingstatelist (fun vs H Q E h => ?_) (fun cdv A outer S H vs Q E hr h => ?_)
  · obtain ⟨p, av, ts, st, ph, ws, rfl, _⟩ := h
    rfl
  · obtain ⟨p, av, ts, st, ph, ws, rfl, ⟨r, B, aw, ah, xs, ls, Y, n⟩, k⟩ := h
    refine ⟨_, (pss_one (ps_ret (pe_callTy call_list_of (by rfl) T.b_list (by decide +kernel) (pa_cons (pe_ix (r := rIxL K) ix_list (pe_fld (pv 0) rfl) (pe_un un_neg pe_int) (fun _ _ => rfl)) pa_nil)))), ?_⟩
    obtain ⟨dx, hp⟩ := Y.ob
    obtain ⟨ini, l0, hl0⟩ : ∃ ini l0, ls = ini ++ [l0] := ⟨_, _, (List.dropLast_concat_getLast (by intro e; have := Y.ln; rw [e] at this; cases this)).symm⟩
    have e0 : ls[ws.length]? = some l0 := by
      have := Y.ln
      rw [hl0, List.length_append] at this
      have e : ini.length = ws.length := by have h : ini.length + 1 = ws.length + 1 := this; omega
      rw [hl0, ← e, List.getElem?_append_right (Nat.le_refl _), Nat.sub_self]
      rfl
    obtain ⟨ys, h1, h2⟩ := Y.hs _ _ e0
    rw [List.take_length] at h2
    have hh := Y.hh
    rw [hl0, List.map_append] at hh
    refine ⟨_, rfl, p, L.c_Playing, dx, _, _, rfl, hp, T.cf_Playing.cl, T.nf_Playing_history, plF_h _ _ _, 1, rfl, ah, _, -1, .ref l0, rfl, rfl, SqL.of hh, atI_last _ _, l0, ys, rfl, .inl (SqL.of h1), fun l nl => ?_⟩
    exact k l ys _ upd_same (h2.same (Same.upd nl)) (Same.upd nl) nl
theorem ok_Playingstatelist (T : LX K mg L) : Met P w K mg base L.c_Playing "state_list" 1 L.m_Playing_state_list ["self"] (spPStates L.c_Row L.c_Playing) := T.mm_Playing_state_list.met fun fd F => fn_Playingstatelist T F
abbrev N_Playinglog : List Str := ["self"]
theorem sc_Playinglog : FnScope N_Playinglog ["self"] (defScope st_Playing_log) := ⟨rfl, rfl, rfl, by decide +kernel, rfl, by decide +kernel, by decide +kernel⟩
theorem fn_Playinglog (T : LX K mg L) {fd : FuncData} (F : Fun K "log" "Playing.log" st_Playing_log L.m_Playing_log fd) : FnOk P w K mg base CX0 1 L.m_Playing_log fd ["self"] (spPLog L.c_Row L.c_Playing) := by
  have nd := sc_Playinglog.nd
  refine F.ok sc_Playinglog (fun vs H Q E h => ?_) (fun cdv A outer S H vs Q E hr h => ?_)
  · obtain ⟨p, av, ts, st, ph, ws, rfl, _⟩ := h
    rfl
  · obtain ⟨p, av, ts, st, ph, ws, rfl, ⟨r, B, aw, ah, xs, ls, Y, n⟩, k⟩ := h
    refine ⟨_, (pss_one (ps_ret (pe_callTy call_list_of (by rfl) T.b_list (by decide +kernel) (pa_cons (pe_fld (pv 0) rfl) pa_nil)))), ?_⟩
    obtain ⟨dx, hp⟩ := Y.ob
    exact ⟨_, rfl, p, L.c_Playing, dx, _, _, rfl, hp, T.cf_Playing.cl, T.nf_Playing_words, plF_w _ _ _, aw, _, rfl, .inl (SqL.of Y.hw), fun l nl => k l _ upd_same (Same.upd nl) nl⟩
theorem ok_Playinglog (T : LX K mg L) : Met P w K mg base L.c_Playing "log" 1 L.m_Playing_log ["self"] (spPLog L.c_Row L.c_Playing) := T.mm_Playing_log.met fun fd F => fn_Playinglog T F
abbrev N_Playingrequest : List Str := ["self", "word", "told", "states"]
theorem sc_Playingrequest : FnScope N_Playingrequest ["self", "word"] (defScope st_Playing_request) := ⟨rfl, rfl, rfl, by decide +kernel, rfl, by decide +kernel, by decide +kernel⟩
theorem fn_Playingrequest (T : LX K mg L) {fd : FuncData} (F : Fun K "request" "Playing.request" st_Playing_request L.m_Playing_request fd) : FnOk P w K mg base CX0 6 L.m_Playing_request fd ["self", "word"] (spPReq K L.c_Row L.c_Playing) := by
  obtain ⟨tk_MOST_REQUESTS, c_MOST_REQUESTS⟩ := T.n_MOST_REQUESTS
  have G_sent := ok_sent (P := P) (w := w) (base := base) T
  have G_Playingnextrequest := ok_Playingnextrequest (P := P) (w := w) (base := base) T
  have G_isword := ok_isword (P := P) (w := w) (base := base) T
  have nd := sc_Playingrequest.nd
  refine F.ok sc_Playingrequest (fun vs H Q E h => ?_) (fun cdv A outer S H vs Q E hr h => ?_)
  · obtain ⟨p, av, ts, st, ph, ws, up, rfl, _⟩ := h
    rfl
  · obtain ⟨p, av, ts, st, ph, ws, up, rfl, PY, wl, na, k⟩ := h
    refine ⟨_, (pss_cons (ps_if (pt_not (pt_val (pe_c G_isword (hr.mono (by decide)) rfl (pa_cons (pv 1) pa_nil)))) (pss_one (ps_never)) pss_nil)
       (pss_cons (ps_if (pt_cmpR op_ge (pe_callB call_len_seq (by rfl) T.b_len PySem.boot_len (pa_cons (pe_fld (pv 0) rfl) pa_nil)) (pe_gI c_MOST_REQUESTS) (nomark _)) (pss_one (ps_never)) pss_nil)
       (pss_cons (ps_asg (pe_c G_sent (hr.mono (by decide)) rfl (pa_cons (pe_fld (pe_fld (pv 0) rfl) rfl) (pa_cons (pe_ix (r := rIxL K) ix_list (pe_fld (pv 0) rfl) (pe_un un_neg pe_int) (fun _ _ => rfl)) (pa_cons (G_Playingnextrequest.p_m0 T.cf_Playing.cl (hr.mono (by decide)) (pv 0)) (pa_cons (pe_cmpR op_eq (pv 1) pe_str (nomark _)) pa_nil))))) (pg_tup rfl (pgs_cons (pg_name (i := 2) nd rfl (Or.inl rfl)) (pgs_cons (pg_name (i := 3) nd rfl (Or.inl rfl)) pgs_nil))))
       (pss_cons (ps_expr (pe_bm PySem.F.plainAttrs_list PySem.F.slot_list_append PySem.F.type_list_append mt_append (pe_fld (pv 0) rfl) (pa_cons (pv 1) pa_nil)))
       (pss_cons (ps_expr (pe_bm PySem.F.plainAttrs_list PySem.F.slot_list_append PySem.F.type_list_append mt_append (pe_fld (pv 0) rfl) (pa_cons (pv 3) pa_nil)))
       (pss_one (ps_ret (pv 2)))))))), ?_⟩
    have PY0 := PY
    obtain ⟨r, B, aw, ah, xs, ls, Y, n⟩ := PY
    obtain ⟨dx, hp⟩ := Y.ob
    obtain ⟨dr, hr'⟩ := Y.row.ob
    obtain ⟨al, aok⟩ := plA_ok ts st ph ws
    refine ⟨_, rfl, up, rfl, fun H1 s1 => ⟨_, rfl, iteF ?_⟩⟩
    have Y1 := Y.keB n (.same s1)
    refine ⟨_, rfl, p, L.c_Playing, dx, _, _, rfl, s1 _ _ hp, T.cf_Playing.cl, T.nf_Playing_words, plF_w _ _ _, aw, _, rfl, .inl (SqL.of Y1.hw), _, _, rfl, rfl, _, rfl, ite2 (fun c => ?_) (fun _ => ?_)⟩
    · have c' := of_decide_eq_true c
      rw [List.length_map] at c'
      omega
    obtain ⟨ini, l0, hl0⟩ : ∃ ini l0, ls = ini ++ [l0] := ⟨_, _, (List.dropLast_concat_getLast (by intro e; have := Y.ln; rw [e] at this; cases this)).symm⟩
    have il : ini.length = ws.length := by
      have := Y.ln
      rw [hl0, List.length_append] at this
      have h : ini.length + 1 = ws.length + 1 := this
      omega
    have e0 : ls[ws.length]? = some l0 := by
      rw [hl0, ← il, List.getElem?_append_right (Nat.le_refl _), Nat.sub_self]
      rfl
    obtain ⟨ys, h1, h2⟩ := Y1.hs _ _ e0
    rw [List.take_length] at h2
    have hh := Y1.hh
    rw [hl0, List.map_append] at hh
    refine ⟨_, rfl, p, L.c_Playing, dx, _, _, rfl, s1 _ _ hp, T.cf_Playing.cl, T.nf_Playing_row, plF_r _ _ _, r, L.c_Row, dr, _, _, rfl, s1 _ _ hr', T.cf_Row.cl, T.nf_Row_breakers, rowF_b _ _ _, ?_⟩
    refine ⟨_, rfl, p, L.c_Playing, dx, _, _, rfl, s1 _ _ hp, T.cf_Playing.cl, T.nf_Playing_history, plF_h _ _ _, 1, rfl, ah, _, -1, .ref l0, rfl, rfl, SqL.of hh, atI_last _ _, ?_⟩
    refine ⟨_, rfl, p, dx, _, rfl, s1 _ _ hp, plF_no _ _ _ (by decide +kernel) (by decide +kernel) (by decide +kernel), p, av, ts, st, ph, ws, rfl, PY0.same s1, Nat.le_of_lt wl, ?_⟩
    have eu : decide (wV up = V.str "up") = up := by
      cases up with
      | true => exact decide_eq_true rfl
      | false => exact decide_eq_false fun e => up_ne (V.str.inj e)
    refine ⟨_, rfl, rfl, B, l0, xs, ys, ts, plA ts st ph ws, _, _, rfl, SqT.of Y1.row.tp, Y1.row.br, h1, h2, al, by have := Y.row.ln; omega, aok, fun q x l2 ys2 H2 hq tx hl2 hs2 s2 nq nl2 => ?_⟩
    rw [eu] at tx hs2
    refine ⟨q, _, rfl, SqT.of hq, rfl, _, _, rfl, _, _, rfl, rfl, ?_⟩
    have s12 := s1.trans s2
    have Y2 := Y.keB n (.same s12)
    refine ⟨_, rfl, p, L.c_Playing, dx, _, _, rfl, s12 _ _ hp, T.cf_Playing.cl, T.nf_Playing_words, plF_w _ _ _, .inl ⟨rfl, _, SqL.of Y2.hw⟩, _, rfl, aw, _, _, rfl, rfl, Y2.hw, small1 (by rw [List.length_map]; omega), ?_⟩
    obtain ⟨H3, hH3⟩ : ∃ H3 : Hp, H3 = upd H2 aw (.lst (ws.map wV ++ [wV up])) := ⟨_, rfl⟩
    rw [← hH3]
    have k3 : Kp aw H2 H3 := by rw [hH3]; exact Kp.upd
    have n3 : NL H2 H3 := Kp.nl k3 Y2.hw
    have hw3 : H3 aw = some (.lst ((ws ++ [up]).map wV)) := by rw [hH3, upd_same, List.map_append]; rfl
    have hh3 : H3 ah = some (.lst (ls.map V.ref)) := k3 _ _ Y.n1.symm Y2.hh
    have hp3 : H3 p = some (.ins L.c_Playing dx (plF r aw ah)) := n3 _ _ (s12 _ _ hp) fun _ z => nomatch z
    refine ⟨_, rfl, p, L.c_Playing, dx, _, _, rfl, hp3, T.cf_Playing.cl, T.nf_Playing_history, plF_h _ _ _, .inl ⟨rfl, _, SqL.of hh3⟩, _, rfl, ah, _, _, rfl, rfl, hh3, small1 (by rw [List.length_map, Y.ln]; omega), ?_⟩
    obtain ⟨H4, hH4⟩ : ∃ H4 : Hp, H4 = upd H3 ah (.lst (ls.map V.ref ++ [.ref l2])) := ⟨_, rfl⟩
    rw [← hH4]
    have k4 : Kp ah H3 H4 := by rw [hH4]; exact Kp.upd
    have n4 : NL H3 H4 := Kp.nl k4 hh3
    have nl2w : l2 ≠ aw := (ne_of_none Y1.hw nl2).symm
    have nl2h : l2 ≠ ah := (ne_of_none Y1.hh nl2).symm
    have n34 := n3.trans n4
    have keep : ∀ b o, b ≠ aw → b ≠ ah → H2 b = some o → H4 b = some o := fun b o x1 x2 e => k4 _ _ x2 (k3 _ _ x1 e)
    refine ⟨_, rfl, k x H4 ?_ ⟨r, B, aw, ah, xs, ls ++ [l2], ⟨⟨dx, n4 _ _ hp3 fun _ z => nomatch z⟩, Y2.row.nl n34, k4 _ _ Y.n1 hw3, by rw [hH4, upd_same, List.map_append]; rfl, by rw [List.length_append, List.length_append, Y.ln]; rfl, fun j l e => ?_, Y.n1, ?_, ?_⟩, fun b hb => ?_⟩ fun b o e q => ?_⟩
    · obtain ⟨a, e, hq⟩ := tx
      refine ⟨a, e, ?_⟩
      rcases hq with hq | hq
      · rcases hq with hq | hq
        · exact SqT.of (n34 _ _ hq fun _ z => nomatch z)
        · exact .inl (.inr (by obtain ⟨u, hq⟩ := hq; exact ⟨u, n34 _ _ hq fun _ z => nomatch z⟩))
      · exact .inr hq
    · by_cases c : j < ls.length
      · rw [List.getElem?_append_left c] at e
        obtain ⟨zs, f1, f2⟩ := Y2.hs j l e
        have lm := List.mem_of_getElem? e
        refine ⟨zs, keep _ _ (fun z => Y.n2 (z ▸ lm)) (fun z => Y.n3 (z ▸ lm)) f1, ?_⟩
        rw [List.take_append_of_le_length (by have := Y.ln; omega)]
        exact f2.nl n34
      · have jl : j = ls.length := by
          have := (List.getElem?_eq_some_iff.mp e).1
          rw [List.length_append] at this
          have h : j < ls.length + 1 := this
          omega
        subst jl
        rw [List.getElem?_append_right (Nat.le_refl _), Nat.sub_self] at e
        cases e
        refine ⟨ys2, keep _ _ nl2w nl2h hl2, ?_⟩
        rw [List.take_of_length_le (by rw [List.length_append, Y.ln]; exact Nat.le_refl _), plA_app]
        exact hs2.nl n34
    · rw [List.mem_append, not_or]
      exact ⟨Y.n2, by simpa using nl2w.symm⟩
    · rw [List.mem_append, not_or]
      exact ⟨Y.n3, by simpa using nl2h.symm⟩
    · obtain ⟨m1, m2, m3⟩ := n b hb
      refine ⟨m1, m2, ?_⟩
      rw [List.mem_append, not_or]
      exact ⟨m3, by rw [List.mem_singleton]; exact fun z => na b hb (z ▸ none_of s1 nl2)⟩
    · have m1 : b ≠ aw := fun z => by
        subst z
        rcases q with q | q
        · exact (n _ q).1 rfl
        · rw [Y.hw] at e; cases e; exact q _ rfl
      have m2 : b ≠ ah := fun z => by
        subst z
        rcases q with q | q
        · exact (n _ q).2.1 rfl
        · rw [Y.hh] at e; cases e; exact q _ rfl
      exact keep _ _ m1 m2 (s12 _ _ e)
theorem ok_Playingrequest (T : LX K mg L) : Met P w K mg base L.c_Playing "request" 6 L.m_Playing_request ["self", "word"] (spPReq K L.c_Row L.c_Playing) := T.mm_Playing_request.met fun fd F => fn_Playingrequest T F
abbrev N_Playingiswhole : List Str := ["self"]
theorem sc_Playingiswhole : FnScope N_Playingiswhole ["self"] (defScope st_Playing_is_whole) := ⟨rfl, rfl, rfl, by decide +kernel, rfl, by decide +kernel, by decide +kernel⟩
theorem fn_Playingiswhole (T : LX K mg L) {fd : FuncData} (F : Fun K "is_whole" "Playing.is_whole" st_Playing_is_whole L.m_Playing_is_whole fd) : FnOk P w K mg base CX0 4 L.m_Playing_is_whole fd ["self"] (spPWhole L.c_Row L.c_Playing) := by
  have G_closedstates := ok_closedstates (P := P) (w := w) (base := base) T
  have G_Rowlen := ok_Rowlen (P := P) (w := w) (base := base) T
  have nd := sc_Playingiswhole.nd
  refine F.ok sc_Playingiswhole (fun vs H Q E h => ?_) (fun cdv A outer S H vs Q E hr h => ?_)
  · obtain ⟨p, av, ts, st, ph, ws, rfl, _⟩ := h
    rfl
  · obtain ⟨p, av, ts, st, ph, ws, rfl, ⟨r, B, aw, ah, xs, ls, Y, n⟩, k⟩ := h
    refine ⟨_, (pss_one (ps_ret (pe_cmpR (op_eqD hr.units) (pe_ix (r := rIxL K) ix_list (pe_fld (pv 0) rfl) (pe_un un_neg pe_int) (fun _ _ => rfl)) (pe_c G_closedstates (hr.mono (by decide)) rfl (pa_cons (pe_callB (G_Rowlen.c_len (hr.mono (by decide))) (by rfl) T.b_len PySem.boot_len (pa_cons (pe_fld (pv 0) rfl) pa_nil)) pa_nil)) (nomark _)))), ?_⟩
    obtain ⟨dx, hp⟩ := Y.ob
    obtain ⟨dr, hr'⟩ := Y.row.ob
    have xl := Y.row.br.len
    have xl12 := Y.row.ln
    obtain ⟨al, aok⟩ := plA_ok ts st ph ws
    obtain ⟨ini, l0, hl0⟩ : ∃ ini l0, ls = ini ++ [l0] := ⟨_, _, (List.dropLast_concat_getLast (by intro e; have := Y.ln; rw [e] at this; cases this)).symm⟩
    have e0 : ls[ws.length]? = some l0 := by
      have := Y.ln
      rw [hl0, List.length_append] at this
      have e : ini.length = ws.length := by have h : ini.length + 1 = ws.length + 1 := this; omega
      rw [hl0, ← e, List.getElem?_append_right (Nat.le_refl _), Nat.sub_self]
      rfl
    obtain ⟨ys, h1, h2⟩ := Y.hs _ _ e0
    rw [List.take_length] at h2
    have hh := Y.hh
    rw [hl0, List.map_append] at hh
    refine ⟨_, rfl, p, L.c_Playing, dx, _, _, rfl, hp, T.cf_Playing.cl, T.nf_Playing_history, plF_h _ _ _, 1, rfl, ah, _, -1, .ref l0, rfl, rfl, SqL.of hh, atI_last _ _, ?_⟩
    refine ⟨_, rfl, p, L.c_Playing, dx, _, _, rfl, hp, T.cf_Playing.cl, T.nf_Playing_row, plF_r _ _ _, r, dr, _, rfl, hr', r, B, xs, ts, st, ph, rfl, Y.row, _, rfl, by omega, by omega, xs.length, rfl, by omega, fun l ys2 H2 hl2 hy2 s2 n2 => ?_⟩
    rw [xl] at hy2
    refine ⟨_, _, Sts.dpl (s2 _ _ h1) (h2.same s2), Sts.dpl hl2 hy2, shSts aok, shSts fun s hs => by rw [List.eq_of_mem_replicate hs]; exact .inl rfl, ?_⟩
    rw [eqSts]
    exact k H2 s2
theorem ok_Playingiswhole (T : LX K mg L) : Met P w K mg base L.c_Playing "is_whole" 4 L.m_Playing_is_whole ["self"] (spPWhole L.c_Row L.c_Playing) := T.mm_Playing_is_whole.met fun fd F => fn_Playingiswhole T F
end
section
variable {X : Cx} {L : LA}
/-- Playing(..) -/
theorem pe_mkPlaying (T : LX X.K X.mg L) (hr : Room 5 X.A) {p pos : Pos} {e : Expr} {es : List Expr} {t : TA} (hg : Gl X "Playing") (ha : PA X (e :: es) t)
    (he : starEach (e :: es) X.env = (false, eval e X.env) :: starEach es X.env := by rfl) (hpl : (backTo pos (starEach es X.env)).any (·.1) = false := by rfl) : PE X (.Call (.Name "Playing" p) (e :: es) [] pos) (tMake L.c_Playing (spPInit L.c_Row L.c_Playing) [] E0 t) := by
  obtain ⟨fd, F, b⟩ := T.in_Playing
  exact pe_make T.mk_Playing (fn_Playinginit T F) hr hg T.gc_Playing b .nil pass0 ha (by decide) he hpl
end
/-! ### the law's own draws -/
/-- a source of draws at a: at most n were drawn -/
def Src (H : Hp) (a : Addr) (n : Nat) : Prop := ∃ x y z : Int, H a = some (.lst [.int x, .int y, .int z]) ∧ 0 ≤ x ∧ 0 ≤ y ∧ y < 2147483647 ∧ 0 ≤ z ∧ z ≤ n
theorem Src.mono {H : Hp} {a : Addr} {n m : Nat} (h : Src H a n) (l : n ≤ m) : Src H a m := by
  obtain ⟨x, y, z, e, h1, h2, h3, h4, h5⟩ := h
  exact ⟨x, y, z, e, h1, h2, h3, h4, by omega⟩
theorem Src.same {H H' : Hp} {a : Addr} {n : Nat} (h : Src H a n) (s : Same H H') : Src H' a n := by
  obtain ⟨x, y, z, e, r⟩ := h
  exact ⟨x, y, z, s _ _ e, r⟩
theorem Src.has {H : Hp} {a : Addr} {n : Nat} (h : Src H a n) : ∃ xs, H a = some (.lst xs) := by
  obtain ⟨x, y, z, e, r⟩ := h
  exact ⟨_, e⟩
def spSrcOf : Sp := fun vs H Q _ => ∃ c, vs = [.int c] ∧ ∀ a H', H a = none → Same H H' → Src H' a 0 → Q (.ref a) H'
def spNext : Sp := fun vs H Q _ => ∃ (a : Addr) (m : Int) (n : Nat), vs = [.ref a, .int m] ∧ 0 < m ∧ m.natAbs < 2 ^ 1100 ∧ Src H a n ∧ n ≤ 900000 ∧ ∀ (r : Int) H', 0 ≤ r → r < m → Src H' a (n + 1101) → Kp a H H' → Q (.int r) H'
def spOne : Sp := fun vs H Q _ => ∃ (a l : Addr) (xs : List V) (n : Nat), vs = [.ref a, .ref l] ∧ a ≠ l ∧ H l = some (.lst xs) ∧ 0 < xs.length ∧ xs.length ≤ 100000 ∧ Src H a n ∧ n ≤ 900000 ∧ ∀ v H', v ∈ xs → Src H' a (n + 1101) → Kp a H H' → Q v H'
def spCell (K : PySem.W.Frag) : Sp := fun vs H Q _ => ∃ (a : Addr) (ns : List Int) (k : Int), vs = [.ref a, .int k] ∧ SqL K H a (ns.map V.int) ∧ 0 ≤ k ∧ ∀ z, Q (.int z) H
def primes : List V := [.int 2147483647, .int 2147483629, .int 2147483587, .int 2147483579, .int 2147483563, .int 2147483549, .int 2147483543]
theorem prime_at (i : Int) (h0 : 0 ≤ i) (h7 : i < 7) : ∃ p : Int, atI primes i = some (.int p) ∧ 0 < p ∧ p ≤ 2147483647 := by
  have : i = 0 ∨ i = 1 ∨ i = 2 ∨ i = 3 ∨ i = 4 ∨ i = 5 ∨ i = 6 := by omega
  rcases this with rfl | rfl | rfl | rfl | rfl | rfl | rfl <;> exact ⟨_, rfl, by decide, by decide⟩
theorem atI_of {α : Type} {xs : List α} {i : Int} (h0 : 0 ≤ i) (h1 : i < xs.length) : ∃ v, atI xs i = some v ∧ v ∈ xs := by
  have hj : i.toNat < xs.length := by omega
  refine ⟨xs[i.toNat], ?_, List.getElem_mem _⟩
  have e : ((i.toNat : Nat) : Int) = i := by omega
  have := atI_nat (xs := xs) (j := i.toNat) (v := xs[i.toNat]) (List.getElem?_eq_getElem hj)
  rwa [e] at this
section
variable {P : Program} {w : World} {K : PySem.W.Frag} {mg : Str → Option Value} {base : Heap} {L : LA}
theorem sc_srcof : FnScope ["_law_cell"] ["_law_cell"] (defScope st__law_source_of) := ⟨rfl, rfl, rfl, by decide +kernel, rfl, by decide +kernel, by decide +kernel⟩
theorem ok_wsourceof (T : LX K mg L) : Cal P w K mg base "_law_source_of" 1 L.f__law_source_of ["_law_cell"] spSrcOf := T.d__law_source_of.cal fun fd F => by
  refine F.ok sc_srcof (fun vs H Q E h => ?_) (fun cdv A outer s H vs Q E hr h => ?_)
  · obtain ⟨c, rfl, _⟩ := h
    rfl
  · obtain ⟨c, rfl, k⟩ := h
    refine ⟨_, pss_one (ps_ret (pe_lst (pa_cons (pe_op op_mul (pv 0) (pe_callTy call_int1 (by rfl) T.b_int (by decide +kernel) (pa_cons (pe_cmpR op_ge (pv 0) (pe_op op_pow pe_int pe_int) (nomark _)) pa_nil)))
      (pa_cons (pe_op op_mod (pe_callTy call_int1 (by rfl) T.b_int (by decide +kernel) (pa_cons (pv 0) pa_nil)) pe_int) (pa_cons pe_int pa_nil))))), ?_⟩
    refine ⟨_, rfl, _, rfl, _, _, rfl, rfl, ⟨by decide, by decide, by decide⟩, _, _, rfl, rfl, .inr ⟨_, rfl, _, _, rfl, rfl, ?_, ?_⟩⟩
    · refine .inr ?_
      split <;> decide
    · refine ⟨_, rfl, .inl ⟨_, rfl, _, _, rfl, rfl, (by show (0 : Int) < 2147483647; decide), ?_⟩⟩
      refine ⟨(by show 3 ≤ sizeLine; decide), fun l hl => ?_⟩
      refine k l _ hl (Same.upd hl) ⟨_, _, _, upd_same, ?_, Int.emod_nonneg _ (by decide), Int.emod_lt_of_pos _ (by decide), Int.le_refl _, Int.le_refl _⟩
      by_cases hc : (10 : Int) ^ (18 : Int).toNat ≤ c
      · rw [decide_eq_true hc, if_pos rfl, Int.mul_one]
        exact Int.le_trans (by decide) hc
      · rw [decide_eq_false hc, if_neg Bool.false_ne_true, Int.mul_zero]
        exact Int.le_refl _
theorem sc_draw : FnScope ["_law_source", "_law_bound", "_law_result", "_law_reach", "_law_prime", "_law_mixed"] ["_law_source", "_law_bound"] (defScope st__law_draw) := ⟨rfl, rfl, rfl, by decide +kernel, rfl, by decide +kernel, by decide +kernel⟩
theorem ok_wdraw (T : LX K mg L) : Cal P w K mg base "_law_draw" 1 L.f__law_draw ["_law_source", "_law_bound"] spNext := T.d__law_draw.cal fun fd F => by
  refine F.ok sc_draw (fun vs H Q E h => ?_) (fun cdv A outer s H vs Q E hr h => ?_)
  · obtain ⟨a, m, n, rfl, _⟩ := h
    rfl
  · obtain ⟨a, m, n, rfl, m0, m1, ⟨x, y, z, ha, x0, y0, y1, z0, z1⟩, hn, k⟩ := h
    have nd := sc_draw.nd
    refine ⟨_, pss_cons (ps_if (pt_cmpR op_gt (pe_ix ix_list (pv 0) pe_int (fun _ _ => rfl)) pe_int (nomark _))
        (pss_cons (ps_set (i := 2) nd rfl (Or.inl rfl) (pe_op op_mod (pe_callTy call_int1 (by rfl) T.b_int (by decide +kernel) (pa_cons (pe_ix ix_list (pv 0) pe_int (fun _ _ => rfl)) pa_nil)) (pv 1)))
        (pss_cons (ps_asg (pe_op op_fdivW (pe_ix ix_list (pv 0) pe_int (fun _ _ => rfl)) (pv 1)) (pg_sub (pv 0) pe_int set_list))
        (pss_one (ps_ret (pv 2))))) pss_nil)
      (pss_cons (ps_asg (pe_tup (pa_cons pe_int (pa_cons pe_int pa_nil))) (pg_tup rfl (pgs_cons (pg_name (i := 2) nd rfl (Or.inl rfl)) (pgs_cons (pg_name (i := 3) nd rfl (Or.inl rfl)) pgs_nil))))
      (pss_cons (ps_while PassesOwn.never (pt_cmpR op_lt (pv 3) (pv 1) (nomark _))
        (pss_cons (ps_asg (pe_op op_add (pe_ix ix_list (pv 0) pe_int (fun _ _ => rfl)) pe_int) (pg_sub (pv 0) pe_int set_list))
        (pss_cons (ps_set (i := 4) nd rfl (Or.inl rfl) (pe_ix ix_list (pe_lst (pa_cons pe_int (pa_cons pe_int (pa_cons pe_int (pa_cons pe_int (pa_cons pe_int (pa_cons pe_int (pa_cons pe_int pa_nil))))))))
            (pe_op op_mod (pe_callTy call_int1 (by rfl) T.b_int (by decide +kernel) (pa_cons (pe_ix ix_list (pv 0) pe_int (fun _ _ => rfl)) pa_nil)) pe_int) (fun _ _ => rfl)))
        (pss_cons (ps_set (i := 5) nd rfl (Or.inl rfl) (pe_op op_mod (pe_callTy call_int1 (by rfl) T.b_int (by decide +kernel) (pa_cons
            (pe_op op_pow (pe_op op_add (pe_op op_add (pe_ix ix_list (pv 0) pe_int (fun _ _ => rfl)) (pe_op op_mul pe_int (pe_ix ix_list (pv 0) pe_int (fun _ _ => rfl)))) pe_int) pe_int) pa_nil)) (pv 4)))
        (pss_cons (ps_set (i := 5) nd rfl (Or.inl rfl) (pe_op op_mod (pe_callTy call_int1 (by rfl) T.b_int (by decide +kernel) (pa_cons
            (pe_op op_mul (pe_op op_add (pv 5) (pe_ix ix_list (pv 0) pe_int (fun _ _ => rfl))) (pe_op op_add (pe_op op_fdiv (pv 5) pe_int) pe_int)) pa_nil)) (pv 4)))
        (pss_one (ps_par (i := 2) (j := 3) (by rfl) nd rfl rfl (by decide) rfl rfl (pa_cons (pe_op op_add (pe_op op_mul (pv 2) pe_int) (pe_op op_fdiv (pv 5) pe_int)) (pa_cons (pe_op op_mul (pv 3) pe_int) pa_nil)) (by rfl))))))))
      (pss_one (ps_ret (pe_op op_mod (pe_callTy call_int1 (by rfl) T.b_int (by decide +kernel) (pa_cons (pv 2) pa_nil)) (pv 1)))))), ?_⟩
    refine ⟨_, rfl, _, _, _, _, rfl, rfl, SqL.of ha, rfl, _, _, rfl, rfl, _, rfl, ?_⟩
    refine ite2 (fun c => ?_) (fun c => ?_)
    · refine ⟨_, rfl, _, _, _, _, rfl, rfl, SqL.of ha, rfl, .inl ⟨_, rfl, _, rfl, _, _, rfl, rfl, m0, ?_⟩⟩
      refine ⟨_, rfl, _, _, _, _, rfl, rfl, SqL.of ha, rfl, _, rfl, _, _, rfl, rfl, wide_div m0 m1 (by decide) (by decide), ?_⟩
      refine ⟨_, rfl, _, _, _, 0, rfl, rfl, ha, rfl, ?_⟩
      refine ⟨_, rfl, ?_⟩
      refine k _ _ (Int.emod_nonneg _ (by omega)) (Int.emod_lt_of_pos _ m0) ⟨_, _, _, upd_same, Int.ediv_nonneg x0 (by omega), y0, y1, z0, by omega⟩ Kp.upd
    · refine ⟨(by show 2 ≤ sizeLine; decide), fun t1 ht1 => ⟨t1, _, rfl, SqT.of upd_same, rfl, _, _, rfl, _, _, rfl, rfl, ?_⟩⟩
      have s1 : Same H (upd H t1 (.tup [.int 0, .int 1])) := Same.upd ht1
      -- the mixing loop: after q turns the reach is at least 2 ^ q
      refine ⟨fun d σ H2 => ∃ (q : Nat) (v4 v5 : Option V) (res reach : Int), d = 1101 - q ∧ σ = [some (.ref a), some (.int m), some (.int res), some (.int reach), v4, v5] ∧ q ≤ 1101 ∧ ((2 : Int) ^ q ≤ reach ∧ 1 ≤ reach) ∧ H2 a = some (.lst [.int x, .int y, .int (z + q)]) ∧ Kp a H H2,
        ⟨1101, 0, none, none, 0, 1, rfl, rfl, by omega, ⟨by decide, by decide⟩, by rw [s1 _ _ ha]; simp, Kp.of s1⟩, ?_⟩
      rintro d σ H2 ⟨q, v4, v5, res, reach, rfl, rfl, hq, ⟨hre, hr1⟩, ha2, kp2⟩
      refine ⟨_, rfl, _, rfl, _, _, rfl, rfl, _, rfl, ?_⟩
      refine ite2 (fun c2 => ?_) (fun c2 => ?_)
      · have c2' : reach < m := of_decide_eq_true c2
        have hq2 : q < 1100 := by
          by_cases hge : 1100 ≤ q
          · have h1 : (2 : Nat) ^ 1100 ≤ 2 ^ q := Nat.pow_le_pow_right (by decide) hge
            have h2 : ((2 ^ q : Nat) : Int) ≤ reach := by rw [Int.natCast_pow]; exact hre
            generalize 2 ^ q = w at h1 h2
            generalize 2 ^ 1100 = w2 at h1 m1
            omega
          · omega
        refine ⟨fun σ' H' => ∃ (v4 v5 : Option V) (res reach : Int), σ' = [some (.ref a), some (.int m), some (.int res), some (.int reach), v4, v5] ∧ ((2 : Int) ^ (q + 1) ≤ reach ∧ 1 ≤ reach) ∧ H' a = some (.lst [.int x, .int y, .int (z + (q + 1 : Nat))]) ∧ Kp a H H', ?_, ?_⟩
        · rintro σ' H' ⟨v4, v5, res, reach, rfl, h1, h2, h3⟩
          exact ⟨1101 - (q + 1), by omega, q + 1, v4, v5, res, reach, rfl, rfl, by omega, h1, h2, h3⟩
        generalize hzq : z + (q : Int) = zq at ha2
        have zb : 0 ≤ zq ∧ zq ≤ 902000 := by omega
        obtain ⟨zb0, zb1⟩ := zb
        refine ⟨_, rfl, _, _, _, _, rfl, rfl, SqL.of ha2, rfl, _, _, rfl, rfl, ?_⟩
        refine ⟨_, rfl, _, _, _, 2, rfl, rfl, ha2, rfl, ?_⟩
        have ha3 : ∀ b o, b ≠ a → (upd (upd H2 a (.lst [.int x, .int y, .int (zq + 1)])) b o) a = some (.lst [.int x, .int y, .int (zq + 1)]) := fun b o n => by rw [upd_ne n.symm, upd_same]
        refine ⟨(by show 7 ≤ sizeLine; decide), fun l hl => ?_⟩
        have hla : l ≠ a := fun e => by
          subst e
          have : (upd H2 l (.lst [.int x, .int y, .int (zq + 1)])) l = none := hl
          rw [upd_same] at this
          cases this
        have hA := ha3 l (.lst primes) hla
        refine ⟨_, rfl, _, _, _, _, rfl, rfl, SqL.of hA, rfl, .inl ⟨_, rfl, _, _, rfl, rfl, (by show (0 : Int) < 7; decide), ?_⟩⟩
        obtain ⟨p, hp, p0, p1⟩ := prime_at ((zq + 1) % 7) (Int.emod_nonneg _ (by decide)) (Int.emod_lt_of_pos _ (by decide))
        refine ⟨l, primes, _, _, rfl, rfl, SqL.of upd_same, hp, ?_⟩
        refine ⟨_, rfl, _, _, _, _, rfl, rfl, SqL.of hA, rfl, _, rfl, _, _, _, _, rfl, rfl, SqL.of hA, rfl, _, _, rfl, rfl, .inl (by decide), _, _, rfl, rfl, _, _, rfl, rfl, _, _, rfl, rfl, ⟨by decide, by decide, ?_⟩, .inl ⟨_, rfl, _, rfl, _, _, rfl, rfl, p0, ?_⟩⟩
        · omega
        have f0 : 0 ≤ (y + 7919 * (zq + 1) + 1) ^ (5 : Int).toNat % p := Int.emod_nonneg _ (by omega)
        have f1 : (y + 7919 * (zq + 1) + 1) ^ (5 : Int).toNat % p < p := Int.emod_lt_of_pos _ p0
        refine ⟨_, rfl, _, rfl, _, _, _, _, rfl, rfl, SqL.of hA, rfl, _, _, rfl, rfl, _, rfl, _, _, rfl, rfl, ⟨by decide, by decide⟩, _, _, rfl, rfl, _, _, rfl, rfl, .inl ?_, .inl ⟨_, rfl, _, rfl, _, _, rfl, rfl, p0, ?_⟩⟩
        · omega
        refine ⟨_, rfl, _, _, rfl, rfl, .inr (by decide), _, rfl, _, _, rfl, rfl, ⟨by decide, by decide⟩, _, _, rfl, rfl, _, rfl, _, _, rfl, rfl, .inr (by decide), _, _, rfl, ?_⟩
        refine ⟨_, _, _, _, rfl, ⟨?_, ?_⟩, ?_, kp2.trans (Kp.upd.trans (Kp.of (Same.upd hl)))⟩
        · have e2 : (2 : Int) ^ (q + 1) = 2 ^ q * 2 := Int.pow_succ 2 q
          rw [e2]
          generalize (2 : Int) ^ q = w at hre
          show w * 2 ≤ reach * 300000007
          omega
        · show 1 ≤ reach * 300000007
          omega
        · have e3 : zq + 1 = z + ((q + 1 : Nat) : Int) := by omega
          rw [← e3]
          exact hA
      · refine ⟨_, rfl, .inl ⟨_, rfl, _, rfl, _, _, rfl, rfl, m0, ?_⟩⟩
        exact k _ _ (Int.emod_nonneg _ (by omega)) (Int.emod_lt_of_pos _ m0) ⟨_, _, _, ha2, x0, y0, y1, by omega, by omega⟩ kp2
theorem sc_choice : FnScope ["_law_source", "_law_options"] ["_law_source", "_law_options"] (defScope st__law_choice) := ⟨rfl, rfl, rfl, by decide +kernel, rfl, by decide +kernel, by decide +kernel⟩
theorem ok_wchoice (T : LX K mg L) : Cal P w K mg base "_law_choice" 2 L.f__law_choice ["_law_source", "_law_options"] spOne := T.d__law_choice.cal fun fd F => by
  have G : Cal P w K mg base "_law_draw" 1 L.f__law_draw ["_law_source", "_law_bound"] spNext := ok_wdraw T
  refine F.ok sc_choice (fun vs H Q E h => ?_) (fun cdv A outer s H vs Q E hr h => ?_)
  · obtain ⟨a, l, xs, n, rfl, _⟩ := h
    rfl
  · obtain ⟨a, l, xs, n, rfl, hal, hl, x0, x1, hs, hn, k⟩ := h
    refine ⟨_, pss_one (ps_ret (pe_ix ix_list (pv 1) (pe_c G hr rfl (pa_cons (pv 0) (pa_cons (pe_callB call_len_seq (by rfl) T.b_len PySem.boot_len (pa_cons (pv 1) pa_nil)) pa_nil))) (fun _ _ => rfl))), ?_⟩
    refine ⟨_, rfl, _, rfl, _, rfl, l, xs, rfl, .inl (SqL.of hl), a, _, n, rfl, by omega, ?_, hs, hn, fun r H' r0 r1 hs' hk => ?_⟩
    · exact Nat.lt_of_le_of_lt (show ((xs.length : Int)).natAbs ≤ 100000 by omega) (by decide)
    · obtain ⟨v, hv, hm⟩ := atI_of (xs := xs) r0 r1
      exact ⟨l, xs, r, v, rfl, rfl, SqL.of (hk _ _ hal.symm hl), hv, k v H' hm hs' hk⟩
theorem sc_cellat : FnScope ["_law_script", "_law_place"] ["_law_script", "_law_place"] (defScope st__law_cell_at) := ⟨rfl, rfl, rfl, by decide +kernel, rfl, by decide +kernel, by decide +kernel⟩
theorem ok_wcellat (T : LX K mg L) : Cal P w K mg base "_law_cell_at" 1 L.f__law_cell_at ["_law_script", "_law_place"] (spCell K) := T.d__law_cell_at.cal fun fd F => by
  refine F.ok sc_cellat (fun vs H Q E h => ?_) (fun cdv A outer s H vs Q E hr h => ?_)
  · obtain ⟨a, ns, z, rfl, _⟩ := h
    rfl
  · obtain ⟨a, ns, i, rfl, hS, i0, k⟩ := h
    refine ⟨_, pss_cons (ps_if (pt_cmpR op_lt (pv 1) (pe_callB call_len_seq (by rfl) T.b_len PySem.boot_len (pa_cons (pv 0) pa_nil)) (nomark _)) (pss_one (ps_ret (pe_ix ix_list (pv 0) (pv 1) (fun _ _ => rfl)))) pss_nil) (pss_one (ps_ret pe_int)), ?_⟩
    refine ⟨_, rfl, _, rfl, a, _, rfl, .inl hS, _, _, rfl, rfl, _, rfl, ?_⟩
    refine ite2 (fun c => ?_) (fun c => ?_)
    · have c' : i < ((ns.map V.int).length : Nat) := of_decide_eq_true c
      obtain ⟨v, hv, hm⟩ := atI_of (xs := ns.map V.int) i0 c'
      obtain ⟨z, _, rfl⟩ := List.mem_map.mp hm
      exact ⟨_, rfl, _, rfl, a, _, _, _, rfl, rfl, hS, hv, k z⟩
    · exact k 0
end
theorem draw_gen {P : Program} {w : World} {mg : Str → Option Value} {t : TA} {σ : L2.St} {H : Hp} {Q : VK} {a : Addr} {n : Nat} {ns : List Int} {hi : Int} {j : Nat} (σ0 : σ[j]? = some (some (.ref a))) (hs : Src H a n) (hn : n ≤ 898000) (ht : ∀ R : List V → Hp → Prop, R (ns.map V.int) H → t σ H R)
    (h0 : 0 < ns.length) (h1 : ns.length ≤ 1000) (hb : ∀ m ∈ ns, 0 < m ∧ m ≤ hi) (hh : hi.natAbs < 2 ^ 1100) (k : ∀ (r : Int) H', 0 ≤ r → r < hi → (∃ m ∈ ns, r < m) → Src H' a (n + 2202) → Kp a H H' → Q (.int r) H') :
    tCall spNext [] E0 (tCons (tVar j) (tCons (tCall spOne [] E0 (tCons (tVar j) (tCons (tLst t) tNil))) tNil)) σ H Q := by
  obtain ⟨ys, hy⟩ := hs.has
  refine ⟨_, σ0, _, σ0, ht _ ⟨(by rw [List.length_map]; exact Nat.le_trans h1 (by decide)), fun l hl => ?_⟩⟩
  have hal : a ≠ l := ne_of_none hy hl
  refine ⟨a, l, ns.map V.int, n, rfl, hal, upd_same, (by rw [List.length_map]; exact h0), (by rw [List.length_map]; omega), hs.same (Same.upd hl), by omega, fun v H1 hv hs1 k1 => ?_⟩
  obtain ⟨m, hm, rfl⟩ := List.mem_map.mp hv
  obtain ⟨m0, m1⟩ := hb m hm
  refine ⟨a, m, n + 1101, rfl, m0, Nat.lt_of_le_of_lt (show m.natAbs ≤ hi.natAbs by omega) hh, hs1, by omega, fun r H2 r0 r1 hs2 k2 => ?_⟩
  exact k r H2 r0 (by omega) ⟨m, hm, r1⟩ hs2 ((Kp.of (Same.upd hl)).trans (k1.trans k2))
theorem choice_gen {P : Program} {w : World} {mg : Str → Option Value} {t : TA} {σ : L2.St} {H : Hp} {Q : VK} {a : Addr} {n : Nat} {ns : List Int} {j : Nat} (σ0 : σ[j]? = some (some (.ref a))) (hs : Src H a n) (hn : n ≤ 898000) (ht : ∀ R : List V → Hp → Prop, R (ns.map V.int) H → t σ H R)
    (h0 : 0 < ns.length) (h1 : ns.length ≤ 1000) (k : ∀ (m : Int) H', m ∈ ns → Src H' a (n + 1101) → Kp a H H' → Q (.int m) H') :
    tCall spOne [] E0 (tCons (tVar j) (tCons (tLst t) tNil)) σ H Q := by
  obtain ⟨ys, hy⟩ := hs.has
  refine ⟨_, σ0, ht _ ⟨(by rw [List.length_map]; exact Nat.le_trans h1 (by decide)), fun l hl => ?_⟩⟩
  have hal : a ≠ l := ne_of_none hy hl
  refine ⟨a, l, ns.map V.int, n, rfl, hal, upd_same, (by rw [List.length_map]; exact h0), (by rw [List.length_map]; omega), hs.same (Same.upd hl), by omega, fun v H1 hv hs1 k1 => ?_⟩
  obtain ⟨m, hm, rfl⟩ := List.mem_map.mp hv
  exact k m H1 hm hs1 ((Kp.of (Same.upd hl)).trans k1)

/-! ### sources kept -/
theorem src_kp {H H' : Hp} {s l : Addr} {n : Nat} (k : Kp l H H') (h : s ≠ l) (S : Src H s n) : Src H' s n := by
  obtain ⟨x, y, z, e, r⟩ := S
  exact ⟨x, y, z, k _ _ h e, r⟩
/-! ### rows drawn, with bounds of the waits and successes -/
def OkF (f : Int) (t : Tri) : Prop := OkT t ∧ t.2.1 ≤ f ∧ t.2.2 ≤ 4
def spSpecs : Sp := fun vs H Q _ => ∃ (s : Addr) (n : Nat) (m f : Int), vs = [.ref s, .int m, .int f] ∧ Src H s n ∧ n ≤ 500000 ∧ 0 ≤ m ∧ m ≤ 12 ∧ 4 ≤ f ∧ f ≤ 1000000 ∧
  ∀ l xs ts H', H' l = some (.lst xs) → Brs H' xs ts → (∀ t ∈ ts, OkF f t) → (ts.length : Int) ≤ m → Src H' s (n + 60000) → Kp s H H' → H l = none → Q (.ref l) H'
section
variable {P : Program} {w : World} {K : PySem.W.Frag} {mg : Str → Option Value} {base : Heap} {L : LA}
abbrev N_wspecs : List Str := ["_law_source", "_law_most", "_law_far", "_law_found", "_law_repeat", "_law_wait"]
theorem sc_wspecs : FnScope N_wspecs ["_law_source", "_law_most", "_law_far"] (defScope st__law_specs) := ⟨rfl, rfl, rfl, by decide +kernel, rfl, by decide +kernel, by decide +kernel⟩
theorem fn_wspecs (T : LX K mg L) {fd : FuncData} (F : Fun K "_law_specs" "_law_specs" st__law_specs L.f__law_specs fd) : FnOk P w K mg base CX0 3 L.f__law_specs fd ["_law_source", "_law_most", "_law_far"] (spSpecs) := by
  have G_wdraw := ok_wdraw (P := P) (w := w) (base := base) T
  have G_wchoice := ok_wchoice (P := P) (w := w) (base := base) T
  have nd := sc_wspecs.nd
  refine F.ok sc_wspecs (fun vs H Q E h => ?_) (fun cdv A outer S H vs Q E hr h => ?_)
  · obtain ⟨s, n, m, f, rfl, _⟩ := h
    rfl
  · obtain ⟨s, n, m, f, rfl, src, hn, m0, m1, f0, f1, k⟩ := h
    refine ⟨_, (pss_cons (ps_set (i := 3) nd rfl (Or.inl rfl) (pe_lst pa_nil))
       (pss_cons (ps_for PassesOwn.never rfl (pi_range1 rfl T.b_range (pa_cons (pe_c G_wdraw (hr.mono (by decide)) rfl (pa_cons (pv 0) (pa_cons (pe_op op_add (pv 1) pe_int) pa_nil))) pa_nil)) (pg_name (i := 4) nd rfl (Or.inl rfl)) (pss_cons (ps_set (i := 5) nd rfl (Or.inl rfl) (pe_op op_add pe_int (pe_c G_wdraw (hr.mono (by decide)) rfl (pa_cons (pv 0) (pa_cons (pe_c G_wchoice (hr.mono (by decide)) rfl (pa_cons (pv 0) (pa_cons (pe_lst (pa_cons pe_int (pa_cons (pv 2) pa_nil))) pa_nil))) pa_nil)))))
       (pss_one (ps_expr (pe_bm PySem.F.plainAttrs_list PySem.F.slot_list_append PySem.F.type_list_append mt_append (pv 3) (pa_cons (pe_tup (pa_cons (pe_op op_add pe_int (pe_c G_wdraw (hr.mono (by decide)) rfl (pa_cons (pv 0) (pa_cons pe_int pa_nil)))) (pa_cons (pv 5) (pa_cons (pe_op op_add pe_int (pe_c G_wdraw (hr.mono (by decide)) rfl (pa_cons (pv 0) (pa_cons pe_int pa_nil)))) pa_nil)))) pa_nil))))))
       (pss_one (ps_ret (pv 3))))), ?_⟩
    obtain ⟨ys, hys⟩ := src.has
    refine ⟨(by show 0 ≤ sizeLine; decide), fun l1 hl1 => ?_⟩
    have s1 := Same.upd (o := .lst []) hl1
    have nls : s ≠ l1 := ne_of_none hys hl1
    refine ⟨_, rfl, _, rfl, _, _, rfl, rfl, s, m + 1, n, rfl, by omega, Nat.lt_of_le_of_lt (show (m + 1).natAbs ≤ 13 by omega) (by decide +kernel), src.same s1, by omega, fun q H1 q0 q1 src1 k1 => ?_⟩
    refine ⟨q, rfl, by omega, by omega, ?_⟩
    refine for_range (lo := 0) (n := q.toNat) (fun j σ H2 => ∃ v4 v5 : Option V, ∃ zs ts, σ = [some (.ref s), some (.int m), some (.int f), some (.ref l1), v4, v5] ∧ H2 l1 = some (.lst zs) ∧ Brs H2 zs ts ∧ (∀ t ∈ ts, OkF f t) ∧ zs.length ≤ j ∧ Kp s H H2 ∧ Src H2 s (n + 1101 + 4404 * j))
      ⟨none, none, [], [], rfl, k1 _ _ nls.symm upd_same, .nil, fun t ht => (nomatch ht), Nat.le_refl _, (Kp.of s1).trans k1, src1⟩ ?_ ?_
    · rintro j σ H2 hj ⟨v4, v5, zs, ts, rfl, h2, hb, ok, zl, k2, src2⟩
      refine draw_gen (P := P) (w := w) (mg := mg) (a := s) (n := n + 1101 + 4404 * j) (ns := [4, f]) (hi := f) rfl src2 (by omega) (fun R h => ⟨_, rfl, h⟩) (by simp) (by simp) (fun m hm => ?_) (Nat.lt_of_le_of_lt (show f.natAbs ≤ 1000000 by omega) (by decide +kernel)) fun wt H3 wt0 wt1 _ src3 k3 => ⟨_, _, rfl, rfl, ?_⟩
      · simp only [List.mem_cons, List.mem_nil_iff, or_false] at hm
        rcases hm with rfl | rfl <;> exact ⟨by omega, by omega⟩
      have h23 := k3 _ _ nls.symm h2
      refine ⟨_, rfl, .inl ⟨rfl, _, SqL.of h23⟩, _, rfl, s, 4, _, rfl, by decide, by decide, src3, by omega, fun fa H4 fa0 fa1 src4 k4 => ⟨_, _, rfl, rfl, _, rfl, _, rfl, s, 4, _, rfl, by decide, by decide, src4, by omega, fun su H5 su0 su1 src5 k5 => ⟨_, _, rfl, rfl, (by show 3 ≤ sizeLine; decide), fun tp htp => ?_⟩⟩⟩
      have h25 := k5 _ _ nls.symm (k4 _ _ nls.symm h23)
      have s6 := Same.upd (o := .tup [.int (1 + fa), .int (1 + wt), .int (1 + su)]) htp
      have h26 := s6 _ _ h25
      refine ⟨l1, _, _, rfl, rfl, h26, small1 (by omega), ?_⟩
      have n7 := NL.upd (o := .lst (zs ++ [.ref tp])) h26
      obtain ⟨y2, hy2⟩ := src2.has
      obtain ⟨y3, hy3⟩ := src3.has
      obtain ⟨y4, hy4⟩ := src4.has
      have nl25 : NL H2 H5 := ((Kp.nl k3 hy2).trans (Kp.nl k4 hy3)).trans (Kp.nl k5 hy4)
      refine ⟨_, _, zs ++ [.ref tp], ts ++ [(1 + fa, 1 + wt, 1 + su)], rfl, upd_same, ?_, fun t ht => ?_, by rw [List.length_append]; show zs.length + 1 ≤ j + 1; omega, fun u w nu e => ?_, ?_⟩
      · exact Brs.app (((hb.nl nl25).nl (NL.of s6)).nl n7) (.cons ⟨tp, rfl, n7 _ _ upd_same fun _ z => nomatch z⟩ .nil)
      · rcases List.mem_append.mp ht with ht | ht
        · exact ok t ht
        · rw [List.mem_singleton.mp ht]
          refine ⟨?_, show 1 + wt ≤ f by omega, show 1 + su ≤ 4 by omega⟩
          show 1 ≤ 1 + fa ∧ 1 + fa ≤ 1000000000000 ∧ 1 ≤ 1 + wt ∧ 1 + wt ≤ 1000000000000000000000000000000 ∧ 1 ≤ 1 + su ∧ 1 + su ≤ 1000000000000
          exact ⟨by omega, by omega, by omega, by omega, by omega, by omega⟩
      · rw [upd_ne (ne_of_none e hl1)]
        exact s6 _ _ (k5 _ _ nu (k4 _ _ nu (k3 _ _ nu (k2 _ _ nu e))))
      · refine src_kp ?_ nls (src5.same s6 |>.mono (by omega))
        exact Kp.upd
    · rintro σ H2 ⟨v4, v5, zs, ts, rfl, h2, hb, ok, zl, k2, src2⟩
      have bl := Brs.len hb
      exact ⟨_, rfl, k l1 zs ts H2 h2 hb ok (by omega) (src2.mono (by omega)) k2 hl1⟩
theorem ok_wspecs (T : LX K mg L) : Cal P w K mg base "_law_specs" 3 L.f__law_specs ["_law_source", "_law_most", "_law_far"] (spSpecs) := T.d__law_specs.cal fun fd F => fn_wspecs T F
end
/-! ### words drawn -/
def spWords : Sp := fun vs H Q _ => ∃ (s : Addr) (n : Nat) (m : Int), vs = [.ref s, .int m] ∧ Src H s n ∧ n ≤ 600000 ∧ 0 ≤ m ∧ m ≤ 100 ∧
  ∀ (l : Addr) (ws : List Bool) (H' : Hp), H' l = some (.lst (ws.map wV)) → (ws.length : Int) ≤ 5 * m → Src H' s (n + 1101 + 2202 * m.toNat) → Kp s H H' → H l = none → Q (.ref l) H'
section
variable {P : Program} {w : World} {K : PySem.W.Frag} {mg : Str → Option Value} {base : Heap} {L : LA}
abbrev N_wwords : List Str := ["_law_source", "_law_most", "_law_found", "_law_repeat"]
theorem sc_wwords : FnScope N_wwords ["_law_source", "_law_most"] (defScope st__law_words) := ⟨rfl, rfl, rfl, by decide +kernel, rfl, by decide +kernel, by decide +kernel⟩
theorem fn_wwords (T : LX K mg L) {fd : FuncData} (F : Fun K "_law_words" "_law_words" st__law_words L.f__law_words fd) : FnOk P w K mg base CX0 4 L.f__law_words fd ["_law_source", "_law_most"] (spWords) := by
  have G_wdraw := ok_wdraw (P := P) (w := w) (base := base) T
  have G_wchoice := ok_wchoice (P := P) (w := w) (base := base) T
  have nd := sc_wwords.nd
  refine F.ok sc_wwords (fun vs H Q E h => ?_) (fun cdv A outer S H vs Q E hr h => ?_)
  · obtain ⟨s, n, m, rfl, _⟩ := h
    rfl
  · obtain ⟨s, n, m, rfl, src, hn, m0, m1, k⟩ := h
    refine ⟨_, (pss_cons (ps_set (i := 2) nd rfl (Or.inl rfl) (pe_lst pa_nil))
       (pss_cons (ps_for PassesOwn.never rfl (pi_range1 rfl T.b_range (pa_cons (pe_c G_wdraw (hr.mono (by decide)) rfl (pa_cons (pv 0) (pa_cons (pe_op op_add (pv 1) pe_int) pa_nil))) pa_nil)) (pg_name (i := 3) nd rfl (Or.inl rfl)) (pss_one (ps_set (i := 2) nd rfl (Or.inl rfl) (pe_op op_cat (pv 2) (pe_op op_rep (pe_lst (pa_cons (pe_c G_wchoice (hr.mono (by decide)) rfl (pa_cons (pv 0) (pa_cons (pe_lst (pa_cons pe_str (pa_cons pe_str (pa_cons pe_str pa_nil)))) pa_nil))) pa_nil)) (pe_op op_add pe_int (pe_c G_wdraw (hr.mono (by decide)) rfl (pa_cons (pv 0) (pa_cons pe_int pa_nil)))))))))
       (pss_one (ps_ret (pv 2))))), ?_⟩
    obtain ⟨ys, hys⟩ := src.has
    have one : ∀ {lo : Addr} {Hx : Hp} {m : Nat}, Src Hx s m → Hx lo = none → s ≠ lo := fun S e => by
      obtain ⟨y, hy⟩ := S.has
      exact ne_of_none hy e
    refine ⟨(by show 0 ≤ sizeLine; decide), fun l0 nl0 => ?_⟩
    have s1 := Same.upd (o := .lst []) nl0
    refine ⟨_, rfl, _, rfl, _, _, rfl, rfl, s, m + 1, n, rfl, by omega, Nat.lt_of_le_of_lt (show (m + 1).natAbs ≤ 101 by omega) (by decide +kernel), src.same s1, by omega, fun q H1 q0 q1 src1 k1 => ⟨q, rfl, by omega, by omega, ?_⟩⟩
    have nsl0 := one src nl0
    refine for_range (lo := 0) (n := q.toNat) (fun j σ Hx => ∃ (v3 : Option V) (l : Addr) (ws : List Bool), σ = [some (.ref s), some (.int m), some (.ref l), v3] ∧ Hx l = some (.lst (ws.map wV)) ∧ ws.length ≤ 5 * j ∧ H l = none ∧ s ≠ l ∧ Kp s H Hx ∧ Src Hx s (n + 1101 + 2202 * j))
      ⟨none, l0, [], rfl, k1 _ _ nsl0.symm upd_same, Nat.zero_le _, nl0, nsl0, (Kp.of s1).trans k1, src1⟩ ?_ ?_
    · rintro j σ Hx hj ⟨v3, l, ws, rfl, hl, wl, nl, nsl, kx, srcx⟩
      refine ⟨_, rfl, _, rfl, (by show 3 ≤ sizeLine; decide), fun lo nlo => ?_⟩
      have s2 := Same.upd (o := .lst [.str "up", .str "down", .str "down"]) nlo
      refine ⟨s, lo, _, _, rfl, one srcx nlo, upd_same, Nat.succ_pos _, (by show 3 ≤ 100000; decide), srcx.same s2, by omega, fun v H3 hv src3 k3 => ⟨(by show 1 ≤ sizeLine; decide), fun l1 nl1 => ?_⟩⟩
      obtain ⟨up, rfl⟩ : ∃ up, v = wV up := by
        simp only [List.mem_cons, List.mem_nil_iff, or_false] at hv
        rcases hv with rfl | rfl | rfl
        · exact ⟨true, rfl⟩
        · exact ⟨false, rfl⟩
        · exact ⟨false, rfl⟩
      have s4 := Same.upd (o := .lst [wV up]) nl1
      refine ⟨_, rfl, s, 5, _, rfl, by decide, by decide +kernel, src3.same s4, by omega, fun c H5 c0 c1 src5 k5 => ⟨_, _, rfl, rfl, ?_⟩⟩
      have ns1 := one src3 nl1
      have h15 := k5 _ _ ns1.symm (upd_same (H := H3) (a := l1) (o := .lst [wV up]))
      refine ⟨l1, _, [wV up], rfl, rfl, h15, by omega, by omega, small2 (by show 1 * (1 + c).toNat ≤ 100000; omega), fun r nr => ?_⟩
      have s6 := Same.upd (o := .lst (List.replicate (1 + c).toNat [wV up]).flatten) nr
      have k36 := (((Kp.of s2).trans k3).trans (Kp.of s4)).trans k5
      have hl5 := k36 _ _ nsl.symm hl
      have er : (List.replicate (1 + c).toNat [wV up]).flatten = (List.replicate (1 + c).toNat up).map wV := by
        rw [List.flatten_replicate_singleton, List.map_replicate]
      have hr6 : (upd H5 r (.lst (List.replicate (1 + c).toNat [wV up]).flatten)) r = some (.lst ((List.replicate (1 + c).toNat up).map wV)) := by rw [upd_same, er]
      refine ⟨l, r, _, _, rfl, rfl, s6 _ _ hl5, hr6, small2 (by rw [List.length_map, List.length_map, List.length_replicate]; omega), fun l7 nl7 => ?_⟩
      have s7 := Same.upd (o := .lst (ws.map wV ++ (List.replicate (1 + c).toNat up).map wV)) nl7
      have src6 := src5.same s6
      have k7 := kx.trans ((k36.trans (Kp.of s6)).trans (Kp.of s7))
      have ns7 := one src6 nl7
      refine ⟨_, l7, ws ++ List.replicate (1 + c).toNat up, rfl, by rw [upd_same, List.map_append], by rw [List.length_append, List.length_replicate]; omega, ?_, ns7, k7, (src6.same s7).mono (by omega)⟩
      cases e : H l7 with
      | none => rfl
      | some o =>
        rw [(kx.trans (k36.trans (Kp.of s6))) _ _ ns7.symm e] at nl7
        cases nl7
    · rintro σ Hx ⟨v3, l, ws, rfl, hl, wl, nl, nsl, kx, srcx⟩
      exact ⟨_, rfl, k l ws Hx hl (by omega) (srcx.mono (by omega)) kx nl⟩
theorem ok_wwords (T : LX K mg L) : Cal P w K mg base "_law_words" 4 L.f__law_words ["_law_source", "_law_most"] (spWords) := T.d__law_words.cal fun fd F => fn_wwords T F
end
/-! ### requests taken back -/
theorem cut_to {xs : List V} {k : Nat} (h : k ≤ xs.length) : cutV xs none (some (k : Int)) = xs.take k := by
  have h1 : HT.sIx xs.length 0 none = 0 := rfl
  have h2 : HT.sIx xs.length xs.length (some (k : Int)) = k := by
    rw [HT.sIx_nat]
    exact Nat.min_eq_left h
  unfold cutV
  rw [h1, h2, List.drop_zero, Nat.sub_zero]
theorem q1' : ¬ (("words" : Str) = "row") := by decide +kernel
theorem q2' : ¬ (("history" : Str) = "row") := by decide +kernel
theorem q3' : ¬ (("history" : Str) = "words") := by decide +kernel
theorem plF_set_w (r aw ah w2 : Addr) : putF "words" (.ref w2) (plF r aw ah) = plF r w2 ah := by
  unfold plF
  simp [putF, q1, q2, q3, q1', q2', q3']
theorem plF_set_h (r aw ah h2 : Addr) : putF "history" (.ref h2) (plF r aw ah) = plF r aw h2 := by
  unfold plF
  simp [putF, q1, q2, q3, q1', q2', q3']
theorem plF_len (r aw ah : Addr) : (plF r aw ah).length = 3 := by
  unfold plF
  simp [putF, q1, q2, q3, q1', q2', q3']
theorem Sts.tp {H H' : Hp} {xs : List V} {ss : List StD} (h : Sts H xs ss) (k : ∀ b us, H b = some (.tup us) → H' b = some (.tup us)) : Sts H' xs ss := L2.Paired.mapP h fun _ _ ⟨a, e, z⟩ => ⟨a, e, k _ _ z⟩
theorem plF_row {r aw ah T : Addr} {st ph : Int} : plF r aw ah ≠ rowF T st ph := fun e => by
  have a := plF_w r aw ah
  rw [e, rowF_no _ _ _ (by decide +kernel) (by decide +kernel) (by decide +kernel)] at a
  cases a
def spPUndo (CR C : Addr) : Sp := fun vs H Q _ => ∃ p av ts st ph ws, ∃ c : Nat, vs = [.ref p, .int c] ∧ PlV CR C av H p ts st ph ws ∧ c ≤ ws.length ∧ ws.length ≤ 10000 ∧ (∀ b ∈ av, H b ≠ none) ∧ ∀ H', PlV CR C av H' p ts st ph (ws.take (ws.length - c)) → Kp p H H' → Q .non H'
def spPEq (CR C : Addr) : Sp := fun vs H Q _ => ∃ p q av bv ts st ph ws vs', vs = [.ref p, .ref q] ∧ PlV CR C av H p ts st ph ws ∧ PlV CR C bv H q ts st ph vs' ∧ Q (.bl (decide (ws = vs'))) H
section
variable {P : Program} {w : World} {K : PySem.W.Frag} {mg : Str → Option Value} {base : Heap} {L : LA}
abbrev N_Playingundo : List Str := ["self", "count", "left"]
theorem sc_Playingundo : FnScope N_Playingundo ["self", "count"] (defScope st_Playing_undo) := ⟨rfl, rfl, rfl, by decide +kernel, rfl, by decide +kernel, by decide +kernel⟩
theorem fn_Playingundo (T : LX K mg L) {fd : FuncData} (F : Fun K "undo" "Playing.undo" st_Playing_undo L.m_Playing_undo fd) : FnOk P w K mg base CX0 3 L.m_Playing_undo fd ["self", "count"] (spPUndo L.c_Row L.c_Playing) := by
  have G_iswithin := ok_iswithin (P := P) (w := w) (base := base) T
  have nd := sc_Playingundo.nd
  refine F.ok sc_Playingundo (fun vs H Q E h => ?_) (fun cdv A outer S H vs Q E hr h => ?_)
  · obtain ⟨p, av, ts, st, ph, ws, c, rfl, _⟩ := h
    rfl
  · obtain ⟨p, av, ts, st, ph, ws, c, rfl, ⟨r, B, aw, ah, xs, ls, Y, n⟩, cl, wl, na, k⟩ := h
    refine ⟨_, (pss_cons (ps_if (pt_not (pt_val (pe_c G_iswithin (hr.mono (by decide)) rfl (pa_cons (pv 1) (pa_cons pe_int (pa_cons (pe_callB call_len_seq (by rfl) T.b_len PySem.boot_len (pa_cons (pe_fld (pv 0) rfl) pa_nil)) pa_nil)))))) (pss_one (ps_never)) pss_nil)
       (pss_cons (ps_set (i := 2) nd rfl (Or.inl rfl) (pe_op op_sub (pe_callB call_len_seq (by rfl) T.b_len PySem.boot_len (pa_cons (pe_fld (pv 0) rfl) pa_nil)) (pv 1)))
       (pss_cons (ps_fld (pv 0) (pe_slice (r := rSlL K) sl_list (pe_fld (pv 0) rfl) po_none (po_some (pv 2))) rfl)
       (pss_one (ps_fld (pv 0) (pe_slice (r := rSlL K) sl_list (pe_fld (pv 0) rfl) po_none (po_some (pe_op op_add (pv 2) pe_int))) rfl))))), ?_⟩
    obtain ⟨dx, hp⟩ := Y.ob
    obtain ⟨m, hm⟩ : ∃ m : Nat, m = ws.length - c := ⟨_, rfl⟩
    have lln := Y.ln
    refine ⟨_, rfl, _, rfl, p, L.c_Playing, dx, _, _, rfl, hp, T.cf_Playing.cl, T.nf_Playing_words, plF_w _ _ _, aw, _, rfl, .inl (SqL.of Y.hw), _, _, _, _, rfl, .int _, _, rfl, ?_⟩
    rw [List.length_map]
    show if (!(decide ((0 : Int) ≤ (c : Int)) && decide ((c : Int) ≤ (ws.length : Int)))) = true then _ else _
    rw [k6_pos (by omega) (by omega)]
    refine iteF ⟨_, rfl, p, L.c_Playing, dx, _, _, rfl, hp, T.cf_Playing.cl, T.nf_Playing_words, plF_w _ _ _, aw, _, rfl, .inl (SqL.of Y.hw), _, rfl, _, _, rfl, rfl, ?_⟩
    rw [List.length_map]
    show gName 2 (.int ((ws.length : Int) - (c : Int))) _ _ _
    rw [show (ws.length : Int) - (c : Int) = (m : Int) by omega]
    refine ⟨_, rfl, p, L.c_Playing, dx, _, _, rfl, hp, T.cf_Playing.cl, T.nf_Playing_words, plF_w _ _ _, _, rfl, (m : Int), rfl, aw, _, rfl, SqL.of Y.hw, fun l1 hl1 => ?_⟩
    rw [cut_to (by rw [List.length_map]; omega), ← List.map_take]
    have s1 := Same.upd (o := .lst ((ws.take m).map wV)) hl1
    obtain ⟨H1, hH1⟩ : ∃ Hx : Hp, Hx = upd H l1 (.lst ((ws.take m).map wV)) := ⟨_, rfl⟩
    rw [← hH1] at s1
    rw [← hH1]
    have hl11 : H1 l1 = some (.lst ((ws.take m).map wV)) := by rw [hH1]; exact upd_same
    refine ⟨_, rfl, p, L.c_Playing, dx, _, rfl, s1 _ _ hp, T.cf_Playing.cl, T.nf_Playing_words, (by rw [plF_len]; decide), ?_⟩
    rw [plF_set_w]
    obtain ⟨H2, hH2⟩ : ∃ Hx : Hp, Hx = upd H1 p (.ins L.c_Playing dx (plF r l1 ah)) := ⟨_, rfl⟩
    rw [← hH2]
    have hp2 : H2 p = some (.ins L.c_Playing dx (plF r l1 ah)) := by rw [hH2]; exact upd_same
    have k2 : Kp p H1 H2 := by rw [hH2]; exact Kp.upd
    have npl : ∀ b xs, H b = some (.lst xs) → b ≠ p := fun b xs e q => by rw [q, hp] at e; cases e
    have hh2 : H2 ah = some (.lst (ls.map V.ref)) := k2 _ _ (npl _ _ Y.hh) (s1 _ _ Y.hh)
    refine ⟨_, rfl, p, L.c_Playing, dx, _, _, rfl, hp2, T.cf_Playing.cl, T.nf_Playing_history, plF_h _ _ _, _, rfl, _, _, rfl, rfl, _, rfl, ah, _, rfl, SqL.of hh2, fun l2 hl2 => ?_⟩
    have ec : cutV (ls.map V.ref) none (some ((m : Int) + 1)) = (ls.take (m + 1)).map V.ref := by
      rw [show (m : Int) + 1 = ((m + 1 : Nat) : Int) by omega, cut_to (by rw [List.length_map]; omega), List.map_take]
    have s3 := Same.upd (o := .lst ((ls.take (m + 1)).map V.ref)) hl2
    obtain ⟨H3, hH3⟩ : ∃ Hx : Hp, Hx = upd H2 l2 (.lst ((ls.take (m + 1)).map V.ref)) := ⟨_, rfl⟩
    have eH : upd H2 l2 (.lst (cutV (ls.map V.ref) none (some ((m : Int) + 1)))) = H3 := by rw [ec, hH3]
    have hl23 : H3 l2 = some (.lst ((ls.take (m + 1)).map V.ref)) := by rw [hH3]; exact upd_same
    rw [← hH3] at s3
    have hp3 := s3 _ _ hp2
    refine ⟨_, rfl, p, L.c_Playing, dx, plF r l1 ah, rfl, (by rw [← hp3, ← eH]), T.cf_Playing.cl, T.nf_Playing_history, (by rw [plF_len]; decide), ?_⟩
    have e4 : ∀ Hx : Hp, Hx = H3 → upd Hx p (.ins L.c_Playing dx (putF "history" (.ref l2) (plF r l1 ah))) = upd H3 p (.ins L.c_Playing dx (plF r l1 l2)) := fun Hx e => by rw [e, plF_set_h]
    show Q .non (upd (upd H2 l2 (.lst (cutV (ls.map V.ref) none (some ((m : Int) + 1))))) p (.ins L.c_Playing dx (putF "history" (.ref l2) (plF r l1 ah))))
    rw [e4 _ eH]
    obtain ⟨H4, hH4⟩ : ∃ Hx : Hp, Hx = upd H3 p (.ins L.c_Playing dx (plF r l1 l2)) := ⟨_, rfl⟩
    rw [← hH4]
    have k4 : Kp p H3 H4 := by rw [hH4]; exact Kp.upd
    have kA : Kp p H H4 := (((Kp.of s1).trans k2).trans (Kp.of s3)).trans k4
    have tpk : ∀ b us, H b = some (.tup us) → H4 b = some (.tup us) := fun b us e => kA _ _ (fun q => by rw [q, hp] at e; cases e) e
    have l1p : l1 ≠ p := fun q => by rw [q, hp] at hl1; cases hl1
    have hl12 := k2 _ _ l1p hl11
    have l12 : l1 ≠ l2 := ne_of_none hl12 hl2
    have l2p : l2 ≠ p := fun q => by rw [q, hp2] at hl2; cases hl2
    have old : ∀ b, H b ≠ none → b ≠ l1 ∧ b ≠ l2 := fun b hb => by
      refine ⟨fun q => hb (by rw [q]; exact hl1), fun q => ?_⟩
      rw [← q] at hl2
      cases e : H b with
      | none => exact hb e
      | some o =>
        by_cases c : b = p
        · rw [c, hp2] at hl2; cases hl2
        · rw [k2 _ _ c (s1 _ _ e)] at hl2
          cases hl2
    have lsn : ∀ l ∈ ls, H l ≠ none := fun l hl => by
      obtain ⟨j, hj⟩ := List.mem_iff_getElem?.mp hl
      obtain ⟨ys, h1, _⟩ := Y.hs j l hj
      rw [h1]
      exact fun z => nomatch z
    have rp : r ≠ p := fun q => by
      obtain ⟨dr, hr⟩ := Y.row.ob
      rw [q, hp] at hr
      have := HO.ins.inj (Option.some.inj hr)
      exact plF_row this.2.2
    refine k H4 ⟨r, B, l1, l2, xs, ls.take (m + 1), ⟨⟨dx, by rw [hH4]; exact upd_same⟩, Y.row.kpn kA rp ⟨_, _, _, hp⟩, ?_, k4 _ _ l2p hl23, ?_, fun j l hj => ?_, l12, fun q => ?_, fun q => ?_⟩, fun b hb => ?_⟩ kA
    · rw [← hm]
      exact k4 _ _ l1p (s3 _ _ hl12)
    · rw [List.length_take, List.length_take]
      omega
    · have jm : j < m + 1 := by
        have := (List.getElem?_eq_some_iff.mp hj).1
        rw [List.length_take] at this
        omega
      rw [List.getElem?_take_of_lt jm] at hj
      obtain ⟨ys, h1, h2⟩ := Y.hs j l hj
      refine ⟨ys, kA _ _ (npl _ _ h1) h1, ?_⟩
      rw [List.take_take, ← hm, Nat.min_eq_left (by omega)]
      exact h2.tp tpk
    · exact (old _ (lsn _ (List.mem_of_mem_take q))).1 rfl
    · exact (old _ (lsn _ (List.mem_of_mem_take q))).2 rfl
    · have o := old b (na b hb)
      exact ⟨o.1, o.2, fun q => (n b hb).2.2 (List.mem_of_mem_take q)⟩
theorem ok_Playingundo (T : LX K mg L) : Met P w K mg base L.c_Playing "undo" 3 L.m_Playing_undo ["self", "count"] (spPUndo L.c_Row L.c_Playing) := T.mm_Playing_undo.met fun fd F => fn_Playingundo T F
end
/-! ### logs replayed -/
def spCkWords : Sp := fun vs H Q _ => ∃ (l : Addr) (ws : List Bool), vs = [.ref l] ∧ H l = some (.lst (ws.map wV)) ∧ ws.length ≤ 10000 ∧ ∀ H', Same H H' → Q .non H'
/-- what was told, request by request -/
def Tlds (K : PySem.W.Frag) (H : Hp) (xs : List V) (ts : List Tri) (st ph : Int) (ws : List Bool) : Prop := xs.length = ws.length ∧ ∀ (j : Nat) (up : Bool), ws[j]? = some up → ∃ x, xs[j]? = some x ∧ TldAt K H x ts.length (kOf ts (plA ts st ph (ws.take j)) (ph + (j : Int) * st)) up
theorem Tlds.nl {K : PySem.W.Frag} {H H' : Hp} {xs : List V} {ts : List Tri} {st ph : Int} {ws : List Bool} (h : Tlds K H xs ts st ph ws) (k : NL H H') : Tlds K H' xs ts st ph ws :=
  ⟨h.1, fun j up e => by
    obtain ⟨x, h1, h2⟩ := h.2 j up e
    exact ⟨x, h1, h2.nl k⟩⟩
theorem Tlds.app {K : PySem.W.Frag} {H : Hp} {xs : List V} {x : V} {ts : List Tri} {st ph : Int} {ws : List Bool} {up : Bool} (h : Tlds K H xs ts st ph ws) (hx : TldAt K H x ts.length (kOf ts (plA ts st ph ws) (ph + (ws.length : Int) * st)) up) : Tlds K H (xs ++ [x]) ts st ph (ws ++ [up]) := by
  refine ⟨by rw [List.length_append, List.length_append, h.1]; rfl, fun j u e => ?_⟩
  by_cases c : j < ws.length
  · rw [List.getElem?_append_left c] at e
    obtain ⟨y, h1, h2⟩ := h.2 j u e
    refine ⟨y, by rw [List.getElem?_append_left (by rw [h.1]; exact c)]; exact h1, ?_⟩
    rw [List.take_append_of_le_length (by omega)]
    exact h2
  · have jl : j = ws.length := by
      have := (List.getElem?_eq_some_iff.mp e).1
      rw [List.length_append] at this
      have : j < ws.length + 1 := this
      omega
    subst jl
    rw [List.getElem?_append_right (Nat.le_refl _), Nat.sub_self] at e
    cases e
    refine ⟨x, by rw [List.getElem?_append_right (by rw [h.1]; exact Nat.le_refl _), h.1, Nat.sub_self]; rfl, ?_⟩
    rw [List.take_left]
    exact hx
def spPlayed (K : PySem.W.Frag) (CR C : Addr) : Sp := fun vs H Q _ => ∃ r B xs ts st ph, ∃ (l : Addr) (ws : List Bool) (av : AvS), vs = [.ref r, .ref l] ∧ RowAt CR H r B xs ts st ph ∧ H l = some (.lst (ws.map wV)) ∧ ws.length ≤ 9000 ∧ (∀ b ∈ av, H b ≠ none) ∧
  ∀ t p d ys H', H' t = some (.tup [.ref p, .ref d]) → H' d = some (.lst ys) → Tlds K H' ys ts st ph ws → PlV CR C (AvS.add d (AvS.add l av)) H' p ts st ph ws → KeV (AvS.add l av) H H' → H p = none → H d = none → Q (.ref t) H'
def spReplay (K : PySem.W.Frag) (CR C : Addr) : Sp := fun vs H Q _ => ∃ r B xs ts st ph, ∃ (l : Addr) (ws : List Bool) (av : AvS), vs = [.ref r, .ref l] ∧ RowAt CR H r B xs ts st ph ∧ H l = some (.lst (ws.map wV)) ∧ ws.length ≤ 9000 ∧ (∀ b ∈ av, H b ≠ none) ∧
  ∀ p H', PlV CR C (AvS.add l av) H' p ts st ph ws → KeV (AvS.add l av) H H' → H p = none → Q (.ref p) H'
def spOuts (K : PySem.W.Frag) (CR C : Addr) : Sp := fun vs H Q _ => ∃ r B xs ts st ph, ∃ (l : Addr) (ws : List Bool) (av : AvS), vs = [.ref r, .ref l] ∧ RowAt CR H r B xs ts st ph ∧ H l = some (.lst (ws.map wV)) ∧ ws.length ≤ 9000 ∧ (∀ b ∈ av, H b ≠ none) ∧
  ∀ d ys H', H' d = some (.lst ys) → Tlds K H' ys ts st ph ws → KeV (AvS.add l av) H H' → H d = none → Q (.ref d) H'
section
variable {P : Program} {w : World} {K : PySem.W.Frag} {mg : Str → Option Value} {base : Heap} {L : LA}
abbrev N_checkwords : List Str := ["log", "at", "word"]
theorem sc_checkwords : FnScope N_checkwords ["log"] (defScope st_check_words) := ⟨rfl, rfl, rfl, by decide +kernel, rfl, by decide +kernel, by decide +kernel⟩
theorem fn_checkwords (T : LX K mg L) {fd : FuncData} (F : Fun K "check_words" "check_words" st_check_words L.f_check_words fd) : FnOk P w K mg base CX0 2 L.f_check_words fd ["log"] (spCkWords) := by
  obtain ⟨tk_MOST_REQUESTS, c_MOST_REQUESTS⟩ := T.n_MOST_REQUESTS
  have G_isword := ok_isword (P := P) (w := w) (base := base) T
  have nd := sc_checkwords.nd
  refine F.ok sc_checkwords (fun vs H Q E h => ?_) (fun cdv A outer S H vs Q E hr h => ?_)
  · obtain ⟨l, ws, rfl, _⟩ := h
    rfl
  · obtain ⟨l, ws, rfl, hl, wl, k⟩ := h
    refine ⟨_, (pss_cons (ps_if (PW.pt (pw_or (pt_not (pt_val (pe_callB call_isi (by rfl) T.b_isinstance (by decide +kernel) (pa_cons (pv 0) (pa_cons (pe_bltn (by rfl) T.b_list (by decide +kernel : bootBuiltins "list" = some (.type "list")) (v := .ty "list") rfl) pa_nil))))) (pw_or1 (pt_cmpR op_gt (pe_callB call_len_seq (by rfl) T.b_len PySem.boot_len (pa_cons (pv 0) pa_nil)) (pe_gI c_MOST_REQUESTS) (nomark _))))) (pss_one (ps_never)) pss_nil)
       (pss_one (ps_for PassesOwn.never rfl (pi_enum (by rfl) T.b_enumerate (pa_cons (pv 0) pa_nil)) (pg_tup rfl (pgs_cons (pg_name (i := 1) nd rfl (Or.inl rfl)) (pgs_cons (pg_name (i := 2) nd rfl (Or.inl rfl)) pgs_nil))) (pss_one (ps_if (pt_not (pt_val (pe_c G_isword (hr.mono (by decide)) rfl (pa_cons (pv 2) pa_nil)))) (pss_one (ps_never)) pss_nil))))), ?_⟩
    refine ⟨_, rfl, _, .ty "list", _, _, _, rfl, .ty "list", (Kd.lst hl).ty, (Kd.lst hl).kit "list" _ (.inr ⟨by decide, by decide, rfl⟩), _, rfl, iteF ?_⟩
    refine ⟨_, rfl, l, _, rfl, .inl (SqL.of hl), _, _, rfl, rfl, _, rfl, ite2 (fun c => ?_) (fun _ => ?_)⟩
    · have c' := of_decide_eq_true c
      rw [List.length_map] at c'
      omega
    refine ⟨_, rfl, l, ws.map wV, rfl, SqL.of hl, for_enum (K := K) (a := l) (xs := ws.map wV) (fun i σ H2 => ∃ u v : Option V, σ = [some (.ref l), u, v] ∧ Same H H2) ⟨none, none, rfl, Same.refl H⟩ (fun i σ H2 _ ⟨_, _, _, s2⟩ => SqL.of (s2 _ _ hl)) ?_ ?_⟩
    · rintro i x T' σ H2 hx ⟨u, v, rfl, s2⟩ hT
      rw [List.getElem?_map] at hx
      obtain ⟨up, _, rfl⟩ := Option.map_eq_some_iff.mp hx
      have s3 := s2.trans (Same.upd (o := .tup [.int (i : Nat), wV up]) hT)
      refine ⟨T', _, rfl, SqT.of upd_same, rfl, _, _, rfl, _, _, rfl, rfl, ?_⟩
      exact ⟨_, rfl, up, rfl, fun H3 s4 => ⟨_, rfl, iteF ⟨_, _, rfl, s3.trans s4⟩⟩⟩
    · rintro σ H2 ⟨u, v, rfl, s2⟩
      exact k H2 s2
theorem ok_checkwords (T : LX K mg L) : Cal P w K mg base "check_words" 2 L.f_check_words ["log"] (spCkWords) := T.d_check_words.cal fun fd F => fn_checkwords T F
abbrev N_played : List Str := ["row", "log", "playing", "told", "word"]
theorem sc_played : FnScope N_played ["row", "log"] (defScope st_played) := ⟨rfl, rfl, rfl, by decide +kernel, rfl, by decide +kernel, by decide +kernel⟩
theorem fn_played (T : LX K mg L) {fd : FuncData} (F : Fun K "played" "played" st_played L.f_played fd) : FnOk P w K mg base CX0 8 L.f_played fd ["row", "log"] (spPlayed K L.c_Row L.c_Playing) := by
  have G_checkwords := ok_checkwords (P := P) (w := w) (base := base) T
  have G_Playingrequest := ok_Playingrequest (P := P) (w := w) (base := base) T
  have nd := sc_played.nd
  refine F.ok sc_played (fun vs H Q E h => ?_) (fun cdv A outer S H vs Q E hr h => ?_)
  · obtain ⟨r, B, xs, ts, st, ph, l, ws, av, rfl, _⟩ := h
    rfl
  · obtain ⟨r, B, xs, ts, st, ph, l, ws, av, rfl, R, hl, wl, na, k⟩ := h
    refine ⟨_, (pss_cons (ps_set (i := 2) nd rfl (Or.inr rfl) (pe_mkPlaying T (hr.mono (by decide)) rfl (pa_cons (pv 0) pa_nil)))
       (pss_cons (ps_expr (pe_c G_checkwords (hr.mono (by decide)) rfl (pa_cons (pv 1) pa_nil)))
       (pss_cons (ps_setLc (i := 3) (own := [("word", 4)]) (g := gName 4) (tt := tYes) rfl nd rfl rfl (sw_true rfl rfl rfl (by decide +kernel)) (pi_list (pv 1)) (blkOk_by (own := [("word", 4)]) (N := N_played) (sc := defScope st_played) (by decide +kernel)) (fun _ _ _ _ _ => pg_name (i := 4) nd rfl (Or.inl rfl)) (fun _ _ _ _ _ => pts_nil) (fun _ _ _ _ _ => (G_Playingrequest.p_m1 T.cf_Playing.cl (hr.mono (by decide)) (pv 2) (pa_cons (pv 4) pa_nil))))
       (pss_one (ps_ret (pe_tup (pa_cons (pv 2) (pa_cons (pv 3) pa_nil)))))))), ?_⟩
    have nn : ∀ b ∈ AvS.add l av, H b ≠ none := fun b hb => by
      rcases AvS.mem.mp hb with rfl | hb
      · rw [hl]; exact fun z => nomatch z
      · exact na b hb
    refine ⟨_, rfl, playing_made R fun p H1 _ PV s1 np => ?_⟩
    have PV1 := PV (AvS.add l av) nn
    refine ⟨_, rfl, l, ws, rfl, s1 _ _ hl, by omega, fun H2 s2 => ?_⟩
    have s12 := s1.trans s2
    have PV2 := PV1.same s2
    have hl2 := s12 _ _ hl
    refine ⟨_, rfl, l, rfl, ⟨_, SqL.of hl2⟩, fun D hD => ?_⟩
    have Dn : ∀ b, H b ≠ none → b ≠ D := fun b hb q => by
      cases e : H b with
      | none => exact hb e
      | some o =>
        have := s12 _ _ e
        rw [q, hD] at this
        cases this
    refine lc_list (K := K) (a := l) (xs := ws.map wV) (fun j Hc => ∃ ys, Hc D = some (.lst ys) ∧ Tlds K Hc ys ts st ph (ws.take j) ∧ PlV L.c_Row L.c_Playing (AvS.add D (AvS.add l av)) Hc p ts st ph (ws.take j) ∧ KeV (AvS.add l av) H Hc ∧ Hc l = some (.lst (ws.map wV)))
      ⟨[], upd_same, ⟨rfl, fun j up e => by cases e⟩, PV2.more (Same.upd hD) hD, .same (s12.trans (Same.upd hD)), (Same.upd hD) _ _ hl2⟩ (fun j Hc _ ⟨_, _, _, _, _, h⟩ => SqL.of h) ?_ ?_
    · rintro j x Hc hxj ⟨ys, hDc, td, PVc, kc, hlc⟩
      rw [List.getElem?_map] at hxj
      obtain ⟨up, hup, rfl⟩ := Option.map_eq_some_iff.mp hxj
      have jl := (List.getElem?_eq_some_iff.mp hup).1
      have etk : ws.take (j + 1) = ws.take j ++ [up] := by rw [List.take_add_one, hup]; rfl
      obtain ⟨dx, r', aw, ah, hp⟩ := PVc.ob
      have ltk : (ws.take j).length = j := by rw [List.length_take]; omega
      refine ⟨rfl, tYes_of ⟨_, rfl, p, dx, _, rfl, hp, plF_no _ _ _ (by decide +kernel) (by decide +kernel) (by decide +kernel), _, rfl, p, AvS.add D (AvS.add l av), ts, st, ph, ws.take j, up, rfl, PVc, by omega, fun b hb => ?_, fun x H3 tx PV3 k3 => ?_⟩⟩
      · rcases AvS.mem.mp hb with rfl | hb
        · rw [hDc]; exact fun z => nomatch z
        · have h0 := nn b hb
          cases e : H b with
          | none => exact absurd e h0
          | some o => rw [kc b o e (.inl hb)]; exact fun z => nomatch z
      · rw [ltk] at tx
        have hD3 := k3 _ _ hDc (.inl (AvS.hd))
        have nl := NL.upd (o := .lst (ys ++ [x])) hD3
        have kp : Kp D H3 (upd H3 D (.lst (ys ++ [x]))) := Kp.upd
        refine ⟨ys, hD3, small1 (by rw [td.1]; omega), ys ++ [x], upd_same, ?_, ?_, fun b o e q => ?_, kp _ _ (Dn _ (by rw [hl]; exact fun z => nomatch z)) (k3 _ _ hlc (.inl (AvS.tl (AvS.hd))))⟩
        · rw [etk]
          exact Tlds.app ((td.nl k3.nl).nl nl) (by rw [ltk]; exact tx.nl nl)
        · rw [etk]
          exact PV3.keB (KeB.kp kp (AvS.hd) hD3)
        · have bD : b ≠ D := Dn b (by rw [e]; exact fun z => nomatch z)
          exact kp _ _ bD (k3 _ _ (kc b o e q) (q.elim (fun q => .inl (AvS.tl q)) .inr))
    rintro H3 ⟨ys, hD3, td, PV3, k3, hl3⟩
    rw [List.length_map, List.take_length] at td PV3
    refine ⟨_, rfl, _, rfl, (by show 2 ≤ sizeLine; decide), fun t nt => ?_⟩
    have s4 := Same.upd (o := .tup [.ref p, .ref D]) nt
    exact k t p D ys _ upd_same (s4 _ _ hD3) (td.nl (NL.of s4)) (PV3.same s4) (k3.trans (.same s4)) np (none_of s12 hD)
theorem ok_played (T : LX K mg L) : Cal P w K mg base "played" 8 L.f_played ["row", "log"] (spPlayed K L.c_Row L.c_Playing) := T.d_played.cal fun fd F => fn_played T F
abbrev N_replay : List Str := ["row", "log"]
theorem sc_replay : FnScope N_replay ["row", "log"] (defScope st_replay) := ⟨rfl, rfl, rfl, by decide +kernel, rfl, by decide +kernel, by decide +kernel⟩
theorem fn_replay (T : LX K mg L) {fd : FuncData} (F : Fun K "replay" "replay" st_replay L.f_replay fd) : FnOk P w K mg base CX0 9 L.f_replay fd ["row", "log"] (spReplay K L.c_Row L.c_Playing) := by
  have G_played := ok_played (P := P) (w := w) (base := base) T
  have nd := sc_replay.nd
  refine F.ok sc_replay (fun vs H Q E h => ?_) (fun cdv A outer S H vs Q E hr h => ?_)
  · obtain ⟨r, B, xs, ts, st, ph, l, ws, av, rfl, _⟩ := h
    rfl
  · obtain ⟨r, B, xs, ts, st, ph, l, ws, av, rfl, R, hl, wl, na, k⟩ := h
    refine ⟨_, (pss_one (ps_ret (pe_ix (r := rIxT K) ix_tup (pe_c G_played (hr.mono (by decide)) rfl (pa_cons (pv 0) (pa_cons (pv 1) pa_nil))) pe_int (fun _ _ => rfl)))), ?_⟩
    exact ⟨_, rfl, _, rfl, r, B, xs, ts, st, ph, l, ws, av, rfl, R, hl, wl, na, fun t p d ys H' ht hd td PV kv np nd => ⟨t, _, 0, .ref p, rfl, rfl, SqT.of ht, rfl, k p H' (PV.less fun b hb => AvS.tl hb) kv np⟩⟩
theorem ok_replay (T : LX K mg L) : Cal P w K mg base "replay" 9 L.f_replay ["row", "log"] (spReplay K L.c_Row L.c_Playing) := T.d_replay.cal fun fd F => fn_replay T F
abbrev N_outcomes : List Str := ["row", "log"]
theorem sc_outcomes : FnScope N_outcomes ["row", "log"] (defScope st_outcomes) := ⟨rfl, rfl, rfl, by decide +kernel, rfl, by decide +kernel, by decide +kernel⟩
theorem fn_outcomes (T : LX K mg L) {fd : FuncData} (F : Fun K "outcomes" "outcomes" st_outcomes L.f_outcomes fd) : FnOk P w K mg base CX0 9 L.f_outcomes fd ["row", "log"] (spOuts K L.c_Row L.c_Playing) := by
  have G_played := ok_played (P := P) (w := w) (base := base) T
  have nd := sc_outcomes.nd
  refine F.ok sc_outcomes (fun vs H Q E h => ?_) (fun cdv A outer S H vs Q E hr h => ?_)
  · obtain ⟨r, B, xs, ts, st, ph, l, ws, av, rfl, _⟩ := h
    rfl
  · obtain ⟨r, B, xs, ts, st, ph, l, ws, av, rfl, R, hl, wl, na, k⟩ := h
    refine ⟨_, (pss_one (ps_ret (pe_ix (r := rIxT K) ix_tup (pe_c G_played (hr.mono (by decide)) rfl (pa_cons (pv 0) (pa_cons (pv 1) pa_nil))) pe_int (fun _ _ => rfl)))), ?_⟩
    exact ⟨_, rfl, _, rfl, r, B, xs, ts, st, ph, l, ws, av, rfl, R, hl, wl, na, fun t p d ys H' ht hd td PV kv np nd => ⟨t, _, 1, .ref d, rfl, rfl, SqT.of ht, rfl, k d ys H' hd td kv nd⟩⟩
theorem ok_outcomes (T : LX K mg L) : Cal P w K mg base "outcomes" 9 L.f_outcomes ["row", "log"] (spOuts K L.c_Row L.c_Playing) := T.d_outcomes.cal fun fd F => fn_outcomes T F
end
/-! ### what no change of an older list can touch (for chains without V7) -/
/-- what is no part of H0, and what is no list, is kept -/
def KO (H0 H H' : Hp) : Prop := ∀ b o, H b = some o → (H0 b = none ∨ ∀ xs, o ≠ .lst xs) → H' b = some o
theorem KO.same {H0 H H' : Hp} (s : Same H H') : KO H0 H H' := fun b o e _ => s b o e
theorem KO.kp {H0 H H' : Hp} {a : Addr} {xs : List V} (k : Kp a H H') (h0 : H0 a ≠ none) (h : H a = some (.lst xs)) : KO H0 H H' := fun b o e q => k b o (fun z => by
  subst z
  rcases q with q | q
  · exact h0 q
  · rw [h] at e
    exact q xs (Option.some.inj e).symm) e
theorem KO.nl {H0 H H' : Hp} (k : KO H0 H H') : NL H H' := fun b o e q => k b o e (.inr q)
theorem KO.trans {H0 H H1 H2 : Hp} (a : KO H0 H H1) (b : KO H0 H1 H2) : KO H0 H H2 := fun c o e q => b c o (a c o e q) q
theorem KO.base {H0 H1 H H' : Hp} (k : KO H0 H H') (s : Same H0 H1) : KO H1 H H' := fun b o e q => k b o e (by
  rcases q with q | q
  · exact .inl (none_of s q)
  · exact .inr q)
def Fr (H0 H : Hp) : Hp := fun b => match H b with
  | some (.lst xs) => (match H0 b with
    | none => some (.lst xs)
    | some _ => none)
  | o => o
theorem Fr.nol {H0 H : Hp} {b : Addr} {o : HO} (h : H b = some o) (n : ∀ xs, o ≠ .lst xs) : Fr H0 H b = some o := by
  unfold Fr
  rw [h]
  cases o with
  | lst xs => exact absurd rfl (n xs)
  | _ => rfl
theorem Fr.new {H0 H : Hp} {b : Addr} (h : H0 b = none) : Fr H0 H b = H b := by
  unfold Fr
  cases e : H b with
  | none => rfl
  | some o =>
    cases o with
    | lst xs =>
      show (match H0 b with | none => some (HO.lst xs) | some _ => none) = _
      rw [h]
    | _ => rfl
theorem Fr.inv {H0 H : Hp} {b : Addr} {o : HO} (h : Fr H0 H b = some o) : H b = some o ∧ (H0 b = none ∨ ∀ xs, o ≠ .lst xs) := by
  unfold Fr at h
  cases e : H b with
  | none => rw [e] at h; cases h
  | some u =>
    rw [e] at h
    cases u with
    | lst xs =>
      have h : (match H0 b with | none => some (HO.lst xs) | some _ => none) = some o := h
      cases q : H0 b with
      | none => rw [q] at h; cases h; exact ⟨rfl, .inl rfl⟩
      | some z => rw [q] at h; cases h
    | _ => cases h; exact ⟨rfl, .inr fun xs z => nomatch z⟩
theorem Fr.of {H0 H : Hp} {b : Addr} {o : HO} (h : H b = some o) (n : H0 b = none ∨ ∀ xs, o ≠ .lst xs) : Fr H0 H b = some o := by
  rcases n with n | n
  · rw [Fr.new n]; exact h
  · exact Fr.nol h n
theorem Fr.le {H0 H : Hp} : Same (Fr H0 H) H := fun b o e => (Fr.inv e).1
theorem Fr.ko {H0 H H' : Hp} (k : KO H0 H H') : Same (Fr H0 H) (Fr H0 H') := fun b o e => by
  obtain ⟨h, n⟩ := Fr.inv e
  exact Fr.of (k b o h n) n
theorem Fr.same {H0 H H' : Hp} (s : Same H H') : Same (Fr H0 H) (Fr H0 H') := Fr.ko (KO.same s)
theorem Fr.kp {H0 H H' : Hp} {a : Addr} {xs : List V} (k : Kp a H H') (h : H0 a ≠ none) (ha : H a = some (.lst xs)) : Same (Fr H0 H) (Fr H0 H') := Fr.ko (KO.kp k h ha)
theorem Fr.base' {H0 H1 H : Hp} (s : ∀ b, H1 b = none → H0 b = none) : Same (Fr H1 H) (Fr H0 H) := fun b o e => by
  obtain ⟨h, n⟩ := Fr.inv e
  exact Fr.of h (n.elim (fun n => .inl (s b n)) .inr)
theorem Fr.base {H0 H1 H : Hp} (s : Same H0 H1) : Same (Fr H1 H) (Fr H0 H) := Fr.base' fun b h => none_of s h
theorem Fr.nl {H0 H H' : Hp} (k : NL H H') : NL (Fr H0 H) (Fr H0 H') := fun b o e n => Fr.nol (k b o (Fr.le b o e) n) n
/-! ### Playings with their own lists named, side by side -/
/-- what stays but for the lists of a set: everything else, and what is no list -/
abbrev KeO (ow : AvS) (H H' : Hp) : Prop := KeB ow H H'
/-- a Playing whose own lists are these -/
def Po (CR C : Addr) (H : Hp) (p : Addr) (ts : List Tri) (st ph : Int) (ws : List Bool) (ow : AvS) : Prop := ∃ r B aw ah xs ls, PlAt CR C H p r B aw ah xs ts st ph ws ls ∧ ∀ b, b ∈ ow ↔ (b = aw ∨ b = ah ∨ b ∈ ls)
theorem Po.v {CR C : Addr} {H : Hp} {p : Addr} {ts : List Tri} {st ph : Int} {ws : List Bool} {ow av : AvS} (h : Po CR C H p ts st ph ws ow) (n : ∀ b ∈ av, b ∉ ow) : PlV CR C av H p ts st ph ws := by
  obtain ⟨r, B, aw, ah, xs, ls, Y, e⟩ := h
  refine ⟨r, B, aw, ah, xs, ls, Y, fun b hb => ?_⟩
  have := n b hb
  rw [e] at this
  exact ⟨fun z => this (.inl z), fun z => this (.inr (.inl z)), fun z => this (.inr (.inr z))⟩
theorem PlV.po {CR C : Addr} {H : Hp} {p : Addr} {ts : List Tri} {st ph : Int} {ws : List Bool} {av : AvS} (h : PlV CR C av H p ts st ph ws) : ∃ ow : AvS, Po CR C H p ts st ph ws ow ∧ ∀ b ∈ av, b ∉ ow := by
  obtain ⟨r, B, aw, ah, xs, ls, Y, n⟩ := h
  refine ⟨fun b => b = aw ∨ b = ah ∨ b ∈ ls, ⟨r, B, aw, ah, xs, ls, Y, fun b => Iff.rfl⟩, fun b hb m => ?_⟩
  obtain ⟨n1, n2, n3⟩ := n b hb
  rcases m with m | m | m
  · exact n1 m
  · exact n2 m
  · exact n3 m
/-- all that is old and not its own -/
def oth (H : Hp) (ow : AvS) : AvS := fun b => b ∉ ow ∧ H b ≠ none
theorem Po.keB {CR C : Addr} {H H' : Hp} {p : Addr} {ts : List Tri} {st ph : Int} {ws : List Bool} {ow kv : AvS} (h : Po CR C H p ts st ph ws ow) (k : KeB kv H H') (n : ∀ b ∈ kv, b ∉ ow) : Po CR C H' p ts st ph ws ow := by
  obtain ⟨r, B, aw, ah, xs, ls, Y, e⟩ := h
  refine ⟨r, B, aw, ah, xs, ls, Y.keB (av := kv) (fun b hb => ?_) k, e⟩
  have := n b hb
  rw [e] at this
  exact ⟨fun z => this (.inl z), fun z => this (.inr (.inl z)), fun z => this (.inr (.inr z))⟩
theorem Po.same {CR C : Addr} {H H' : Hp} {p : Addr} {ts : List Tri} {st ph : Int} {ws : List Bool} {ow : AvS} (h : Po CR C H p ts st ph ws ow) (s : Same H H') : Po CR C H' p ts st ph ws ow := h.keB (kv := AvS.non) (.same s) fun b hb => hb.elim
theorem Po.lst {CR C : Addr} {H : Hp} {p : Addr} {ts : List Tri} {st ph : Int} {ws : List Bool} {ow : AvS} (h : Po CR C H p ts st ph ws ow) : ∀ b ∈ ow, ∃ xs, H b = some (.lst xs) := by
  obtain ⟨r, B, aw, ah, xs, ls, Y, e⟩ := h
  intro b hb
  rcases (e b).mp hb with rfl | rfl | hb
  · exact ⟨_, Y.hw⟩
  · exact ⟨_, Y.hh⟩
  · obtain ⟨j, hj⟩ := List.mem_iff_getElem?.mp hb
    obtain ⟨ys, h1, _⟩ := Y.hs j b hj
    exact ⟨_, h1⟩
theorem Po.ob {CR C : Addr} {H : Hp} {p : Addr} {ts : List Tri} {st ph : Int} {ws : List Bool} {ow : AvS} (h : Po CR C H p ts st ph ws ow) : ∃ dx r aw ah, H p = some (.ins C dx (plF r aw ah)) := by
  obtain ⟨r, B, aw, ah, xs, ls, Y, e⟩ := h
  obtain ⟨dx, hp⟩ := Y.ob
  exact ⟨dx, r, aw, ah, hp⟩
/-- where another Playing takes requests back -/
theorem Po.kp {CR C : Addr} {H H' : Hp} {p q : Addr} {ts : List Tri} {st ph : Int} {ws : List Bool} {ow : AvS} (h : Po CR C H p ts st ph ws ow) (k : Kp q H H') (n : p ≠ q) (hq : ∃ dx r aw ah, H q = some (.ins C dx (plF r aw ah))) : Po CR C H' p ts st ph ws ow := by
  obtain ⟨r, B, aw, ah, xs, ls, Y, e⟩ := h
  obtain ⟨dy, r', aw', ah', hq⟩ := hq
  obtain ⟨dx, hp⟩ := Y.ob
  have nl : ∀ b zs, H b = some (.lst zs) → b ≠ q := fun b zs e z => by rw [z, hq] at e; cases e
  have rq : r ≠ q := fun z => by
    obtain ⟨dr, hr⟩ := Y.row.ob
    rw [z, hq] at hr
    have := HO.ins.inj (Option.some.inj hr)
    exact plF_row this.2.2
  refine ⟨r, B, aw, ah, xs, ls, ⟨⟨dx, k _ _ n hp⟩, Y.row.kpn k rq ⟨_, _, _, hq⟩, k _ _ (nl _ _ Y.hw) Y.hw, k _ _ (nl _ _ Y.hh) Y.hh, Y.ln, fun j l hj => ?_, Y.n1, Y.n2, Y.n3⟩, e⟩
  obtain ⟨ys, h1, h2⟩ := Y.hs j l hj
  exact ⟨ys, k _ _ (nl _ _ h1) h1, h2.tp fun b us e => k _ _ (fun z => by rw [z, hq] at e; cases e) e⟩
/-- n Playings -/
structure Fam (CR C : Addr) (H : Hp) (n : Nat) (p : Nat → Addr) (ts : List Tri) (st : Int) (ph : Nat → Int) (ws : Nat → List Bool) (ow : Nat → AvS) : Prop where
  pl : ∀ i, i < n → Po CR C H (p i) ts st (ph i) (ws i) (ow i)
  dj : ∀ i j, i < n → j < n → i ≠ j → ∀ b ∈ ow i, b ∉ ow j
  pd : ∀ i j, i < n → j < n → i ≠ j → p i ≠ p j
/-- none of them has this list -/
def Fam.out (n : Nat) (ow : Nat → AvS) (b : Addr) : Prop := ∀ i, i < n → b ∉ ow i
def putF' {α : Type} (f : Nat → α) (i : Nat) (a : α) : Nat → α := fun j => if j = i then a else f j
theorem putF'_same {α : Type} {f : Nat → α} {i : Nat} {a : α} : putF' f i a i = a := if_pos rfl
theorem putF'_ne {α : Type} {f : Nat → α} {i j : Nat} {a : α} (h : j ≠ i) : putF' f i a j = f j := if_neg h
section
variable {CR C : Addr} {H H' : Hp} {n : Nat} {p : Nat → Addr} {ts : List Tri} {st : Int} {ph : Nat → Int} {ws : Nat → List Bool} {ow : Nat → AvS}
theorem Fam.same (F : Fam CR C H n p ts st ph ws ow) (s : Same H H') : Fam CR C H' n p ts st ph ws ow := ⟨fun i hi => (F.pl i hi).same s, F.dj, F.pd⟩
theorem Fam.keB {kv : AvS} (F : Fam CR C H n p ts st ph ws ow) (k : KeB kv H H') (o : ∀ b ∈ kv, Fam.out n ow b) : Fam CR C H' n p ts st ph ws ow := ⟨fun i hi => (F.pl i hi).keB k fun b hb => o b hb i hi, F.dj, F.pd⟩
/-- a list that is not theirs is written -/
theorem Fam.wr {a : Addr} {xs : List V} (F : Fam CR C H n p ts st ph ws ow) (k : Kp a H H') (h : H a = some (.lst xs)) (o : Fam.out n ow a) : Fam CR C H' n p ts st ph ws ow :=
  F.keB (kv := AvS.add a AvS.non) (KeB.kp k AvS.hd h) fun b hb => by
    rcases AvS.mem.mp hb with rfl | hb
    · exact o
    · exact hb.elim
theorem Fam.fresh (F : Fam CR C H n p ts st ph ws ow) {b : Addr} (h : H b = none) : Fam.out n ow b := fun i hi m => by
  obtain ⟨xs, e⟩ := (F.pl i hi).lst b m
  rw [h] at e
  cases e
/-- a request of one of them -/
theorem Fam.req (F : Fam CR C H n p ts st ph ws ow) {i : Nat} (hi : i < n) {us : List Bool} (Y : PlV CR C (oth H (ow i)) H' (p i) ts st (ph i) us) (k : KeV (oth H (ow i)) H H') :
    ∃ ow' : Nat → AvS, Fam CR C H' n p ts st ph (putF' ws i us) ow' ∧ (∀ b, H b ≠ none → Fam.out n ow b → Fam.out n ow' b) := by
  obtain ⟨o, P, ho⟩ := Y.po
  have old : ∀ b ∈ o, b ∈ ow i ∨ H b = none := fun b hb => by
    cases e : H b with
    | none => exact .inr rfl
    | some x =>
      refine .inl (Classical.byContradiction fun z => ho b ⟨z, by rw [e]; exact fun y => nomatch y⟩ hb)
  have kb : KeB (ow i) H H' := fun b x e q => k b x e (by
    rcases q with q | q
    · exact .inl ⟨q, by rw [e]; exact fun y => nomatch y⟩
    · exact .inr q)
  refine ⟨putF' ow i o, ⟨fun j hj => ?_, fun a b ha hb ne x hx => ?_, F.pd⟩, fun b hb hout j hj => ?_⟩
  · by_cases c : j = i
    · subst c
      rw [putF'_same, putF'_same]
      exact P
    · rw [putF'_ne c, putF'_ne c]
      exact (F.pl j hj).keB kb (F.dj i j hi hj (Ne.symm c))
  · by_cases ca : a = i
    · subst ca
      rw [putF'_same] at hx
      rw [putF'_ne (Ne.symm ne)]
      rcases old x hx with m | m
      · exact F.dj _ _ ha hb ne x m
      · exact F.fresh m b hb
    · rw [putF'_ne ca] at hx
      by_cases cb : b = i
      · subst cb
        rw [putF'_same]
        intro m
        rcases old x m with m | m
        · exact F.dj _ _ ha hb ne x hx m
        · exact F.fresh m a ha hx
      · rw [putF'_ne cb]
        exact F.dj _ _ ha hb ne x hx
  · by_cases c : j = i
    · subst c
      rw [putF'_same]
      intro m
      rcases old b m with m | m
      · exact hout j hj m
      · exact hb m
    · rw [putF'_ne c]
      exact hout j hj
/-- one of them takes requests back -/
theorem Fam.undo (F : Fam CR C H n p ts st ph ws ow) {i : Nat} (hi : i < n) {us : List Bool} (Y : PlV CR C (oth H (ow i)) H' (p i) ts st (ph i) us) (k : Kp (p i) H H') :
    ∃ ow' : Nat → AvS, Fam CR C H' n p ts st ph (putF' ws i us) ow' ∧ (∀ b, H b ≠ none → Fam.out n ow b → Fam.out n ow' b) := by
  obtain ⟨o, P, ho⟩ := Y.po
  have old : ∀ b ∈ o, b ∈ ow i ∨ H b = none := fun b hb => by
    cases e : H b with
    | none => exact .inr rfl
    | some x =>
      refine .inl (Classical.byContradiction fun z => ho b ⟨z, by rw [e]; exact fun y => nomatch y⟩ hb)
  refine ⟨putF' ow i o, ⟨fun j hj => ?_, fun a b ha hb ne x hx => ?_, F.pd⟩, fun b hb hout j hj => ?_⟩
  · by_cases c : j = i
    · subst c
      rw [putF'_same, putF'_same]
      exact P
    · rw [putF'_ne c, putF'_ne c]
      exact (F.pl j hj).kp k (F.pd j i hj hi c) (F.pl i hi).ob
  · by_cases ca : a = i
    · subst ca
      rw [putF'_same] at hx
      rw [putF'_ne (Ne.symm ne)]
      rcases old x hx with m | m
      · exact F.dj _ _ ha hb ne x m
      · exact F.fresh m b hb
    · rw [putF'_ne ca] at hx
      by_cases cb : b = i
      · subst cb
        rw [putF'_same]
        intro m
        rcases old x m with m | m
        · exact F.dj _ _ ha hb ne x hx m
        · exact F.fresh m a ha hx
      · rw [putF'_ne cb]
        exact F.dj _ _ ha hb ne x hx
  · by_cases c : j = i
    · subst c
      rw [putF'_same]
      intro m
      rcases old b m with m | m
      · exact hout j hj m
      · exact hb m
    · rw [putF'_ne c]
      exact hout j hj
theorem Fam.av (F : Fam CR C H n p ts st ph ws ow) {i : Nat} (hi : i < n) : PlV CR C (oth H (ow i)) H (p i) ts st (ph i) (ws i) ∧ ∀ b ∈ oth H (ow i), H b ≠ none := ⟨(F.pl i hi).v fun b hb => hb.1, fun b hb => hb.2⟩
end
theorem Fam.nil {CR C : Addr} {H : Hp} {p : Nat → Addr} {ts : List Tri} {st : Int} {ph : Nat → Int} {ws : Nat → List Bool} {ow : Nat → AvS} : Fam CR C H 0 p ts st ph ws ow := ⟨fun i hi => absurd hi (Nat.not_lt_zero _), fun i j hi => absurd hi (Nat.not_lt_zero _), fun i j hi => absurd hi (Nat.not_lt_zero _)⟩
/-- one more: new, with no list of the old heap -/
theorem Fam.add {CR C : Addr} {H H' : Hp} {n : Nat} {p : Nat → Addr} {ts : List Tri} {st : Int} {ph : Nat → Int} {ws : Nat → List Bool} {ow : Nat → AvS} (F : Fam CR C H n p ts st ph ws ow) (s : Fam CR C H' n p ts st ph ws ow) {q : Addr} {ph' : Int} {us : List Bool} (Y : PlV CR C (AvS.dom H) H' q ts st ph' us) (nq : H q = none) :
    ∃ ow' : Nat → AvS, Fam CR C H' (n + 1) (putF' p n q) ts st (putF' ph n ph') (putF' ws n us) ow' ∧ (∀ b, H b ≠ none → Fam.out n ow b → Fam.out (n + 1) ow' b) := by
  obtain ⟨o, P, ho⟩ := Y.po
  have new : ∀ b ∈ o, H b = none := fun b hb => Classical.byContradiction fun z => ho b z hb
  have pq : ∀ j, j < n → p j ≠ q := fun j hj e => by
    obtain ⟨dx, r, aw, ah, h⟩ := (F.pl j hj).ob
    rw [e, nq] at h
    cases h
  refine ⟨putF' ow n o, ⟨fun j hj => ?_, fun a b ha hb ne x hx => ?_, fun a b ha hb ne => ?_⟩, fun b hb hout j hj => ?_⟩
  · by_cases c : j = n
    · subst c
      rw [putF'_same, putF'_same, putF'_same, putF'_same]
      exact P
    · rw [putF'_ne c, putF'_ne c, putF'_ne c, putF'_ne c]
      exact s.pl j (by omega)
  · by_cases ca : a = n
    · subst ca
      rw [putF'_same] at hx
      rw [putF'_ne (Ne.symm ne)]
      exact F.fresh (new x hx) b (by omega)
    · rw [putF'_ne ca] at hx
      by_cases cb : b = n
      · subst cb
        rw [putF'_same]
        exact fun m => F.fresh (new x m) a (by omega) hx
      · rw [putF'_ne cb]
        exact F.dj _ _ (by omega) (by omega) ne x hx
  · by_cases ca : a = n
    · subst ca
      rw [putF'_same, putF'_ne (Ne.symm ne)]
      exact (pq b (by omega)).symm
    · by_cases cb : b = n
      · subst cb
        rw [putF'_same, putF'_ne ca]
        exact pq a (by omega)
      · rw [putF'_ne ca, putF'_ne cb]
        exact F.pd a b (by omega) (by omega) ne
  · by_cases c : j = n
    · subst c
      rw [putF'_same]
      exact fun m => hb (new b m)
    · rw [putF'_ne c]
      exact hout j (by omega)
/-! ### != of lists with own objects in them, all of them equal -/
theorem ne_loopL {prog : Program} {w : World} {A : Around} {R : Result → Shared → Prop} {l b : Addr} {N : Nat} {I : Nat → Shared → Prop} (hl : GQ.ListI prog w A (fun e s' => R (.error e) s') l b N I)
    (fin : ∀ s : Shared, I N s → R (.ok (.ret (.bool false))) s) : ∀ (k i : Nat), N - i = k → i ≤ N → ∀ s : Shared, I i s →
    wpAny (model prog w) A.in1 (Builtin.«list.__eq__.loop» ⟨[.ref l, .ref b, rawInt i, rawInt 3], []⟩) (GQ.FinOf prog w A R) (fun e s' => R (.error e) s') s
  | 0, i, hk, hi, s, h => by
    obtain ⟨xs, ys, n, n2, h1, h2, z1, z2, _⟩ := hl i s h
    have e : i = N := by omega
    have q := fin s (e ▸ h)
    obtain ⟨hp, g, d, tk, os⟩ := s
    wp_walk using AutoSeq1.wpAny_loadPart' h1, AutoSeq1.wpAny_loadPart' h2
    have o1 : xs[((i : Nat) : Int).toNat]? = none := by simp; omega
    have o2 : ys[((i : Nat) : Int).toNat]? = none := by simp; omega
    rw [o1, o2]
    wp_walk using AutoSeq1.wpAny_loadPart' h1, AutoSeq1.wpAny_loadPart' h2
    show R (.ok (.ret (.bool (xs.size != ys.size)))) _
    rw [z1, z2, bne_self_eq_false]
    exact q
  | k + 1, i, hk, hi, s, h => by
    obtain ⟨xs, ys, n, n2, h1, h2, z1, z2, turn⟩ := hl i s h
    have l1 : i < xs.size := by omega
    have l2 : i < ys.size := by omega
    have go := turn l1 l2
    obtain ⟨hp, g, d, tk, os⟩ := s
    wp_walk using AutoSeq1.wpAny_loadPart' h1, AutoSeq1.wpAny_loadPart' h2
    have a1 : xs[((i : Nat) : Int).toNat]? = some xs[i] := by simp [l1]
    have a2 : ys[((i : Nat) : Int).toNat]? = some ys[i] := by simp [l2]
    rw [a1, a2]
    refine wpAny_bind (wpAny_mono go ?_ fun _ _ z => z)
    rintro r s2 ⟨rfl, q⟩
    have more := ne_loopL hl fin k (i + 1) (by omega) (by omega) s2 q
    obtain ⟨hp2, g2, d2, tk2, os2⟩ := s2
    wp_walk
    rw [show ((i : Int) + 1) = ((i + 1 : Nat) : Int) by omega]
    refine ⟨plainId_quiet MeetsSeq3.plain_eq_loop _, codeAny_builtin MeetsSeq3.entry_eq_loop ?_⟩
    rw [Around.under_plainId MeetsSeq3.plain_eq_loop _]
    exact more
theorem list_neL {prog : Program} {w : World} {A : Around} {R : Result → Shared → Prop} {l b : Addr} {N : Nat} {I : Nat → Shared → Prop} (hl : GQ.ListI prog w A (fun e s' => R (.error e) s') l b N I)
    (fin : ∀ s : Shared, I N s → R (.ok (.ret (.bool false))) s) {s : Shared} (h : I 0 s) :
    wpAny (model prog w) A.in1 (Builtin.«list.__ne__» ⟨[.ref l, .ref b], []⟩) (GQ.FinOf prog w A R) (fun e s' => R (.error e) s') s := by
  obtain ⟨xs, ys, n, n2, h1, h2, z1, z2, _⟩ := hl _ _ h
  have go := ne_loopL hl fin N 0 rfl (Nat.zero_le _) s h
  obtain ⟨hp, g, d, tk, os⟩ := s
  have f3 := AutoSeq1.sub_list_list
  have same : ¬ (xs.size != ys.size) = true := by simp [z1, z2]
  wp_walk using AutoSeq1.wpAny_loadPart' h1, AutoSeq1.wpAny_loadPart' h2
  refine ⟨plainId_quiet MeetsSeq3.plain_eq_loop _, codeAny_builtin MeetsSeq3.entry_eq_loop ?_⟩
  rw [Around.under_plainId MeetsSeq3.plain_eq_loop _]
  exact go
theorem rc_listN {prog : Program} {w : World} {A : Around} {E : Value → Shared → Prop} {s : Shared} {l b : Addr} {N : Nat} {Q : Value → Shared → Prop} (hu : A.units < cLine) (I : Nat → Shared → Prop) (hl : GQ.ListI prog w A E l b N I)
    (fin : ∀ s : Shared, I N s → Q (.bool false) s) (h : I 0 s) : wpAny (model prog w) A (richCompare .NotEq (.ref l) (.ref b)) Q E s := by
  obtain ⟨_, _, n, n2, h1, h2, _, _, _⟩ := hl _ _ h
  refine wpAny_richCompare_same_room (op := .NotEq) ⟨_, h1, rfl⟩ ⟨_, h2, rfl⟩ F.slot_list_ne ?_ hu
  refine GQ.call_here F.slot_list_ne ⟨_, h1, rfl⟩ F.entry_list_ne (F.args_list_ne_2 _ _) ?_
  exact list_neL (R := wants (fun v s' => v ≠ .notImplemented ∧ Q v s') E) hl (fun s' q => ⟨(fun x => nomatch x), fin s' q⟩) h
def rNeL (D : L2.Eqv) : R2 := fun x y H Q => L2.DList D x y H ∧ ∀ H', L2.Ext H H' → Q (.bl false) H'
theorem op_neL {X : Cx} {n : Nat} {D : L2.Eqv} (hD : L2.Mon D) (h : L2.EqG X n D) (hr : Room (n + 1) X.A) : OpR X (compareOp .NotEq) (rNeL D) := by
  rintro pins s σ H x y v u Q I rx ry ⟨⟨a, b, xs, ys, rfl, rfl, ha, hb, p⟩, q⟩
  cases rx
  cases ry
  show wpAny (model X.prog X.w) X.A (richCompare .NotEq (.ref a) (.ref b)) _ _ _
  refine wpAny_mono (Q := fun r s' => r = Value.bool false ∧ L2.LoopI X pins σ H s') (rc_listN (N := xs.length) hr.units0 (fun _ s' => L2.LoopI X pins σ H s') ?_ (fun s' z => ⟨rfl, z⟩) ⟨H, I, L2.Ext.rfl'⟩) ?_ fun _ _ z => z
  · rintro i s' ⟨H1, I1, e1⟩
    obtain ⟨_, its, k, r, e⟩ := I1.hok a _ (e1 _ _ ha)
    obtain ⟨_, its2, k2, r2, e2⟩ := I1.hok b _ (e1 _ _ hb)
    exact ⟨its.toArray, its2.toArray, k, k2, e, e2, by rw [List.size_toArray, ← r.length], by rw [List.size_toArray, ← r2.length, ← p.1], fun h1 h2 => L2.turnG hD h ⟨hr, rfl⟩ p r r2 i h1 h2 s' ⟨H1, I1, e1⟩⟩
  · rintro r s' ⟨rfl, H', I', e⟩
    exact ⟨.bl false, H', I', rfl, q H' e⟩
/-! ### k56: the law's own rules of a request -/
theorem pe_dgX {X : Cx} {o i : Expr} {pos : Pos} {td ty : TE} (ho : PE X o td) (hi : PE X i ty) (hs : NoSl i) (hu : X.A.units + 64 < cLine) : PE X (.Subscript o i pos) (tDGet td ty) := pe_dget (by omega) ho hi hs
def tmX : Int := 10000000000000000000000000000000000000000
def InS (bs : List Tri) (ss : List StD) : Prop := ss.length = bs.length ∧ ∀ (i : Nat) (b : Tri) (s : StD), bs[i]? = some b → ss[i]? = some s → okW s ∧ (s.1 = "closed" → s.2 + 1 ≤ b.1) ∧ 0 ≤ s.2 ∧ s.2 ≤ tmX
theorem InS.ok {bs : List Tri} {ss : List StD} (h : InS bs ss) : ∀ s ∈ ss, okW s := fun s hs => by
  obtain ⟨i, hi⟩ := List.getElem?_of_mem hs
  have := (List.getElem?_eq_some_iff.mp hi).1
  exact (h.2 i (bs[i]'(by rw [← h.1]; exact this)) s (List.getElem?_eq_getElem _) hi).1
theorem stpS_in {b : Tri} {s : StD} {t : Int} {g : Bool} (hb : OkT b) (h0 : 0 ≤ s.2) (t0 : 0 ≤ t) (t1 : t ≤ tmX) : ((stpS b s t g).1 = "closed" → (stpS b s t g).2 + 1 ≤ b.1) ∧ 0 ≤ (stpS b s t g).2 ∧ (stpS b s t g).2 ≤ tmX := by
  obtain ⟨b1, b2, b3, b4, b5, b6⟩ := hb
  have hf0 : 0 ≤ (hfS s).2 := by
    unfold hfS
    split
    · exact Int.le_refl _
    · exact h0
  unfold tmX at *
  unfold stpS
  split
  · unfold okS
    split
    · rename_i c
      exact ⟨fun e => absurd e.symm sC_H, by show 0 ≤ (hfS s).2 + 1; omega, by show (hfS s).2 + 1 ≤ _; omega⟩
    · exact ⟨fun _ => by show (0 : Int) + 1 ≤ b.1; omega, by decide, by decide⟩
  · unfold badS
    split
    · rename_i c
      exact ⟨fun _ => by show ((hfS s).2 + 1) + 1 ≤ b.1; omega, by show 0 ≤ (hfS s).2 + 1; omega, by show (hfS s).2 + 1 ≤ _; omega⟩
    · exact ⟨fun e => absurd e sO_C, t0, t1⟩
theorem sntS_in {bs : List Tri} {ss : List StD} {t : Int} {up : Bool} (hb : ∀ b ∈ bs, OkT b) (h : InS bs ss) (t0 : 0 ≤ t) (t1 : t ≤ tmX) : InS bs (sntS bs ss t up) := by
  refine ⟨sntS_len, fun i b s eb es => ?_⟩
  obtain ⟨s0, hs0⟩ : ∃ s0, ss[i]? = some s0 := ⟨_, List.getElem?_eq_getElem (by rw [h.1]; exact (List.getElem?_eq_some_iff.mp eb).1)⟩
  rw [sntS_get eb hs0] at es
  have b1 := hb b (List.mem_of_getElem? eb)
  split at es
  · cases es
    exact ⟨stpS_W _ _ _ _, stpS_in b1 (h.2 i b s0 eb hs0).2.2.1 t0 t1⟩
  · cases es
    exact h.2 i b _ eb hs0
theorem whole_in (bs : List Tri) (hb : ∀ b ∈ bs, OkT b) : InS bs (List.replicate bs.length (("closed", 0) : StD)) := by
  refine ⟨List.length_replicate, fun i b s eb es => ?_⟩
  have b1 := (hb b (List.mem_of_getElem? eb)).1
  have := List.eq_of_mem_replicate (List.mem_of_getElem? es)
  subst this
  exact ⟨.inl rfl, fun _ => by show (0 : Int) + 1 ≤ b.1; omega, by decide, by decide⟩
theorem num_mul {n : Int} (k : Bool) (h0 : 0 ≤ n) (h1 : n ≤ tmX) : CMulW n (if k = true then 1 else 0) := by
  unfold tmX at h1
  unfold CMulW
  have h2 : n.natAbs < 2 ^ 140 := Nat.lt_of_le_of_lt (show n.natAbs ≤ 10000000000000000000000000000000000000000 by omega) (by decide)
  have h3 : n.natAbs.log2 < 200000 := by
    by_cases z : n.natAbs = 0
    · rw [z]; decide
    · exact Nat.lt_trans ((Nat.log2_lt z).mpr h2) (by decide)
  cases k
  · show n.natAbs.log2 + 0 < _
    omega
  · show n.natAbs.log2 + 0 < _
    omega
def spShut : Sp := fun vs H Q _ => ∃ x y b s t, vs = [x, y, .int t] ∧ BrAt H x b ∧ StAt H y s ∧ Q (.bl (decide (¬ psB b s t))) H
def spWBehind (K : PySem.W.Frag) : Sp := fun vs H Q _ => ∃ B l xs ys bs ss t up, vs = [.ref B, .ref l, .int t, wV up] ∧ H B = some (.lst xs) ∧ Brs H xs bs ∧ H l = some (.lst ys) ∧ Sts H ys ss ∧ InS bs ss ∧ bs.length ≤ 100 ∧
  ∀ q x l2 ys2 H', H' q = some (.tup [.ref l2, x]) → TldAt K H' x bs.length (kOf bs ss t) up → H' l2 = some (.lst ys2) → Sts H' ys2 (sntS bs ss t up) → Same H H' → H q = none → H l2 = none → Q (.ref q) H'
theorem told_val (up : Bool) : some (V.str (if up = true then "served" else "failed")) = valV (mergeK [] [((.inr "up" : Key), V.str "served"), ((.inr "down" : Key), V.str "failed")]) (.inr (if up = true then "up" else "down") : Key) := by
  cases up <;> decide +kernel
theorem told_get {H : Hp} {p : Addr} {up : Bool} (h : H p = some (.dK (mergeK [] [((.inr "up" : Key), V.str "served"), ((.inr "down" : Key), V.str "failed")]))) : DGet H p (wV up) (some (.str (if up = true then "served" else "failed"))) := .inl ⟨_, .inr (if up = true then "up" else "down"), .of h, by cases up <;> rfl, told_val up⟩
section
variable {P : Program} {w : World} {K : PySem.W.Frag} {mg : Str → Option Value} {base : Heap} {L : LA}
abbrev N_wisshut : List Str := ["_law_spec", "_law_state", "_law_time"]
theorem sc_wisshut : FnScope N_wisshut ["_law_spec", "_law_state", "_law_time"] (defScope st__law_is_shut) := ⟨rfl, rfl, rfl, by decide +kernel, rfl, by decide +kernel, by decide +kernel⟩
theorem fn_wisshut (T : LX K mg L) {fd : FuncData} (F : Fun K "_law_is_shut" "_law_is_shut" st__law_is_shut L.f__law_is_shut fd) : FnOk P w K mg base CX0 1 L.f__law_is_shut fd ["_law_spec", "_law_state", "_law_time"] (spShut) := by
  have nd := sc_wisshut.nd
  refine F.ok sc_wisshut (fun vs H Q E h => ?_) (fun cdv A outer S H vs Q E hr h => ?_)
  · obtain ⟨x, y, b, s, t, rfl, _⟩ := h
    rfl
  · obtain ⟨x, y, b, s, t, rfl, ⟨ab, rfl, hb⟩, ⟨as, rfl, hs⟩, k⟩ := h
    refine ⟨_, (pss_one (ps_ret (pe_and (pe_cmpR op_eq (pe_ix (r := rIxT K) ix_tup (pv 1) pe_int (fun _ _ => rfl)) pe_str (nomark _)) (pe_one (pe_cmpR op_lt (pe_op op_sub (pv 2) (pe_ix (r := rIxT K) ix_tup (pv 1) pe_int (fun _ _ => rfl))) (pe_ix (r := rIxT K) ix_tup (pv 0) pe_int (fun _ _ => rfl)) (nomark _)))))), ?_⟩
    refine ⟨_, rfl, as, _, 0, .str s.1, rfl, rfl, SqT.of hs, rfl, rfl, _, rfl, ite2 (fun c => ?_) (fun c => ?_)⟩
    · have c' : s.1 = "open" := by simpa using c
      have e : decide (¬ psB b s t) = decide (t - s.2 < b.2.1) := by
        rw [Bool.eq_iff_iff, decide_eq_true_iff, decide_eq_true_iff]
        exact ⟨fun h => Classical.byContradiction fun z => h fun _ => by omega, fun h z => by have := z c'; omega⟩
      rw [e] at k
      exact ⟨_, rfl, _, rfl, as, _, 1, .int s.2, rfl, rfl, SqT.of hs, rfl, _, _, rfl, rfl, _, rfl, ab, _, 1, .int b.2.1, rfl, rfl, SqT.of hb, rfl, _, _, rfl, rfl, k⟩
    · have c' : ¬ s.1 = "open" := fun e => by simp [e] at c
      rw [decide_eq_false (show ¬ ¬ psB b s t from fun h => h fun e => absurd e c')] at k
      exact k
theorem ok_wisshut (T : LX K mg L) : Cal P w K mg base "_law_is_shut" 1 L.f__law_is_shut ["_law_spec", "_law_state", "_law_time"] (spShut) := T.d__law_is_shut.cal fun fd F => fn_wisshut T F
abbrev N_wbehind : List Str := ["_law_specs_here", "_law_states", "_law_time", "_law_word", "_law_stop", "_law_told", "_law_found", "_law_at", "_law_sort", "_law_number", "_law_is_half"]
theorem sc_wbehind : FnScope N_wbehind ["_law_specs_here", "_law_states", "_law_time", "_law_word"] (defScope st__law_behind) := ⟨rfl, rfl, rfl, by decide +kernel, rfl, by decide +kernel, by decide +kernel⟩
theorem fn_wbehind (T : LX K mg L) {fd : FuncData} (F : Fun K "_law_behind" "_law_behind" st__law_behind L.f__law_behind fd) : FnOk P w K mg base CX0 3 L.f__law_behind fd ["_law_specs_here", "_law_states", "_law_time", "_law_word"] (spWBehind K) := by
  have G_wisshut := ok_wisshut (P := P) (w := w) (base := base) T
  have nd := sc_wbehind.nd
  refine F.ok sc_wbehind (fun vs H Q E h => ?_) (fun cdv A outer S H vs Q E hr h => ?_)
  · obtain ⟨B, l, xs, ys, bs, ss, t, up, rfl, _⟩ := h
    rfl
  · obtain ⟨B, l, xs, ys, bs, ss, t, up, rfl, hB, hb, hl, hs, ins, bl, k⟩ := h
    refine ⟨_, (pss_cons (ps_set (i := 4) nd rfl (Or.inl rfl) pe_int)
       (C8.pss_cut (ps_while PassesOwn.never (PW.pt (pw_and (pt_cmpR op_lt (pv 4) (pe_callB call_len_seq (by rfl) T.b_len PySem.boot_len (pa_cons (pv 0) pa_nil)) (nomark _)) (pw_and1 (pt_not (pt_val (pe_c G_wisshut (hr.mono (by decide)) rfl (pa_cons (pe_ix (r := rIxL K) ix_list (pv 0) (pv 4) (fun _ _ => rfl)) (pa_cons (pe_ix (r := rIxL K) ix_list (pv 1) (pv 4) (fun _ _ => rfl)) (pa_cons (pv 2) pa_nil))))))))) (pss_one (ps_set (i := 4) nd rfl (Or.inl rfl) (pe_op op_add (pv 4) pe_int))))
       (C8.pss_cut (ps_set (i := 5) nd rfl (Or.inl rfl) (pe_ifExp (pt_cmpR op_eq (pv 4) (pe_callB call_len_seq (by rfl) T.b_len PySem.boot_len (pa_cons (pv 0) pa_nil)) (nomark _)) (pe_tup (pa_cons (pe_dgX (pe_disp (pps_cons pe_str pe_str (pps_cons pe_str pe_str pps_nil)) rfl rfl (fun q => nomatch q) (by decide)) (pv 3) (fun _ _ => rfl) hr.units) pa_nil)) (pe_tup (pa_cons pe_str (pa_cons (pv 4) pa_nil)))))
       (pss_cons (ps_set (i := 6) nd rfl (Or.inl rfl) (pe_lst pa_nil))
       (C8.pss_cut (ps_for PassesOwn.never rfl (pi_enum (by rfl) T.b_enumerate (pa_cons (pv 1) pa_nil)) (pg_tup rfl (pgs_cons (pg_name (i := 7) nd rfl (Or.inl rfl)) (pgs_cons (pg_tup rfl (pgs_cons (pg_name (i := 8) nd rfl (Or.inl rfl)) (pgs_cons (pg_name (i := 9) nd rfl (Or.inl rfl)) pgs_nil))) pgs_nil))) (pss_one (ps_if (pt_cmpR op_ge (pv 7) (pv 4) (nomark _)) (pss_one (ps_expr (pe_bm PySem.F.plainAttrs_list PySem.F.slot_list_append PySem.F.type_list_append mt_append (pv 6) (pa_cons (pe_tup (pa_cons (pv 8) (pa_cons (pv 9) pa_nil))) pa_nil)))) (pss_one (ps_if (pt_cmpR (op_eqD hr.units) (pv 5) (pe_tup (pa_cons pe_str pa_nil)) (nomark _)) (pss_cons (ps_set (i := 9) nd rfl (Or.inl rfl) (pe_op op_add pe_int (pe_op op_mulW (pv 9) (pe_callTy call_int1 (by rfl) T.b_int (by decide +kernel) (pa_cons (pe_cmpR op_eq (pv 8) pe_str (nomark _)) pa_nil)))))
       (pss_cons (ps_set (i := 10) nd rfl (Or.inl rfl) (pe_and (pe_cmpR op_ne (pv 8) pe_str (nomark _)) (pe_one (pe_cmpR op_lt (pv 9) (pe_ix (r := rIxT K) ix_tup (pe_ix (r := rIxL K) ix_list (pv 0) (pv 7) (fun _ _ => rfl)) pe_int (fun _ _ => rfl)) (nomark _)))))
       (pss_one (ps_expr (pe_bm PySem.F.plainAttrs_list PySem.F.slot_list_append PySem.F.type_list_append mt_append (pv 6) (pa_cons (pe_ifExp (pt_val (pv 10)) (pe_tup (pa_cons pe_str (pa_cons (pv 9) pa_nil))) (pe_tup (pa_cons pe_str (pa_cons pe_int pa_nil)))) pa_nil)))))) (pss_one (ps_if (PW.pt (pw_or (pt_cmpR op_ne (pv 8) pe_str (nomark _)) (pw_or1 (pt_cmpR op_eq (pe_op op_add (pv 9) pe_int) (pe_ix (r := rIxT K) ix_tup (pe_ix (r := rIxL K) ix_list (pv 0) (pv 7) (fun _ _ => rfl)) pe_int (fun _ _ => rfl)) (nomark _))))) (pss_one (ps_expr (pe_bm PySem.F.plainAttrs_list PySem.F.slot_list_append PySem.F.type_list_append mt_append (pv 6) (pa_cons (pe_tup (pa_cons pe_str (pa_cons (pv 2) pa_nil))) pa_nil)))) (pss_one (ps_expr (pe_bm PySem.F.plainAttrs_list PySem.F.slot_list_append PySem.F.type_list_append mt_append (pv 6) (pa_cons (pe_tup (pa_cons pe_str (pa_cons (pe_op op_add (pv 9) pe_int) pa_nil))) pa_nil)))))))))))
       (pss_one (ps_ret (pe_tup (pa_cons (pv 6) (pa_cons (pv 5) pa_nil)))))))))), ?_⟩
    have xl := hb.len
    have yl := paired_len hs
    have sl := ins.1
    refine ⟨fun σ' H' => σ' = [some (.ref B), some (.ref l), some (.int t), some (wV up), some (.int (kOf bs ss t : Nat)), none, none, none, none, none, none] ∧ H' = H, ?_, ?_⟩
    · refine while_by (fun σ H2 => ∃ j : Nat, σ = [some (.ref B), some (.ref l), some (.int t), some (wV up), some (.int (j : Nat)), none, none, none, none, none, none] ∧ j ≤ bs.length ∧ (∀ (i : Nat) (b : Tri) (s : StD), i < j → bs[i]? = some b → ss[i]? = some s → psB b s t) ∧ H2 = H)
        (fun σ _ => match σ with | [_, _, _, _, some (.int r), _, _, _, _, _, _] => ((bs.length : Int) - r).toNat | _ => 0)
        ⟨0, rfl, Nat.zero_le _, fun i b s h => absurd h (Nat.not_lt_zero _), rfl⟩ ?_ ?_
      · rintro σ H2 ⟨j, rfl, jl, hj, rfl⟩
        refine ⟨_, rfl, _, rfl, B, _, rfl, .inl (SqL.of hB), _, _, rfl, rfl, _, rfl, ite2 (fun c => ?_) (fun c => ?_)⟩
        · have c' : (j : Int) < xs.length := of_decide_eq_true c
          have jb : j < bs.length := by omega
          obtain ⟨x, hx⟩ : ∃ x, xs[j]? = some x := ⟨_, List.getElem?_eq_getElem (by omega)⟩
          obtain ⟨y, hy⟩ : ∃ y, ys[j]? = some y := ⟨_, List.getElem?_eq_getElem (by omega)⟩
          obtain ⟨b, eb, hbx⟩ := hb.get hx
          obtain ⟨s, es, hsy⟩ := paired_get hs hy
          refine ⟨_, rfl, _, rfl, B, xs, (j : Int), x, rfl, rfl, SqL.of hB, atI_nat hx, _, rfl, _, rfl, l, ys, (j : Int), y, rfl, rfl, SqL.of hl, atI_nat hy, _, rfl, x, y, b, s, t, rfl, hbx, hsy, _, rfl, ite2 (fun p => ?_) (fun p => ?_)⟩
          · have p' : psB b s t := Classical.byContradiction fun z => by simp [z] at p
            refine ⟨_, rfl, _, _, rfl, rfl, ⟨j + 1, rfl, jb, fun i b' s' hi e1 e2 => ?_, rfl⟩, ?_⟩
            · by_cases q : i < j
              · exact hj i b' s' q e1 e2
              · have : i = j := by omega
                subst this
                rw [eb] at e1
                rw [es] at e2
                cases e1
                cases e2
                exact p'
            · show ((bs.length : Int) - ((j : Int) + 1)).toNat < ((bs.length : Int) - (j : Int)).toNat
              omega
          · have e := kOf_is sl jl hj fun b' s' e1 e2 => by
              rw [eb] at e1
              rw [es] at e2
              cases e1
              cases e2
              exact fun h => by simp [h] at p
            rw [← e]
            exact ⟨rfl, rfl⟩
        · have c' : ¬ (j : Int) < xs.length := fun h => c (decide_eq_true h)
          have e := kOf_is sl jl hj fun b' s' e1 e2 => absurd (List.getElem?_eq_some_iff.mp e1).1 (by omega)
          rw [← e]
          exact ⟨rfl, rfl⟩
      · rintro σ H Q Q' m ⟨a1, a2, a3, a4, a5, a6, a7, a8, a9, a10, a11, a12, bb, a13, q⟩
        refine ⟨a1, a2, a3, a4, a5, a6, a7, a8, a9, a10, a11, a12, bb, a13, ?_⟩
        cases bb with
        | false => exact iteF (m _ _ (by rwa [if_neg Bool.false_ne_true] at q))
        | true =>
          rw [if_pos rfl] at q
          obtain ⟨b1, b2, b3, b4, b5, b6, b7, b8, b9, b10, b11, b12, b13, b14, b15, b16, b17, b18, b19, b20, b21, b22, b23, b24, b25, b26, b27, b28, b29, b30, b31, b32, b33, b34, b35, b36, q⟩ := q
          exact iteT ⟨b1, b2, b3, b4, b5, b6, b7, b8, b9, b10, b11, b12, b13, b14, b15, b16, b17, b18, b19, b20, b21, b22, b23, b24, b25, b26, b27, b28, b29, b30, b31, b32, b33, b34, b35, b36, m _ _ q⟩
    rintro σ' H' ⟨rfl, rfl⟩
    have kl := kOf_le bs ss t
    obtain ⟨n, hn⟩ : ∃ n, n = kOf bs ss t := ⟨_, rfl⟩
    refine ⟨fun σ2 H2 => ∃ a, σ2 = [some (.ref B), some (.ref l), some (.int t), some (wV up), some (.int (kOf bs ss t : Nat)), some (.ref a), none, none, none, none, none] ∧ SqT K H2 a (outV bs.length (kOf bs ss t) (!up)) ∧ Same H' H2, ?_, ?_⟩
    · refine ⟨_, rfl, _, rfl, B, _, rfl, .inl (SqL.of hB), rfl, _, rfl, ite2 (fun c => ?_) (fun c => ?_)⟩
      · have c' : kOf bs ss t = bs.length := by
          have := of_decide_eq_true c
          have := V.int.inj this
          omega
        rw [c', outV_n]
        intro p np
        refine ⟨upd_same, [((.inr "up" : Key), V.str "served"), ((.inr "down" : Key), V.str "failed")], rfl, (by show 2 ≤ 15; decide), _, rfl, p, .str (if up = true then "served" else "failed"), rfl, ?_, ?_⟩
        · exact told_get upd_same
        · refine ⟨(by show 1 ≤ sizeLine; decide), fun q nq => ⟨q, rfl, ?_, ?_⟩⟩
          · refine SqT.of (upd_same.trans ?_)
            cases up <;> rfl
          · have nqp : q ≠ p := fun e => by rw [e, upd_same] at nq; cases nq
            exact fun b o e => by
              have bp : b ≠ p := ne_of_none e np
              have bq : b ≠ q := fun z => by rw [z] at e; rw [upd_ne nqp, upd_ne nqp, e] at nq; cases nq
              rw [upd_ne bq, upd_ne bp, upd_ne bp]
              exact e
      · have c' : ¬ kOf bs ss t = bs.length := fun h => c (decide_eq_true (by rw [h, xl]))
        refine ⟨_, rfl, (by show 2 ≤ sizeLine; decide), fun p np => ⟨p, rfl, ?_, Same.upd np⟩⟩
        rw [outV_k (show kOf bs ss t < bs.length by omega)]
        exact SqT.of upd_same
    rintro σ2 H2 ⟨a, rfl, ha, s2⟩
    refine ⟨(by show 0 ≤ sizeLine; decide), fun D nD => ?_⟩
    refine ⟨fun σ3 H3 => ∃ ws, ∃ v1 v2 v3 v4 : Option V, σ3 = [some (.ref B), some (.ref l), some (.int t), some (wV up), some (.int (kOf bs ss t : Nat)), some (.ref a), some (.ref D), v1, v2, v3, v4] ∧ H3 D = some (.lst ws) ∧ Sts H3 ws (sntS bs ss t up) ∧ Same H2 H3, ?_, ?_⟩
    · have hl2 := s2 _ _ hl
      refine ⟨_, rfl, l, ys, rfl, SqL.of ((Same.upd nD) _ _ hl2), for_enum (K := K) (a := l) (xs := ys) (fun i σ H3 => ∃ ws, ∃ v1 v2 v3 v4 : Option V, σ = [some (.ref B), some (.ref l), some (.int t), some (wV up), some (.int (kOf bs ss t : Nat)), some (.ref a), some (.ref D), v1, v2, v3, v4] ∧ H3 D = some (.lst ws) ∧ Sts H3 ws ((sntS bs ss t up).take i) ∧ Same H2 H3) ⟨[], none, none, none, none, rfl, upd_same, .nil, Same.upd nD⟩ (fun i σ H3 _ ⟨_, _, _, _, _, _, _, _, s3⟩ => SqL.of (s3 _ _ hl2)) ?_ ?_⟩
      · rintro i x T' σ H3 hx ⟨ws, v1, v2, v3, v4, rfl, hD, hz, s3⟩ hT
        obtain ⟨s, es, as, rfl, hsy⟩ := paired_get hs hx
        have ib : i < bs.length := by have := (List.getElem?_eq_some_iff.mp hx).1; omega
        obtain ⟨b, eb⟩ : ∃ b, bs[i]? = some b := ⟨_, List.getElem?_eq_getElem ib⟩
        obtain ⟨xb, hxb, ab, rfl, hbx⟩ := paired_get2 hb eb
        have sT := Same.upd (o := .tup [.int (i : Nat), .ref as]) hT
        have s2T := (s2.trans s3).trans sT
        refine ⟨T', _, rfl, SqT.of upd_same, rfl, _, _, rfl, _, _, rfl, as, _, rfl, SqT.of (s2T _ _ hsy), rfl, _, _, rfl, _, _, rfl, rfl, rfl, ?_⟩
        have wl := paired_len hz
        rw [List.length_take, sntS_len] at wl
        have s3T := s3.trans sT
        have eg := sntS_get (t := t) (up := up) eb es
        have hDT := sT _ _ hD
        -- what is put in is the state behind the request
        have fin : ∀ (d : StD) (p : Addr) (Hm H4 : Hp) (u1 u2 u3 u4 : Option V), (sntS bs ss t up)[i]? = some d → Same (upd H3 T' (.tup [.int (i : Nat), .ref as])) Hm → Hm p = none → H4 = upd Hm p (.tup [.str d.1, .int d.2]) →
            H4 D = some (.lst ws) ∧ ws.length < sizeLine ∧ (∃ ws', ∃ v1 v2 v3 v4 : Option V, [some (.ref B), some (.ref l), some (.int t), some (wV up), some (.int (kOf bs ss t : Nat)), some (.ref a), some (.ref D), u1, u2, u3, u4] = [some (.ref B), some (.ref l), some (.int t), some (wV up), some (.int (kOf bs ss t : Nat)), some (.ref a), some (.ref D), v1, v2, v3, v4] ∧ (upd H4 D (.lst (ws ++ [.ref p]))) D = some (.lst ws') ∧ Sts (upd H4 D (.lst (ws ++ [.ref p]))) ws' ((sntS bs ss t up).take (i + 1)) ∧ Same H2 (upd H4 D (.lst (ws ++ [.ref p])))) := fun d p Hm H4 u1 u2 u3 u4 ed sm np e4 => by
          subst e4
          have sp := sm.trans (Same.upd (o := .tup [.str d.1, .int d.2]) np)
          have hD4 := sp _ _ hDT
          have n7 := NL.upd (o := .lst (ws ++ [.ref p])) hD4
          refine ⟨hD4, small1 (by omega), ws ++ [.ref p], u1, u2, u3, u4, rfl, upd_same, ?_, fun b o e => ?_⟩
          · rw [List.take_add_one, ed]
            exact paired_app (((hz.same sT).same sp).nl n7) (.cons ⟨p, rfl, n7 _ _ upd_same fun _ z => nomatch z⟩ .nil)
          · rw [upd_ne (ne_of_none e nD)]
            exact sp _ _ (s3T _ _ e)
        have hB3 := s2T _ _ hB
        have hb3 := s2T _ _ hbx
        refine ⟨_, rfl, _, rfl, _, _, rfl, rfl, _, rfl, ite2 (fun c => ?_) (fun c => ?_)⟩
        · have c' : (kOf bs ss t : Int) ≤ i := of_decide_eq_true c
          rw [if_neg (by omega)] at eg
          refine ⟨_, rfl, .inl ⟨rfl, _, SqL.of hDT⟩, _, rfl, _, rfl, (by show 2 ≤ sizeLine; decide), fun p np => ?_⟩
          obtain ⟨f1, f2, f3⟩ := fin s p _ _ _ _ _ _ eg (.refl _) np rfl
          exact ⟨D, _, _, rfl, rfl, f1, f2, f3⟩
        · have c' : ¬ (kOf bs ss t : Int) ≤ i := fun h => c (decide_eq_true h)
          rw [if_pos (by omega)] at eg
          obtain ⟨g, hg⟩ : ∃ g : Bool, g = (decide (kOf bs ss t = bs.length) && up) := ⟨_, rfl⟩
          rw [← hg] at eg
          obtain ⟨okw, okc, s0, s1⟩ := ins.2 i b s eb es
          refine ⟨_, rfl, (by show 1 ≤ sizeLine; decide), fun e ne => ?_⟩
          have se := Same.upd (o := .tup [.str "served"]) ne
          have hd : Dp K (upd (upd H3 T' (.tup [.int (i : Nat), .ref as])) e (.tup [.str "served"])) (.ref a) (outD bs.length (kOf bs ss t) (!up)) := TldAt.dp ⟨a, rfl, ha.ext fun b o z => se _ _ (s3T b o z)⟩
          refine ⟨_, _, hd, .tup (SqT.of upd_same) (.cons (.str _) .nil), outD_sh _ _ _, served_sh, ?_⟩
          rw [outD_served _ _ _ kl, Bool.not_not, ← hg]
          cases g with
          | true =>
            refine ⟨_, rfl, iteT ?_⟩
            refine ⟨_, rfl, _, rfl, rfl, .inr ⟨_, rfl, _, _, rfl, rfl, num_mul _ s0 s1, _, _, rfl, rfl, ?_⟩⟩
            have hDe := se _ _ hDT
            refine ⟨_, rfl, rfl, _, rfl, ite2 (fun c2 => ?_) (fun c2 => ?_)⟩
            · have c2' : ¬ s.1 = "closed" := fun e => by simp [e] at c2
              refine ⟨_, rfl, _, rfl, _, rfl, B, xs, (i : Int), _, rfl, rfl, SqL.of (se _ _ hB3), atI_nat hxb, ab, _, 2, .int b.2.2, rfl, rfl, SqT.of (se _ _ hb3), rfl, _, _, rfl, rfl, ?_⟩
              have key : (sntS bs ss t up)[i]? = some (if (1 + s.2 * if decide (V.str s.1 = V.str "half") = true then 1 else 0) < b.2.2 then (("half", 1 + s.2 * if decide (V.str s.1 = V.str "half") = true then 1 else 0) : StD) else ("closed", 0)) := by
                rw [eg]
                refine congrArg some ?_
                show okS b s = _
                by_cases h : s.1 = "half"
                · rw [okS_half h, if_pos (decide_eq_true (congrArg V.str h)), show 1 + s.2 * 1 = s.2 + 1 by omega]
                · have o : s.1 = "open" := by
                    rcases okw with e | e | e
                    · exact absurd e c2'
                    · exact e
                    · exact absurd e h
                  rw [okS_open o, if_neg (fun z => h (V.str.inj (of_decide_eq_true z))), show 1 + s.2 * 0 = 1 by omega]
              refine ⟨_, rfl, .inl ⟨rfl, _, SqL.of hDe⟩, _, rfl, _, rfl, ite2 (fun c3 => ?_) (fun c3 => ?_)⟩
              · have key := key.trans (congrArg some (if_pos (of_decide_eq_true c3)))
                refine ⟨_, rfl, (by show 2 ≤ sizeLine; decide), fun p np => ?_⟩
                obtain ⟨f1, f2, f3⟩ := fin ("half", _) p _ _ _ _ _ _ key se np rfl
                exact ⟨D, _, _, rfl, rfl, f1, f2, f3⟩
              · have key := key.trans (congrArg some (if_neg (fun z => c3 (decide_eq_true z))))
                refine ⟨(by show 2 ≤ sizeLine; decide), fun p np => ?_⟩
                obtain ⟨f1, f2, f3⟩ := fin ("closed", 0) p _ _ _ _ _ _ key se np rfl
                exact ⟨D, _, _, rfl, rfl, f1, f2, f3⟩
            · have c2' : s.1 = "closed" := by simpa using c2
              refine ⟨_, rfl, .inl ⟨rfl, _, SqL.of hDe⟩, _, rfl, _, rfl, iteF ⟨(by show 2 ≤ sizeLine; decide), fun p np => ?_⟩⟩
              obtain ⟨f1, f2, f3⟩ := fin ("closed", 0) p _ _ _ _ _ _ (eg.trans (congrArg some (okS_closed c2'))) se np rfl
              exact ⟨D, _, _, rfl, rfl, f1, f2, f3⟩
          | false =>
            refine ⟨_, rfl, iteF ?_⟩
            refine ⟨_, rfl, rfl, _, rfl, ite2 (fun c2 => ?_) (fun c2 => ?_)⟩
            · have c2' : ¬ s.1 = "closed" := fun e => by simp [e] at c2
              refine iteT ⟨_, rfl, .inl ⟨rfl, _, SqL.of (se _ _ hDT)⟩, _, rfl, (by show 2 ≤ sizeLine; decide), fun p np => ?_⟩
              obtain ⟨f1, f2, f3⟩ := fin ("open", t) p _ _ _ _ _ _ (eg.trans (congrArg some (badS_other c2'))) se np rfl
              exact ⟨D, _, _, rfl, rfl, f1, f2, f3⟩
            · have c2' : s.1 = "closed" := by simpa using c2
              refine ⟨_, rfl, _, _, rfl, rfl, _, rfl, _, rfl, B, xs, (i : Int), _, rfl, rfl, SqL.of (se _ _ hB3), atI_nat hxb, ab, _, 0, .int b.1, rfl, rfl, SqT.of (se _ _ hb3), rfl, rfl, _, rfl, ite2 (fun c3 => ?_) (fun c3 => ?_)⟩
              · have c3' : ¬ s.2 + 1 < b.1 := by
                  have := V.int.inj (of_decide_eq_true c3)
                  omega
                refine ⟨_, rfl, .inl ⟨rfl, _, SqL.of (se _ _ hDT)⟩, _, rfl, (by show 2 ≤ sizeLine; decide), fun p np => ?_⟩
                obtain ⟨f1, f2, f3⟩ := fin ("open", t) p _ _ _ _ _ _ (eg.trans (congrArg some ((badS_closed c2').trans (if_neg c3')))) se np rfl
                exact ⟨D, _, _, rfl, rfl, f1, f2, f3⟩
              · have c3' : s.2 + 1 < b.1 := by
                  have h1 := okc c2'
                  have : ¬ s.2 + 1 = b.1 := fun e => c3 (decide_eq_true (congrArg V.int e))
                  omega
                refine ⟨_, rfl, .inl ⟨rfl, _, SqL.of (se _ _ hDT)⟩, _, rfl, _, _, rfl, rfl, (by show 2 ≤ sizeLine; decide), fun p np => ?_⟩
                obtain ⟨f1, f2, f3⟩ := fin ("closed", s.2 + 1) p _ _ _ _ _ _ (eg.trans (congrArg some ((badS_closed c2').trans (if_pos c3')))) se np rfl
                exact ⟨D, _, _, rfl, rfl, f1, f2, f3⟩
      · rintro σ H3 ⟨ws, v1, v2, v3, v4, rfl, hD, hz, s3⟩
        rw [yl, sl, List.take_of_length_le (by rw [sntS_len]; exact Nat.le_refl _)] at hz
        exact ⟨ws, v1, v2, v3, v4, rfl, hD, hz, s3⟩
    rintro σ3 H3 ⟨ws, v1, v2, v3, v4, rfl, hD, hz, s3⟩
    refine ⟨_, rfl, _, rfl, (by show 2 ≤ sizeLine; decide), fun q nq => ?_⟩
    have sq := Same.upd (o := .tup [.ref D, .ref a]) nq
    have sA := (s2.trans s3).trans sq
    exact k q (.ref a) D ws _ upd_same ⟨a, rfl, ha.ext fun b o e => sq _ _ (s3 b o e)⟩ (sq _ _ hD) (hz.same sq) sA (none_of (s2.trans s3) nq) (none_of s2 nD)
theorem ok_wbehind (T : LX K mg L) : Cal P w K mg base "_law_behind" 3 L.f__law_behind ["_law_specs_here", "_law_states", "_law_time", "_law_word"] (spWBehind K) := T.d__law_behind.cal fun fd F => fn_wbehind T F
end
/-! ### an instance of another class is none of this one -/
theorem CF.kitC {K : PySem.W.Frag} {C D : Addr} (M : CF K C) (h : PySem.W.mroIn K D (.ref C) = some false) : PySem.W.kitOne K (.ref D) (.ref C) = some false ∧ D ≠ C := by
  have ne : D ≠ C := fun z => by
    subst z
    have sf : (PySem.W.clsIn K D).any (fun cd => cd.mro.head? == some (.ref D)) = true := M.sf
    have h : (PySem.W.clsIn K D).bind (fun cd => if cd.mro.isEmpty then none else some (cd.mro.contains (.ref D))) = some false := h
    cases q : PySem.W.clsIn K D with
    | none => rw [q] at sf; cases sf
    | some cd =>
      rw [q] at sf h
      have sf : (cd.mro.head? == some (.ref D)) = true := sf
      have h : (if cd.mro.isEmpty = true then none else some (cd.mro.contains (.ref D))) = some false := h
      cases e : cd.mro with
      | nil => rw [e] at sf; exact absurd sf Bool.false_ne_true
      | cons a r =>
        rw [e] at sf h
        have e2 : a = .ref D := Option.some.inj (eq_of_beq sf)
        rw [e2, List.contains_cons] at h
        simp at h
  refine ⟨?_, ne⟩
  have e1 : ((PySem.W.clsIn K C).isSome && PySem.W.typeIn K (.ref C) == some (.type "type")) = true := by
    have h2 : (PySem.W.clsIn K C).isSome = true := M.cls
    rw [h2, M.ty] <;> rfl
  show (if (Value.ref D == Value.ref C) = true then some true else PySem.W.kitCls K (.ref D) (.ref C)) = some false
  rw [if_neg (by intro z; have := eq_of_beq z; injection this with this; exact ne this)]
  show (if ((PySem.W.clsIn K C).isSome && PySem.W.typeIn K (.ref C) == some (.type "type")) = true then PySem.W.subIn K (.ref D) (.ref C) else none) = some false
  rw [if_pos e1]
  exact h
/-! ### k56: what a Playing shows, with its row -/
def RRow (C : Addr) : Addr → Addr → Hp → Prop := fun a b H => ∃ B B' xs xs' ts st ph, RowAt C H a B xs ts st ph ∧ RowAt C H b B' xs' ts st ph
def DIt (K : PySem.W.Frag) (C : Addr) : L2.Eqv := fun x y H => L2.DFlat x y H ∨ (L2.DList L2.DFlat x y H ∨ (L2.DList (L2.DTup K L2.DFlat) x y H ∨ L2.DIns C (RRow C) x y H))
def DSh (K : PySem.W.Frag) (C : Addr) : L2.Eqv := L2.DList (DIt K C)
theorem eqG_row {X : Cx} {L : LA} (T : LX X.K X.mg L) : L2.EqG X 1 (L2.DIns L.c_Row (RRow L.c_Row)) ∧ L2.Mon (L2.DIns L.c_Row (RRow L.c_Row)) := by
  refine ⟨?_, L2.mon_ins fun a b H H' e ⟨B, B', xs, xs', ts, st, ph, R, R'⟩ => ⟨B, B', xs, xs', ts, st, ph, R.nl (NL.of e), R'.nl (NL.of e)⟩⟩
  have c := ok_Roweq (P := X.prog) (w := X.w) (base := X.base) T
  obtain ⟨fd, F, b⟩ := c.ex
  have imp : ∀ (vs : List V) (H : Hp) (Q : VK) (E : XK), L2.spEq (RRow L.c_Row) vs H Q E → spEqR L.c_Row vs H Q E := fun vs H Q E h => by
    obtain ⟨a, b, rfl, ⟨B, B', xs, xs', ts, st, ph, R, R'⟩, k⟩ := h
    have EB : EqOf L.c_Row H (ts, st, ph) (.ref b) (decide ((ts, st, ph) = (ts, st, ph))) := .row R'
    rw [decide_eq_true rfl] at EB
    exact ⟨a, B, xs, ts, st, ph, .ref b, true, rfl, R, EB, k H L2.Ext.rfl'⟩
  have F' : FnOk X.prog X.w X.K X.mg X.base CX0 1 L.m_Row_eq fd ["self", "other"] (L2.spEq (RRow L.c_Row)) :=
    ⟨fun vs H Q E h => F.len vs H Q E (imp vs H Q E h), fun A outer s H args us vs Q E hr he hb hv h => F.run A outer s H args us vs Q E hr he hb hv (imp vs H Q E h)⟩
  exact L2.eqG_ins (E := E0) F' c.me.at_ c.me.fn b pass0
theorem mon_it {X : Cx} {L : LA} (T : LX X.K X.mg L) : L2.Mon (DIt X.K L.c_Row) := L2.Mon.or L2.mon_flat (L2.Mon.or (L2.mon_list L2.mon_flat) (L2.Mon.or (L2.mon_list (L2.mon_tup L2.mon_flat)) (eqG_row T).2))
theorem eqG_it {X : Cx} {L : LA} (T : LX X.K X.mg L) : L2.EqG X 2 (DIt X.K L.c_Row) :=
  L2.EqG.or (L2.eqG_flat.mono (by decide)) (L2.EqG.or ((L2.eqG_list L2.mon_flat L2.eqG_flat).mono (by decide)) (L2.EqG.or (L2.eqG_list (L2.mon_tup L2.mon_flat) (L2.eqG_tup L2.mon_flat L2.eqG_flat)) ((eqG_row T).1.mono (by decide))))
theorem op_neSh {X : Cx} {L : LA} (T : LX X.K X.mg L) (hr : Room 3 X.A) : OpR X (compareOp .NotEq) (rNeL (DIt X.K L.c_Row)) := op_neL (mon_it T) (eqG_it T) hr
theorem op_neShs {X : Cx} {L : LA} (T : LX X.K X.mg L) (hr : Room 4 X.A) : OpR X (compareOp .NotEq) (rNeL (DSh X.K L.c_Row)) := op_neL (L2.mon_list (mon_it T)) (L2.eqG_list (mon_it T) (eqG_it T)) hr
theorem op_eqSh {X : Cx} {L : LA} (T : LX X.K X.mg L) (hr : Room 3 X.A) : OpR X (compareOp .Eq) (L2.rEqG (DSh X.K L.c_Row)) := L2.op_eqG (L2.rcG_list (mon_it T) (eqG_it T)) hr
/-- x shows what is seen behind these words -/
def ShW (CR : Addr) (H : Hp) (x : V) (ts : List Tri) (st ph : Int) (ws : List Bool) : Prop := ∃ l a c r xs B bx, x = .ref l ∧ H l = some (.lst [.ref a, .bl (decide (plA ts st ph ws = List.replicate ts.length (("closed", 0) : StD))), .ref c, .int (ph + (ws.length : Int) * st), .ref r]) ∧
  H a = some (.lst xs) ∧ Sts H xs (plA ts st ph ws) ∧ H c = some (.lst (ws.map wV)) ∧ RowAt CR H r B bx ts st ph
theorem ShW.same {CR : Addr} {H H' : Hp} {x : V} {ts : List Tri} {st ph : Int} {ws : List Bool} (h : ShW CR H x ts st ph ws) (s : Same H H') : ShW CR H' x ts st ph ws := by
  obtain ⟨l, a, c, r, xs, B, bx, e, h1, h2, h3, h4, h5⟩ := h
  exact ⟨l, a, c, r, xs, B, bx, e, s _ _ h1, s _ _ h2, h3.same s, s _ _ h4, h5.nl (NL.of s)⟩
theorem ShW.fr {CR : Addr} {H H' : Hp} {l a c r B : Addr} {xs bx : List V} {ts : List Tri} {st ph : Int} {ws : List Bool} (nl : H l = none) (na : H a = none) (nc : H c = none) (h1 : H' l = some (.lst [.ref a, .bl (decide (plA ts st ph ws = List.replicate ts.length (("closed", 0) : StD))), .ref c, .int (ph + (ws.length : Int) * st), .ref r]))
    (h2 : H' a = some (.lst xs)) (h3 : Sts H' xs (plA ts st ph ws)) (h4 : H' c = some (.lst (ws.map wV))) (h5 : RowAt CR H' r B bx ts st ph) : ShW CR (Fr H H') (.ref l) ts st ph ws := by
  have n : NL H' (Fr H H') := fun b o e q => Fr.nol e q
  exact ⟨l, a, c, r, xs, B, bx, rfl, (Fr.new nl).trans h1, (Fr.new na).trans h2, h3.nl n, (Fr.new nc).trans h4, h5.nl n⟩
theorem flat_prs (H : Hp) : ∀ vs : List V, (∀ v ∈ vs, flatV v = true ∧ eqV v v = true) → L2.Prs L2.DFlat vs vs H
  | [], _ => .nil
  | v :: vs, h => .cons ⟨(h v (List.mem_cons_self ..)).1, (h v (List.mem_cons_self ..)).1, (h v (List.mem_cons_self ..)).2⟩ (flat_prs H vs fun u hu => h u (List.mem_cons_of_mem _ hu))
theorem words_prs (H : Hp) (ws : List Bool) : L2.Prs L2.DFlat (ws.map wV) (ws.map wV) H := flat_prs H _ fun v hv => by
  obtain ⟨b, _, rfl⟩ := List.mem_map.mp hv
  exact ⟨rfl, by simp [wV, eqV]⟩
theorem sts_prs {K : PySem.W.Frag} {H : Hp} : ∀ {xs ys : List V} {ss : List StD}, Sts H xs ss → Sts H ys ss → L2.Prs (L2.DTup K L2.DFlat) xs ys H
  | _, _, _, .nil, .nil => .nil
  | _, _, _, .cons ⟨a, e, h⟩ t, .cons ⟨b, e', h'⟩ t' => by
    subst e e'
    exact .cons ⟨a, b, _, _, rfl, rfl, SqT.of h, SqT.of h', flat_prs H _ fun v hv => by
      simp only [List.mem_cons, List.mem_nil_iff, or_false] at hv
      rcases hv with rfl | rfl
      · exact ⟨rfl, by simp [eqV]⟩
      · exact ⟨rfl, by simp [eqV]⟩⟩ (sts_prs t t')
theorem shW_eq {K : PySem.W.Frag} {CR : Addr} {H : Hp} {x y : V} {ts : List Tri} {st ph : Int} {ws : List Bool} (h : ShW CR H x ts st ph ws) (h' : ShW CR H y ts st ph ws) : DSh K CR x y H := by
  obtain ⟨l, a, c, r, xs, B, bx, rfl, h1, h2, h3, h4, h5⟩ := h
  obtain ⟨l', a', c', r', xs', B', bx', rfl, h1', h2', h3', h4', h5'⟩ := h'
  obtain ⟨dx, ho⟩ := h5.ob
  obtain ⟨dy, ho'⟩ := h5'.ob
  refine ⟨l, l', _, _, rfl, rfl, h1, h1', .cons (.inr (.inr (.inl ⟨a, a', _, _, rfl, rfl, h2, h2', sts_prs h3 h3'⟩))) (.cons (.inl ⟨rfl, rfl, by simp [eqV]⟩) (.cons (.inr (.inl ⟨c, c', _, _, rfl, rfl, h4, h4', words_prs H ws⟩)) (.cons (.inl ⟨rfl, rfl, by simp [eqV]⟩) (.cons (.inr (.inr (.inr ⟨r, r', dx, dy, _, _, rfl, rfl, ho, ho', B, B', bx, bx', ts, st, ph, h5, h5'⟩))) .nil))))⟩
def spWShown (CR C : Addr) : Sp := fun vs H Q _ => ∃ p av ts st ph ws, vs = [.ref p] ∧ PlV CR C av H p ts st ph ws ∧ ws.length ≤ 10000 ∧ ∀ l H', ShW CR (Fr H H') (.ref l) ts st ph ws → Same H H' → H l = none → Q (.ref l) H'
def spWDue (CR : Addr) : Sp := fun vs H Q _ => ∃ pa sp wl xs ts st ph ws, vs = [.ref pa, .ref wl] ∧ H pa = some (.tup [.ref sp, .int st, .int ph]) ∧ H sp = some (.lst xs) ∧ Brs H xs ts ∧ (∀ t ∈ ts, OkT t) ∧ ts.length ≤ 12 ∧ 1 ≤ st ∧ st ≤ 1000 ∧ 0 ≤ ph ∧ ph ≤ 1000000000000000000000000000000 ∧
  H wl = some (.lst (ws.map wV)) ∧ ws.length ≤ 10000 ∧ ∀ l H', ShW CR (Fr H H') (.ref l) ts st ph ws → (∀ a vs, H' l = some (.lst (.ref a :: vs)) → H a = none) → Same H H' → H l = none → Q (.ref l) H'
theorem plA_in {ts : List Tri} {st ph : Int} (ok : ∀ t ∈ ts, OkT t) (s0 : 1 ≤ st) (s1 : st ≤ 1000) (p0 : 0 ≤ ph) (p1 : ph ≤ 1000000000000000000000000000000) (ws : List Bool) : ∀ n : Nat, n ≤ 10000 → InS ts (plA ts st ph (ws.take n))
  | 0, _ => whole_in ts ok
  | n + 1, hn => by
    have ih := plA_in ok s0 s1 p0 p1 ws n (by omega)
    cases e : ws[n]? with
    | none =>
      rw [List.take_add_one, e]
      simpa using ih
    | some w =>
      have l := (List.getElem?_eq_some_iff.mp e).1
      rw [List.take_add_one, e]
      show InS ts (plA ts st ph (ws.take n ++ [w]))
      rw [plA_app, List.length_take, Nat.min_eq_left (by omega)]
      have m0 : 0 ≤ (n : Int) * st := Int.mul_nonneg (by omega) (by omega)
      have m1 : (n : Int) * st ≤ 10000 * 1000 := Int.mul_le_mul (by omega) s1 (by omega) (by decide)
      exact sntS_in ok ih (by omega) (by unfold tmX; omega)
section
variable {P : Program} {w : World} {K : PySem.W.Frag} {mg : Str → Option Value} {base : Heap} {L : LA}
abbrev N_wshown : List Str := ["_law_game"]
theorem sc_wshown : FnScope N_wshown ["_law_game"] (defScope st__law_shown) := ⟨rfl, rfl, rfl, by decide +kernel, rfl, by decide +kernel, by decide +kernel⟩
theorem fn_wshown (T : LX K mg L) {fd : FuncData} (F : Fun K "_law_shown" "_law_shown" st__law_shown L.f__law_shown fd) : FnOk P w K mg base CX0 5 L.f__law_shown fd ["_law_game"] (spWShown L.c_Row L.c_Playing) := by
  have G_Playingstatelist := ok_Playingstatelist (P := P) (w := w) (base := base) T
  have G_Playingiswhole := ok_Playingiswhole (P := P) (w := w) (base := base) T
  have G_Playinglog := ok_Playinglog (P := P) (w := w) (base := base) T
  have G_Playingnextrequest := ok_Playingnextrequest (P := P) (w := w) (base := base) T
  have G_Playingbaserow := ok_Playingbaserow (P := P) (w := w) (base := base) T
  have nd := sc_wshown.nd
  refine F.ok sc_wshown (fun vs H Q E h => ?_) (fun cdv A outer S H vs Q E hr h => ?_)
  · obtain ⟨p, av, ts, st, ph, ws, rfl, _⟩ := h
    rfl
  · obtain ⟨p, av, ts, st, ph, ws, rfl, Y, wl, k⟩ := h
    refine ⟨_, (pss_one (ps_ret (pe_lst (pa_cons (G_Playingstatelist.p_m0 T.cf_Playing.cl (hr.mono (by decide)) (pv 0)) (pa_cons (G_Playingiswhole.p_m0 T.cf_Playing.cl (hr.mono (by decide)) (pv 0)) (pa_cons (G_Playinglog.p_m0 T.cf_Playing.cl (hr.mono (by decide)) (pv 0)) (pa_cons (G_Playingnextrequest.p_m0 T.cf_Playing.cl (hr.mono (by decide)) (pv 0)) (pa_cons (G_Playingbaserow.p_m0 T.cf_Playing.cl (hr.mono (by decide)) (pv 0)) pa_nil)))))))), ?_⟩
    obtain ⟨dx, r0, aw, ah, hp⟩ := Y.ob
    refine ⟨_, rfl, p, dx, _, rfl, hp, plF_no _ _ _ (by decide +kernel) (by decide +kernel) (by decide +kernel), p, av, ts, st, ph, ws, rfl, Y, fun sl ys H1 hsl hys s1 nsl => ?_⟩
    have Y1 := Y.same s1
    refine ⟨_, rfl, p, dx, _, rfl, s1 _ _ hp, plF_no _ _ _ (by decide +kernel) (by decide +kernel) (by decide +kernel), p, _, ts, st, ph, ws, rfl, Y1, fun H2 s2 => ?_⟩
    have s12 := s1.trans s2
    have Y2 := Y.same s12
    refine ⟨_, rfl, p, dx, _, rfl, s12 _ _ hp, plF_no _ _ _ (by decide +kernel) (by decide +kernel) (by decide +kernel), p, _, ts, st, ph, ws, rfl, Y2, fun ll H3 hll s3 nll => ?_⟩
    have s13 := s12.trans s3
    have Y3 := Y.same s13
    refine ⟨_, rfl, p, dx, _, rfl, s13 _ _ hp, plF_no _ _ _ (by decide +kernel) (by decide +kernel) (by decide +kernel), p, _, ts, st, ph, ws, rfl, Y3, wl, ?_⟩
    refine ⟨_, rfl, p, dx, _, rfl, s13 _ _ hp, plF_no _ _ _ (by decide +kernel) (by decide +kernel) (by decide +kernel), p, _, ts, st, ph, ws, rfl, Y3, fun r B xs R => ⟨(by show 5 ≤ sizeLine; decide), fun a na => ?_⟩⟩
    have s4 := Same.upd (o := .lst [.ref sl, .bl (decide (plA ts st ph ws = List.replicate ts.length (("closed", 0) : StD))), .ref ll, .int (ph + (ws.length : Int) * st), .ref r]) na
    exact k a _ (ShW.fr (none_of s13 na) nsl (none_of s12 nll) upd_same (s4 _ _ (s3 _ _ (s2 _ _ hsl))) (((hys.same s2).same s3).same s4) (s4 _ _ hll) (R.nl (NL.of s4))) (s13.trans s4) (none_of s13 na)
theorem ok_wshown (T : LX K mg L) : Cal P w K mg base "_law_shown" 5 L.f__law_shown ["_law_game"] (spWShown L.c_Row L.c_Playing) := T.d__law_shown.cal fun fd F => fn_wshown T F
abbrev N_wdue : List Str := ["_law_parts", "_law_words_here", "_law_specs_here", "_law_step", "_law_early", "_law_whole", "_law_states", "_law_at", "_law_word"]
theorem sc_wdue : FnScope N_wdue ["_law_parts", "_law_words_here"] (defScope st__law_due) := ⟨rfl, rfl, rfl, by decide +kernel, rfl, by decide +kernel, by decide +kernel⟩
theorem fn_wdue (T : LX K mg L) {fd : FuncData} (F : Fun K "_law_due" "_law_due" st__law_due L.f__law_due fd) : FnOk P w K mg base CX0 7 L.f__law_due fd ["_law_parts", "_law_words_here"] (spWDue L.c_Row) := by
  have G_wbehind := ok_wbehind (P := P) (w := w) (base := base) T
  have nd := sc_wdue.nd
  refine F.ok sc_wdue (fun vs H Q E h => ?_) (fun cdv A outer S H vs Q E hr h => ?_)
  · obtain ⟨pa, sp, wl, xs, ts, st, ph, ws, rfl, _⟩ := h
    rfl
  · obtain ⟨pa, sp, wl, xs, ts, st, ph, ws, rfl, hpa, hsp, hb, ok, l12, s0, s1, p0, p1, hwl, wsl, k⟩ := h
    refine ⟨_, (pss_cons (ps_asg (pv 0) (pg_tup rfl (pgs_cons (pg_name (i := 2) nd rfl (Or.inl rfl)) (pgs_cons (pg_name (i := 3) nd rfl (Or.inl rfl)) (pgs_cons (pg_name (i := 4) nd rfl (Or.inl rfl)) pgs_nil)))))
       (pss_cons (ps_set (i := 5) nd rfl (Or.inl rfl) (pe_op op_rep (pe_lst (pa_cons (pe_tup (pa_cons pe_str (pa_cons pe_int pa_nil))) pa_nil)) (pe_callB call_len_seq (by rfl) T.b_len PySem.boot_len (pa_cons (pv 2) pa_nil))))
       (pss_cons (ps_set (i := 6) nd rfl (Or.inl rfl) (pv 5))
       (pss_cons (ps_for PassesOwn.never rfl (pi_enum (by rfl) T.b_enumerate (pa_cons (pv 1) pa_nil)) (pg_tup rfl (pgs_cons (pg_name (i := 7) nd rfl (Or.inl rfl)) (pgs_cons (pg_name (i := 8) nd rfl (Or.inl rfl)) pgs_nil))) (pss_one (ps_set (i := 6) nd rfl (Or.inl rfl) (pe_ix (r := rIxT K) ix_tup (pe_c G_wbehind (hr.mono (by decide)) rfl (pa_cons (pv 2) (pa_cons (pv 6) (pa_cons (pe_op op_add (pv 4) (pe_op op_mulW (pv 3) (pv 7))) (pa_cons (pv 8) pa_nil))))) pe_int (fun _ _ => rfl)))))
       (pss_one (ps_ret (pe_lst (pa_cons (pv 6) (pa_cons (pe_cmpR (op_eqD hr.units) (pv 6) (pv 5) (nomark _)) (pa_cons (pe_callTy call_list_of (by rfl) T.b_list (by decide +kernel) (pa_cons (pv 1) pa_nil)) (pa_cons (pe_op op_add (pv 4) (pe_op op_mulW (pv 3) (pe_callB call_len_seq (by rfl) T.b_len PySem.boot_len (pa_cons (pv 1) pa_nil)))) (pa_cons (pe_mkRow_p_phase T (hr.mono (by decide)) rfl (pa_cons (pv 2) (pa_cons (pv 3) pa_nil)) (pk_cons (pv 4) pk_nil)) pa_nil)))))))))))), ?_⟩
    have xl := hb.len
    refine ⟨_, rfl, pa, _, rfl, SqT.of hpa, rfl, _, _, rfl, _, _, rfl, _, _, rfl, rfl, ?_⟩
    refine ⟨(by show 2 ≤ sizeLine; decide), fun t ht => ⟨(by show 1 ≤ sizeLine; decide), fun l hl => ?_⟩⟩
    have z1 := Same.upd (o := .tup [.str "closed", .int 0]) ht
    have z2 := z1.trans (Same.upd (o := .lst [.ref t]) hl)
    refine ⟨_, rfl, sp, _, rfl, .inl (SqL.of (z2 _ _ hsp)), l, (xs.length : Nat), [.ref t], rfl, rfl, upd_same, by omega, by omega, small2 (by rw [Int.toNat_natCast]; show 1 * xs.length ≤ 100000; omega), fun r hr => ?_⟩
    have z3 := z2.trans (Same.upd (o := .lst (List.replicate (xs.length : Int).toNat [V.ref t]).flatten) hr)
    have ht3 : (upd (upd (upd H t (.tup [.str "closed", .int 0])) l (.lst [.ref t])) r (.lst (List.replicate (xs.length : Int).toNat [V.ref t]).flatten)) t = some (.tup [.str "closed", .int 0]) := by
      have h1 : (upd (upd H t (.tup [.str "closed", .int 0])) l (.lst [.ref t])) t = some (.tup [.str "closed", .int 0]) := (Same.upd hl) _ _ upd_same
      rw [upd_ne (ne_of_none h1 hr)]
      exact h1
    have hr3 : (upd (upd (upd H t (.tup [.str "closed", .int 0])) l (.lst [.ref t])) r (.lst (List.replicate (xs.length : Int).toNat [V.ref t]).flatten)) r = some (.lst (List.replicate ts.length (V.ref t))) := by
      rw [upd_same, Int.toNat_natCast, List.flatten_replicate_singleton, xl]
    have hz3 := sts_rep (d := ("closed", 0)) ht3 ts.length
    have nr := none_of z2 hr
    generalize upd (upd (upd H t (.tup [.str "closed", .int 0])) l (.lst [.ref t])) r (.lst (List.replicate (xs.length : Int).toNat [V.ref t]).flatten) = H3 at z3 hr3 hz3 ht3
    refine ⟨_, rfl, ?_⟩
    have hsp3 := z3 _ _ hsp
    have hb3 := hb.nl (NL.of z3)
    have hwl3 := z3 _ _ hwl
    refine ⟨_, rfl, wl, _, rfl, SqL.of hwl3, for_enum (K := K) (a := wl) (xs := ws.map wV) (fun i σ H4 => ∃ a ys, ∃ u v : Option V, σ = [some (.ref pa), some (.ref wl), some (.ref sp), some (.int st), some (.int ph), some (.ref r), some (.ref a), u, v] ∧ H4 a = some (.lst ys) ∧ Sts H4 ys (plA ts st ph (ws.take i)) ∧ Same H3 H4 ∧ H a = none)
      ⟨r, _, none, none, rfl, hr3, hz3, Same.refl H3, nr⟩ (fun i σ H4 _ ⟨_, _, _, _, _, _, _, s4, _⟩ => SqL.of (s4 _ _ hwl3)) ?_ ?_⟩
    · rintro i x T' σ H4 hx ⟨a, ys, u, v, rfl, ha, hys, s4, _⟩ hT
      rw [List.getElem?_map] at hx
      obtain ⟨up, eu, rfl⟩ := Option.map_eq_some_iff.mp hx
      have iw := (List.getElem?_eq_some_iff.mp eu).1
      have sT := Same.upd (o := .tup [.int (i : Nat), wV up]) hT
      have s3T := s4.trans sT
      refine ⟨T', _, rfl, SqT.of upd_same, rfl, _, _, rfl, _, _, rfl, rfl, ?_⟩
      refine ⟨_, rfl, _, rfl, _, rfl, _, rfl, _, rfl, _, _, rfl, rfl, wide_mul (a := 20) (b := 100) (Nat.lt_of_le_of_lt (show st.natAbs ≤ 1000 by omega) (by decide)) (Nat.lt_of_le_of_lt (show ((i : Nat) : Int).natAbs ≤ 10000 by omega) (by decide)) (by decide) (by decide) (by decide), _, _, rfl, rfl, _, rfl, ?_⟩
      have et : ph + st * (i : Int) = ph + (((ws.take i).length : Nat) : Int) * st := by
        rw [List.length_take, Nat.min_eq_left (by omega), Int.mul_comm]
      have nn : 0 ≤ (i : Int) * st := Int.mul_nonneg (by omega) (by omega)
      have mm : (i : Int) * st ≤ 10000 * 1000 := Int.mul_le_mul (by omega) s1 (by omega) (by decide)
      refine ⟨sp, a, xs, ys, ts, plA ts st ph (ws.take i), ph + st * (i : Int), up, rfl, s3T _ _ hsp3, hb3.nl (NL.of s3T), sT _ _ ha, hys.same sT, plA_in ok s0 s1 p0 p1 ws i (by omega), by omega, fun q x l2 ys2 H5 hq htl hl2 hs2 s5 nq nl2 => ?_⟩
      refine ⟨q, _, 0, .ref l2, rfl, rfl, SqT.of hq, rfl, ?_⟩
      rw [et] at hs2
      refine ⟨l2, ys2, _, _, rfl, hl2, ?_, s3T.trans s5, none_of (z3.trans s3T) nl2⟩
      rw [List.take_add_one, eu]
      show Sts H5 ys2 (plA ts st ph (ws.take i ++ [up]))
      rw [plA_app]
      exact hs2
    · rintro σ H4 ⟨a, ys, u, v, rfl, ha, hys, s4, nwa⟩
      rw [List.length_map, List.take_length] at hys
      have hr4 := s4 _ _ hr3
      have hz4 := hz3.same s4
      have cw : ∀ s ∈ List.replicate ts.length (("closed", 0) : StD), okW s := fun s h => by rw [List.eq_of_mem_replicate h]; exact .inl rfl
      refine ⟨_, rfl, _, rfl, _, rfl, _, _, Sts.dpl ha hys, Sts.dpl hr4 hz4, shSts (plA_ok ts st ph ws).2, shSts cw, ?_⟩
      rw [eqSts]
      have hwl4 := s4 _ _ hwl3
      refine ⟨_, rfl, wl, _, rfl, .inl (SqL.of hwl4), fun c hc => ?_⟩
      have s5 := Same.upd (o := .lst (ws.map wV)) hc
      have s35 := s4.trans s5
      have nn : 0 ≤ (ws.length : Int) * st := Int.mul_nonneg (by omega) (by omega)
      refine ⟨_, rfl, _, rfl, _, rfl, wl, _, rfl, .inl (SqL.of (s5 _ _ hwl4)), _, _, rfl, rfl, wide_mul (a := 20) (b := 100) (Nat.lt_of_le_of_lt (show st.natAbs ≤ 1000 by omega) (by decide)) (Nat.lt_of_le_of_lt (show (((ws.map wV).length : Nat) : Int).natAbs ≤ 10000 by rw [List.length_map]; omega) (by decide)) (by decide) (by decide) (by decide), _, _, rfl, rfl, ?_⟩
      rw [List.length_map]
      refine ⟨_, rfl, _, rfl, _, rfl, rfl, rfl, ?_⟩
      refine row_made (xs := xs) (ts := ts) (s35 _ _ hsp3) (hb3.nl (NL.of s35)) ok l12 ⟨by omega, by omega, by omega, by omega⟩ fun rw' B H6 R6 s6 nr6 => ⟨(by show 5 ≤ sizeLine; decide), fun q nq => ?_⟩
      have s7 := Same.upd (o := .lst [.ref a, .bl (decide (plA ts st ph ws = List.replicate ts.length (("closed", 0) : StD))), .ref c, .int (ph + st * (ws.length : Int)), .ref rw']) nq
      have s47 := s5.trans (s6.trans s7)
      refine k q _ (ShW.fr (none_of ((z3.trans s35).trans s6) nq) nwa (none_of (z3.trans s4) hc) ?_ (s47 _ _ ha) (hys.same s47) (s7 _ _ (s6 _ _ upd_same)) (R6.nl (NL.of s7))) (fun a' vs e => by rw [upd_same] at e; cases e; exact nwa) ((z3.trans s35).trans (s6.trans s7)) (none_of ((z3.trans s35).trans s6) nq)
      rw [Int.mul_comm (ws.length : Int) st]
      exact upd_same
theorem ok_wdue (T : LX K mg L) : Cal P w K mg base "_law_due" 7 L.f__law_due ["_law_parts", "_law_words_here"] (spWDue L.c_Row) := T.d__law_due.cal fun fd F => fn_wdue T F
end
/-! ### k56: == of Playings, also against other things -/
abbrev PDat := RDat × List Bool
inductive EqPl (CR C : Addr) (H : Hp) (d : PDat) : V → Bool → Prop where
  | pl {q : Addr} {bv : AvS} {us : List Tri} {st ph : Int} {vs : List Bool} (Y : PlV CR C bv H q us st ph vs) : EqPl CR C H d (.ref q) (decide (d = ((us, st, ph), vs)))
  | non : EqPl CR C H d .non false
  | int (i : Int) : EqPl CR C H d (.int i) false
  | str (x : Str) : EqPl CR C H d (.str x) false
  | lst {a : Addr} {xs : List V} (e : H a = some (.lst xs)) : EqPl CR C H d (.ref a) false
  | row {q U : Addr} {ys : List V} {us : List Tri} {st ph : Int} (R : RowAt CR H q U ys us st ph) : EqPl CR C H d (.ref q) false
def spPEqA (CR C : Addr) : Sp := fun vs H Q _ => ∃ p av ts st ph ws v b, vs = [.ref p, v] ∧ PlV CR C av H p ts st ph ws ∧ EqPl CR C H ((ts, st, ph), ws) v b ∧ Q (.bl b) H
theorem notF {K : PySem.W.Frag} {C C2 : Addr} (h : PySem.W.mroIn K C2 (.ref C) = some false) : PySem.W.notFirst K C (.ref C2) = true := Bool.or_eq_true_iff.mpr (.inr (beq_iff_eq.mpr h))
/-- == of an own object, also against an instance of another class -/
def rOwnEq2 (C C2 : Addr) (sp : Sp) (E : XK) : R2 := fun x y H Q => ∃ p dx fs, x = .ref p ∧ H p = some (.ins C dx fs) ∧ ((∃ t, TyN H C y t) ∨ ∃ q dy gs, y = .ref q ∧ H q = some (.ins C2 dy gs)) ∧ sp [.ref p, y] H (BlQ Q _root_.id) E
theorem Met.op_eq2 {X : Cx} {C C2 : Addr} {k : Nat} {f : Addr} {ps : List Str} {sp : Sp} (c : Met X.prog X.w X.K X.mg X.base C "__eq__" k f ps sp) (hr : Room k X.A) (nf : PySem.W.notFirst X.K C (.ref C2) = true) : OpR X (compareOp .Eq) (rOwnEq2 C C2 sp E0) := by
  obtain ⟨fd, F, b⟩ := c.ex
  rintro pins s σ H x y v u Q I rx ry ⟨p, dx, fs, rfl, hp, ty, q⟩
  rcases ty with ⟨t, ty⟩ | ⟨r, dy, gs, rfl, hq⟩
  · exact op_own_eq F hr c.me.at_ c.me.fn b pass0 pins s σ H _ y v u Q I rx ry ⟨p, dx, fs, t, rfl, hp, ty, q⟩
  · cases rx
    cases ry
    obtain ⟨od, J⟩ := inst_of I hp
    obtain ⟨od', J'⟩ := inst_of I hq
    obtain ⟨m, hF⟩ := I.fr
    show wpAny (model X.prog X.w) X.A (richCompare .Eq (.ref p) (.ref r)) (EP X pins σ Q) X.xe s
    refine PySem.W.cmp_K (op := .Eq) hr.units0 hF I.ok.mod.kin J J'.type nf c.me.at_ c.me.fn (thn (run_at F hr rfl b pass0 I (.cons rr (.cons rr .nil)) q) fun z s' hh => ?_)
    obtain ⟨z', H', I', rz, b', ez, q'⟩ := hh
    subst ez
    cases rz
    exact ⟨.bl b', H', I', rfl, q'⟩
theorem EqPl.ty {CR C : Addr} {H : Hp} {d : PDat} {v : V} {b : Bool} (h : EqPl CR C H d v b) : (∃ t, TyN H C v t) ∨ ∃ q dy gs, v = .ref q ∧ H q = some (.ins CR dy gs) := by
  cases h with
  | pl Y =>
    obtain ⟨dx, r, aw, ah, hp⟩ := Y.ob
    exact .inl ⟨_, .ins hp⟩
  | non => exact .inl ⟨_, .non⟩
  | int i => exact .inl ⟨_, .int i⟩
  | str x => exact .inl ⟨_, .str x⟩
  | lst e => exact .inl ⟨_, .lst e⟩
  | row R =>
    obtain ⟨dx, hq⟩ := R.ob
    exact .inr ⟨_, _, _, rfl, hq⟩
theorem eq_pl {CR C : Addr} {H : Hp} {p q : Addr} {av bv : AvS} {ts us : List Tri} {st ph st' ph' : Int} {ws vs : List Bool} {Q : VK} (Y : PlV CR C av H p ts st ph ws) (Y' : PlV CR C bv H q us st' ph' vs) (k : Q (.bl (decide ((((ts, st, ph), ws) : PDat) = ((us, st', ph'), vs)))) H) : rOwnEq C (spPEqA CR C) E0 _root_.id (.ref p) (.ref q) H Q := by
  obtain ⟨dx, r, aw, ah, hp⟩ := Y.ob
  obtain ⟨dy, r', aw', ah', hq⟩ := Y'.ob
  exact ⟨p, dx, _, _, rfl, hp, .ins hq, p, av, ts, st, ph, ws, _, _, rfl, Y, .pl Y', _, rfl, k⟩
theorem ne_pl {CR C : Addr} {H : Hp} {p q : Addr} {av bv : AvS} {ts us : List Tri} {st ph st' ph' : Int} {ws vs : List Bool} {Q : VK} (Y : PlV CR C av H p ts st ph ws) (Y' : PlV CR C bv H q us st' ph' vs) (k : Q (.bl (!decide ((((ts, st, ph), ws) : PDat) = ((us, st', ph'), vs)))) H) : rOwnEq C (spPEqA CR C) E0 Bool.not (.ref p) (.ref q) H Q := by
  obtain ⟨dx, r, aw, ah, hp⟩ := Y.ob
  obtain ⟨dy, r', aw', ah', hq⟩ := Y'.ob
  exact ⟨p, dx, _, _, rfl, hp, .ins hq, p, av, ts, st, ph, ws, _, _, rfl, Y, .pl Y', _, rfl, k⟩
theorem eq_pl2 {CR C : Addr} {H : Hp} {p : Addr} {av : AvS} {ts : List Tri} {st ph : Int} {ws : List Bool} {v : V} {b : Bool} {Q : VK} (Y : PlV CR C av H p ts st ph ws) (h : EqPl CR C H ((ts, st, ph), ws) v b) (k : Q (.bl b) H) : rOwnEq2 C CR (spPEqA CR C) E0 (.ref p) v H Q := by
  obtain ⟨dx, r, aw, ah, hp⟩ := Y.ob
  exact ⟨p, dx, _, rfl, hp, h.ty, p, av, ts, st, ph, ws, v, b, rfl, Y, h, b, rfl, k⟩
section
variable {P : Program} {w : World} {K : PySem.W.Frag} {mg : Str → Option Value} {base : Heap} {L : LA}
abbrev N_Playingeq : List Str := ["self", "other"]
theorem sc_Playingeq : FnScope N_Playingeq ["self", "other"] (defScope st_Playing_eq) := ⟨rfl, rfl, rfl, by decide +kernel, rfl, by decide +kernel, by decide +kernel⟩
theorem fn_Playingeq (T : LX K mg L) {fd : FuncData} (F : Fun K "__eq__" "Playing.__eq__" st_Playing_eq L.m_Playing_eq fd) : FnOk P w K mg base CX0 3 L.m_Playing_eq fd ["self", "other"] (spPEqA L.c_Row L.c_Playing) := by
  have G_Roweq := ok_Roweq (P := P) (w := w) (base := base) T
  have M_Playing := T.gc_Playing
  have nd := sc_Playingeq.nd
  refine F.ok sc_Playingeq (fun vs H Q E h => ?_) (fun cdv A outer S H vs Q E hr h => ?_)
  · obtain ⟨p, av, ts, st, ph, ws, v, b, rfl, _⟩ := h
    rfl
  · obtain ⟨p, av, ts, st, ph, ws, v, b, rfl, ⟨r, B, aw, ah, xs, ls, Y, n⟩, h, k⟩ := h
    refine ⟨_, (pss_one (ps_ret (pe_and (pe_callB call_isi (by rfl) T.b_isinstance (by decide +kernel) (pa_cons (pv 1) (pa_cons (pe_glob rfl M_Playing rr) pa_nil))) (pe_and (pe_cmpR (G_Roweq.op_eq (hr.mono (by decide))) (pe_fld (pv 0) rfl) (pe_fld (pv 1) rfl) (nomark _)) (pe_one (pe_cmpR (op_eqD hr.units) (pe_fld (pv 0) rfl) (pe_fld (pv 1) rfl) (nomark _))))))), ?_⟩
    obtain ⟨dx, hp⟩ := Y.ob
    cases h with
    | non => exact ⟨_, rfl, _, .ref L.c_Playing, _, _, _, rfl, .own L.c_Playing, Kd.non.ty, T.cf_Playing.kitT (H := H) .non, _, rfl, iteF k⟩
    | int i => exact ⟨_, rfl, _, .ref L.c_Playing, _, _, _, rfl, .own L.c_Playing, (Kd.int i).ty, T.cf_Playing.kitT (H := H) (.int i), _, rfl, iteF k⟩
    | str x => exact ⟨_, rfl, _, .ref L.c_Playing, _, _, _, rfl, .own L.c_Playing, (Kd.str x).ty, T.cf_Playing.kitT (H := H) (.str x), _, rfl, iteF k⟩
    | lst e => exact ⟨_, rfl, _, .ref L.c_Playing, _, _, _, rfl, .own L.c_Playing, (Kd.lst e).ty, T.cf_Playing.kitT (.lst e), _, rfl, iteF k⟩
    | row R =>
      obtain ⟨dy, hq⟩ := R.ob
      exact ⟨_, rfl, _, .ref L.c_Playing, _, _, _, rfl, .own L.c_Playing, T.cf_Row.tyR hq, (T.cf_Playing.kitC T.mo_Row_Playing).1, _, rfl, iteF k⟩
    | @pl q bv us st' ph' vs Y' =>
      obtain ⟨r2, B2, aw2, ah2, xs2, ls2, Y2, n2⟩ := Y'
      obtain ⟨dx2, hq⟩ := Y2.ob
      refine ⟨_, rfl, _, .ref L.c_Playing, _, _, _, rfl, .own L.c_Playing, T.cf_Playing.tyR hq, if_pos (beq_self_eq_true _), _, rfl, iteT ?_⟩
      refine ⟨_, rfl, p, L.c_Playing, dx, _, _, rfl, hp, T.cf_Playing.cl, T.nf_Playing_row, plF_r _ _ _, _, rfl, q, L.c_Playing, dx2, _, _, rfl, hq, T.cf_Playing.cl, T.nf_Playing_row, plF_r _ _ _, eq_row Y.row (.row Y2.row) ⟨_, rfl, ?_⟩⟩
      have fin : ∀ c : Bool, decide ((((ts, st, ph), ws) : PDat) = ((us, st', ph'), vs)) = c → Q (.bl c) H := fun c e => by rw [← e]; exact k
      refine ite2 (fun c1 => ?_) (fun c1 => ?_)
      · have c1' : (ts, st, ph) = (us, st', ph') := of_decide_eq_true c1
        refine ⟨_, rfl, p, L.c_Playing, dx, _, _, rfl, hp, T.cf_Playing.cl, T.nf_Playing_words, plF_w _ _ _, _, rfl, q, L.c_Playing, dx2, _, _, rfl, hq, T.cf_Playing.cl, T.nf_Playing_words, plF_w _ _ _, _, _, Dp.ws Y.hw, Dp.ws Y2.hw, ws_sh _, ws_sh _, ?_⟩
        rw [ws_eq]
        refine fin _ ?_
        rw [c1', Bool.eq_iff_iff]
        simp
      · refine fin false (decide_eq_false fun e => c1 (decide_eq_true ?_))
        exact congrArg (fun z : PDat => z.1) e
theorem ok_Playingeq (T : LX K mg L) : Met P w K mg base L.c_Playing "__eq__" 3 L.m_Playing_eq ["self", "other"] (spPEqA L.c_Row L.c_Playing) := T.mm_Playing_eq.met fun fd F => fn_Playingeq T F
end
/-! ### k56: how long it takes -/
def lngT : List Tri → Int
  | [] => 0
  | b :: r => (b.2.1 + b.2.2) + lngT r
theorem lngT_sum : ∀ ts : List Tri, (ts.map fun b => b.2.1 + b.2.2).sum = lngT ts
  | [] => rfl
  | b :: r => by rw [List.map_cons, List.sum_cons, lngT_sum r]; rfl
def spWLong (C : Addr) : Sp := fun vs H Q _ => ∃ p B xs ts st ph, vs = [.ref p] ∧ RowAt C H p B xs ts st ph ∧ ∀ H', Same H H' → Q (.int (lngT ts + 1)) H'
section
variable {P : Program} {w : World} {K : PySem.W.Frag} {mg : Str → Option Value} {base : Heap} {L : LA}
abbrev N_wlong : List Str := ["_law_row", "_law_failures", "_law_wait", "_law_successes"]
theorem sc_wlong : FnScope N_wlong ["_law_row"] (defScope st__law_long) := ⟨rfl, rfl, rfl, by decide +kernel, rfl, by decide +kernel, by decide +kernel⟩
theorem fn_wlong (T : LX K mg L) {fd : FuncData} (F : Fun K "_law_long" "_law_long" st__law_long L.f__law_long fd) : FnOk P w K mg base CX0 3 L.f__law_long fd ["_law_row"] (spWLong L.c_Row) := by
  have G_Rowbreakerlist := ok_Rowbreakerlist (P := P) (w := w) (base := base) T
  have nd := sc_wlong.nd
  refine F.ok sc_wlong (fun vs H Q E h => ?_) (fun cdv A outer S H vs Q E hr h => ?_)
  · obtain ⟨p, B, xs, ts, st, ph, rfl, _⟩ := h
    rfl
  · obtain ⟨p, B, xs, ts, st, ph, rfl, R, k⟩ := h
    refine ⟨_, (pss_one (ps_ret (pe_op op_add (pe_callB (cr_sum rfl) (by rfl) T.b_sum (by decide +kernel) (pa_cons (pe_lc (own := [("_law_failures", 1), ("_law_wait", 2), ("_law_successes", 3)]) (g := gTup K 3 (gCons (gName 1) (gCons (gName 2) (gCons (gName 3) (gNil))))) (tt := tYes) rfl nd (pi_list (G_Rowbreakerlist.p_m0 T.cf_Row.cl (hr.mono (by decide)) (pv 0))) (blkOk_by (own := [("_law_failures", 1), ("_law_wait", 2), ("_law_successes", 3)]) (N := N_wlong) (sc := defScope st__law_long) (by decide +kernel)) (fun _ _ _ _ _ => pg_tup rfl (pgs_cons (pg_name (i := 1) nd rfl (Or.inl rfl)) (pgs_cons (pg_name (i := 2) nd rfl (Or.inl rfl)) (pgs_cons (pg_name (i := 3) nd rfl (Or.inl rfl)) pgs_nil)))) (fun _ _ _ _ _ => pts_nil) (fun _ _ _ _ _ => (pe_op op_add (pv 2) (pv 3)))) pa_nil)) pe_int))), ?_⟩
    obtain ⟨dx, hp⟩ := R.ob
    have hb := R.br
    have xl := hb.len
    refine ⟨_, rfl, p, dx, _, rfl, hp, rowF_no _ _ _ (by decide +kernel) (by decide +kernel) (by decide +kernel), p, B, xs, ts, st, ph, rfl, R, fun l H1 hl e1 => ?_⟩
    have s1 : Same H H1 := by rw [e1]; exact Same.upd hl
    have hl1 : H1 l = some (.lst xs) := by rw [e1]; exact upd_same
    have hb1 := hb.nl (NL.of s1)
    refine ⟨l, rfl, ⟨_, SqL.of hl1⟩, fun D hD => ?_⟩
    refine lc_list (K := K) (a := l) (xs := xs) (fun j Hx => Hx D = some (.lst (((ts.take j).map fun b => b.2.1 + b.2.2).map V.int)) ∧ Same H1 Hx) ⟨upd_same, Same.upd hD⟩ (fun j Hx _ ⟨_, s⟩ => SqL.of (s _ _ hl1)) ?_ ?_
    · rintro j x Hx hxj ⟨hDx, sx⟩
      obtain ⟨b, eb, ab, rfl, hbx⟩ := hb1.get hxj
      have hj := (List.getElem?_eq_some_iff.mp eb).1
      refine ⟨ab, _, rfl, SqT.of (sx _ _ hbx), rfl, _, _, rfl, _, _, rfl, _, _, rfl, rfl, rfl, tYes_of ?_⟩
      refine ⟨_, rfl, _, rfl, _, _, rfl, rfl, _, hDx, small1 (by rw [List.length_map, List.length_map, List.length_take]; have := R.ln; omega), ?_, fun u o z => by rw [upd_ne (ne_of_none z hD)]; exact sx _ _ z⟩
      rw [upd_same, List.take_add_one, eb, List.map_append, List.map_append]
      rfl
    · rintro H2 ⟨hD2, s2⟩
      rw [xl, List.take_length] at hD2
      refine ⟨D, _, rfl, SqL.of hD2, _, _, rfl, rfl, ?_⟩
      rw [lngT_sum]
      exact k _ (s1.trans s2)
theorem ok_wlong (T : LX K mg L) : Cal P w K mg base "_law_long" 3 L.f__law_long ["_law_row"] (spWLong L.c_Row) := T.d__law_long.cal fun fd F => fn_wlong T F
end
/-! ### several Playings: what they leave as it is -/
abbrev OutP (n : Nat) (p : Nat → Addr) (ow : Nat → AvS) (b : Addr) : Prop := Fam.out n ow b ∧ ∀ i, i < n → b ≠ p i
def Stp (n : Nat) (p : Nat → Addr) (H : Hp) (ow : Nat → AvS) (n' : Nat) (p' : Nat → Addr) (H' : Hp) (ow' : Nat → AvS) : Prop := ∀ b o, H b = some o → OutP n p ow b → H' b = some o ∧ OutP n' p' ow' b
theorem Stp.trans {n n' n2 : Nat} {p p' p2 : Nat → Addr} {H H' H2 : Hp} {ow ow' ow2 : Nat → AvS} (a : Stp n p H ow n' p' H' ow') (b : Stp n' p' H' ow' n2 p2 H2 ow2) : Stp n p H ow n2 p2 H2 ow2 := fun c o e q => by
  obtain ⟨e', q'⟩ := a c o e q
  exact b c o e' q'
theorem Stp.same {n : Nat} {p : Nat → Addr} {H H' : Hp} {ow : Nat → AvS} (s : Same H H') : Stp n p H ow n p H' ow := fun b o e q => ⟨s b o e, q⟩
theorem Stp.all {p p' : Nat → Addr} {H H' : Hp} {ow ow' : Nat → AvS} {n' : Nat} (a : Stp 0 p H ow n' p' H' ow') : Same H H' := fun b o e => (a b o e ⟨fun i hi => absurd hi (Nat.not_lt_zero _), fun i hi => absurd hi (Nat.not_lt_zero _)⟩).1
section
variable {CR C : Addr} {H H' : Hp} {n : Nat} {p : Nat → Addr} {ts : List Tri} {st : Int} {ph : Nat → Int} {ws : Nat → List Bool} {ow : Nat → AvS}
theorem Fam.freshP (F : Fam CR C H n p ts st ph ws ow) {b : Addr} (h : H b = none) : OutP n p ow b := ⟨F.fresh h, fun i hi e => by
  obtain ⟨dx, r, aw, ah, z⟩ := (F.pl i hi).ob
  rw [← e, h] at z
  cases z⟩
theorem Fam.req1 (F : Fam CR C H n p ts st ph ws ow) {i : Nat} (hi : i < n) {us : List Bool} (Y : PlV CR C (oth H (ow i)) H' (p i) ts st (ph i) us) (k : KeV (oth H (ow i)) H H') :
    ∃ ow' : Nat → AvS, Fam CR C H' n p ts st ph (putF' ws i us) ow' ∧ Stp n p H ow n p H' ow' := by
  obtain ⟨ow', F', q⟩ := F.req hi Y k
  exact ⟨ow', F', fun b o e x => ⟨k b o e (.inl ⟨x.1 i hi, by rw [e]; exact fun z => nomatch z⟩), q b (by rw [e]; exact fun z => nomatch z) x.1, x.2⟩⟩
theorem Fam.undo1 (F : Fam CR C H n p ts st ph ws ow) {i : Nat} (hi : i < n) {us : List Bool} (Y : PlV CR C (oth H (ow i)) H' (p i) ts st (ph i) us) (k : Kp (p i) H H') :
    ∃ ow' : Nat → AvS, Fam CR C H' n p ts st ph (putF' ws i us) ow' ∧ Stp n p H ow n p H' ow' := by
  obtain ⟨ow', F', q⟩ := F.undo hi Y k
  exact ⟨ow', F', fun b o e x => ⟨k b o (x.2 i hi) e, q b (by rw [e]; exact fun z => nomatch z) x.1, x.2⟩⟩
theorem Fam.add1 (F : Fam CR C H n p ts st ph ws ow) (s : Same H H') {q : Addr} {ph' : Int} {us : List Bool} (Y : PlV CR C (AvS.dom H) H' q ts st ph' us) (nq : H q = none) :
    ∃ ow' : Nat → AvS, Fam CR C H' (n + 1) (putF' p n q) ts st (putF' ph n ph') (putF' ws n us) ow' ∧ Stp n p H ow (n + 1) (putF' p n q) H' ow' := by
  obtain ⟨ow', F', k⟩ := F.add (F.same s) Y nq
  refine ⟨ow', F', fun b o e x => ⟨s b o e, k b (by rw [e]; exact fun z => nomatch z) x.1, fun i hi => ?_⟩⟩
  by_cases c : i = n
  · subst c
    rw [putF'_same]
    intro z
    rw [z, nq] at e
    cases e
  · rw [putF'_ne c]
    exact x.2 i (by omega)
end
theorem keV_dom {H H' : Hp} {l : Addr} (k : KeV (AvS.add l (AvS.dom H)) H H') : Same H H' := fun b o e => k b o e (.inl (AvS.tl (AvS.of e)))
theorem putF'_const {α : Type} (a : α) (i : Nat) : putF' (fun _ => a) i a = fun _ => a := funext fun j => by
  unfold putF'
  split <;> rfl
section
variable {CR C : Addr} {H H' : Hp} {n : Nat} {p : Nat → Addr} {ts : List Tri} {st ph : Int} {ws : Nat → List Bool} {ow : Nat → AvS}
/-- all n Playings of one row, with its phase -/
abbrev Fm1 (CR C : Addr) (H : Hp) (n : Nat) (p : Nat → Addr) (ts : List Tri) (st ph : Int) (ws : Nat → List Bool) (ow : Nat → AvS) : Prop := Fam CR C H n p ts st (fun _ => ph) ws ow
theorem Fam.req2 (F : Fm1 CR C H n p ts st ph ws ow) {i : Nat} (hi : i < n) {us : List Bool} (Y : PlV CR C (oth H (ow i)) H' (p i) ts st ph us) (k : KeV (oth H (ow i)) H H') :
    ∃ ws' ow', Fm1 CR C H' n p ts st ph ws' ow' ∧ ws' i = us ∧ (∀ j, j ≠ i → ws' j = ws j) ∧ Stp n p H ow n p H' ow' := by
  obtain ⟨ow', F', q⟩ := Fam.req1 F hi Y k
  exact ⟨_, ow', F', putF'_same, fun j hj => putF'_ne hj, q⟩
theorem Fam.undo2 (F : Fm1 CR C H n p ts st ph ws ow) {i : Nat} (hi : i < n) {us : List Bool} (Y : PlV CR C (oth H (ow i)) H' (p i) ts st ph us) (k : Kp (p i) H H') :
    ∃ ws' ow', Fm1 CR C H' n p ts st ph ws' ow' ∧ ws' i = us ∧ (∀ j, j ≠ i → ws' j = ws j) ∧ Stp n p H ow n p H' ow' := by
  obtain ⟨ow', F', q⟩ := Fam.undo1 F hi Y k
  exact ⟨_, ow', F', putF'_same, fun j hj => putF'_ne hj, q⟩
theorem Fam.add2 (F : Fm1 CR C H n p ts st ph ws ow) (s : Same H H') {q : Addr} {us : List Bool} (Y : PlV CR C (AvS.dom H) H' q ts st ph us) (nq : H q = none) :
    ∃ p' ws' ow', Fm1 CR C H' (n + 1) p' ts st ph ws' ow' ∧ p' n = q ∧ ws' n = us ∧ (∀ j, j < n → p' j = p j ∧ ws' j = ws j) ∧ Stp n p H ow (n + 1) p' H' ow' := by
  obtain ⟨ow', F', k⟩ := Fam.add1 F s Y nq
  rw [putF'_const] at F'
  exact ⟨_, _, ow', F', putF'_same, putF'_same, fun j hj => ⟨putF'_ne (by omega), putF'_ne (by omega)⟩, k⟩
end
section
variable {CR C : Addr} {H H' : Hp} {n : Nat} {p : Nat → Addr} {ts : List Tri} {st : Int} {ph : Nat → Int} {ws : Nat → List Bool} {ow : Nat → AvS}
theorem Fam.add3 (F : Fam CR C H n p ts st ph ws ow) (s : Same H H') {q : Addr} {h : Int} {us : List Bool} (Y : PlV CR C (AvS.dom H) H' q ts st h us) (nq : H q = none) :
    ∃ p' ph' ws' ow', Fam CR C H' (n + 1) p' ts st ph' ws' ow' ∧ p' n = q ∧ ph' n = h ∧ ws' n = us ∧ (∀ j, j < n → p' j = p j ∧ ph' j = ph j ∧ ws' j = ws j) ∧ Stp n p H ow (n + 1) p' H' ow' := by
  obtain ⟨ow', F', k⟩ := Fam.add1 F s Y nq
  exact ⟨_, _, _, ow', F', putF'_same, putF'_same, putF'_same, fun j hj => ⟨putF'_ne (by omega), putF'_ne (by omega), putF'_ne (by omega)⟩, k⟩
theorem Fam.req3 (F : Fam CR C H n p ts st ph ws ow) {i : Nat} (hi : i < n) {us : List Bool} (Y : PlV CR C (oth H (ow i)) H' (p i) ts st (ph i) us) (k : KeV (oth H (ow i)) H H') :
    ∃ ws' ow', Fam CR C H' n p ts st ph ws' ow' ∧ ws' i = us ∧ (∀ j, j ≠ i → ws' j = ws j) ∧ Stp n p H ow n p H' ow' := by
  obtain ⟨ow', F', q⟩ := Fam.req1 F hi Y k
  exact ⟨_, ow', F', putF'_same, fun j hj => putF'_ne hj, q⟩
end
/-! ### k56: logs that differ -/
def spWLogs (CR C : Addr) : Sp := fun vs H Q _ => ∃ s pa sp xs ts st ph n, vs = [.ref s, .ref pa] ∧ Src H s n ∧ n ≤ 400000 ∧ H pa = some (.tup [.ref sp, .int st, .int ph]) ∧ H sp = some (.lst xs) ∧ s ≠ sp ∧ Brs H xs ts ∧ (∀ t ∈ ts, OkT t) ∧ ts.length ≤ 12 ∧ 1 ≤ st ∧ st ≤ 1000 ∧ 0 ≤ ph ∧ ph ≤ 1000000000000000000000000000000 ∧
  ∀ H', Src H' s (n + 20000) → Kp s H H' → Q (.bl true) H'
section
variable {P : Program} {w : World} {K : PySem.W.Frag} {mg : Str → Option Value} {base : Heap} {L : LA}
abbrev N_wlogsright : List Str := ["_law_source", "_law_parts", "_law_row", "_law_words_here", "_law_others", "_law_at", "_law_place", "_law_tail", "_law_game", "_law_other", "_law_word", "_law_turn"]
theorem sc_wlogsright : FnScope N_wlogsright ["_law_source", "_law_parts"] (defScope st__law_logs_right) := ⟨rfl, rfl, rfl, by decide +kernel, rfl, by decide +kernel, by decide +kernel⟩
theorem fn_wlogsright (T : LX K mg L) {fd : FuncData} (F : Fun K "_law_logs_right" "_law_logs_right" st__law_logs_right L.f__law_logs_right fd) : FnOk P w K mg base CX0 10 L.f__law_logs_right fd ["_law_source", "_law_parts"] (spWLogs L.c_Row L.c_Playing) := by
  have G_Playingundo := ok_Playingundo (P := P) (w := w) (base := base) T
  have G_Playingrequest := ok_Playingrequest (P := P) (w := w) (base := base) T
  have G_Playingeq := ok_Playingeq (P := P) (w := w) (base := base) T
  have G_wchoice := ok_wchoice (P := P) (w := w) (base := base) T
  have G_wdraw := ok_wdraw (P := P) (w := w) (base := base) T
  have G_replay := ok_replay (P := P) (w := w) (base := base) T
  have G_wshown := ok_wshown (P := P) (w := w) (base := base) T
  have G_wdue := ok_wdue (P := P) (w := w) (base := base) T
  have nd := sc_wlogsright.nd
  refine F.ok sc_wlogsright (fun vs H Q E h => ?_) (fun cdv A outer S H vs Q E hr h => ?_)
  · obtain ⟨s, pa, sp, xs, ts, st, ph, n, rfl, _⟩ := h
    rfl
  · obtain ⟨s, pa, sp, xs, ts, st, ph, n, rfl, src, hn, hpa, hsp, nsp, hb, ok, l12, s0, s1, p0, p1, k⟩ := h
    refine ⟨_, (pss_cons (ps_set (i := 2) nd rfl (Or.inl rfl) (pe_mkRow_p_phase T (hr.mono (by decide)) rfl (pa_cons (pe_ix (r := rIxT K) ix_tup (pv 1) pe_int (fun _ _ => rfl)) (pa_cons (pe_ix (r := rIxT K) ix_tup (pv 1) pe_int (fun _ _ => rfl)) pa_nil)) (pk_cons (pe_ix (r := rIxT K) ix_tup (pv 1) pe_int (fun _ _ => rfl)) pk_nil)))
       (pss_cons (ps_setLc (i := 3) (own := [("_law_turn", 11)]) (g := gName 11) (tt := tYes) rfl nd rfl rfl (sw_true rfl rfl rfl (by decide +kernel)) (pi_range1 rfl T.b_range (pa_cons (pe_op op_add pe_int (pe_c G_wdraw (hr.mono (by decide)) rfl (pa_cons (pv 0) (pa_cons pe_int pa_nil)))) pa_nil)) (blkOk_by (own := [("_law_turn", 11)]) (N := N_wlogsright) (sc := defScope st__law_logs_right) (by decide +kernel)) (fun _ _ _ _ _ => pg_name (i := 11) nd rfl (Or.inl rfl)) (fun _ _ _ _ _ => pts_nil) (fun _ _ _ _ _ => (pe_c G_wchoice (hr.mono (by decide)) rfl (pa_cons (pv 0) (pa_cons (pe_lst (pa_cons pe_str (pa_cons pe_str pa_nil))) pa_nil)))))
       (pss_cons (ps_par (i := 4) (j := 5) (by rfl) nd rfl rfl (by decide) rfl rfl (pa_cons (pe_callTy call_list_of (by rfl) T.b_list (by decide +kernel) (pa_cons (pv 3) pa_nil)) (pa_cons (pe_c G_wdraw (hr.mono (by decide)) rfl (pa_cons (pv 0) (pa_cons (pe_callB call_len_seq (by rfl) T.b_len PySem.boot_len (pa_cons (pv 3) pa_nil)) pa_nil))) pa_nil)) (by rfl))
       (pss_cons (ps_for PassesOwn.never rfl (pi_list (pe_lst (pa_cons (pv 5) (pa_cons (pe_op op_add (pv 5) (pe_c G_wdraw (hr.mono (by decide)) rfl (pa_cons (pv 0) (pa_cons (pe_op op_sub (pe_callB call_len_seq (by rfl) T.b_len PySem.boot_len (pa_cons (pv 3) pa_nil)) (pv 5)) pa_nil)))) pa_nil)))) (pg_name (i := 6) nd rfl (Or.inl rfl)) (pss_one (ps_asg (pe_dgX (pe_disp (pps_cons pe_str pe_str (pps_cons pe_str pe_str pps_nil)) rfl rfl (fun q => nomatch q) (by decide)) (pe_ix (r := rIxL K) ix_list (pv 3) (pv 6) (fun _ _ => rfl)) (fun _ _ => rfl) hr.units) (pg_sub (pv 4) (pv 6) set_list))))
       (pss_cons (ps_set (i := 7) nd rfl (Or.inl rfl) (pe_op op_rep (pe_lst (pa_cons pe_str pa_nil)) (pe_c G_wdraw (hr.mono (by decide)) rfl (pa_cons (pv 0) (pa_cons pe_int pa_nil)))))
       (pss_cons (ps_par (i := 8) (j := 9) (by rfl) nd rfl rfl (by decide) rfl rfl (pa_cons (pe_c G_replay (hr.mono (by decide)) rfl (pa_cons (pv 2) (pa_cons (pe_op op_cat (pv 3) (pv 7)) pa_nil))) (pa_cons (pe_mkPlaying T (hr.mono (by decide)) rfl (pa_cons (pe_mkRow_p_phase T (hr.mono (by decide)) rfl (pa_cons (pe_ix (r := rIxT K) ix_tup (pv 1) pe_int (fun _ _ => rfl)) (pa_cons (pe_ix (r := rIxT K) ix_tup (pv 1) pe_int (fun _ _ => rfl)) pa_nil)) (pk_cons (pe_ix (r := rIxT K) ix_tup (pv 1) pe_int (fun _ _ => rfl)) pk_nil)) pa_nil)) pa_nil)) (by rfl))
       (pss_cons (ps_for PassesOwn.never rfl (pi_list (pe_op op_cat (pv 4) (pv 7))) (pg_name (i := 10) nd rfl (Or.inl rfl)) (pss_one (ps_expr (G_Playingrequest.p_m1 T.cf_Playing.cl (hr.mono (by decide)) (pv 9) (pa_cons (pv 10) pa_nil)))))
       (pss_cons (ps_if (PW.pt (pw_or (pt_cmpR (G_Playingeq.op_eq (hr.mono (by decide))) (pv 8) (pv 9) (nomark _)) (pw_or1 (pt_cmpR (G_Playingeq.op_eq (hr.mono (by decide))) (pv 9) (pv 8) (nomark _))))) (pss_one (ps_ret pe_bl)) pss_nil)
       (pss_cons (ps_expr (G_Playingundo.p_m1 T.cf_Playing.cl (hr.mono (by decide)) (pv 9) (pa_cons (pe_op op_sub (pe_callB call_len_seq (by rfl) T.b_len PySem.boot_len (pa_cons (pe_op op_cat (pv 4) (pv 7)) pa_nil)) (pv 5)) pa_nil)))
       (pss_cons (ps_for PassesOwn.never rfl (pi_list (pe_op op_cat (pe_slice (r := rSlL K) sl_list (pv 3) (po_some (pv 5)) po_none) (pv 7))) (pg_name (i := 10) nd rfl (Or.inl rfl)) (pss_one (ps_expr (G_Playingrequest.p_m1 T.cf_Playing.cl (hr.mono (by decide)) (pv 9) (pa_cons (pv 10) pa_nil)))))
       (pss_one (ps_ret (pe_and (pe_cmpR (G_Playingeq.op_eq (hr.mono (by decide))) (pv 8) (pv 9) (nomark _)) (pe_and (pe_cmpR (G_Playingeq.op_eq (hr.mono (by decide))) (pv 9) (pv 8) (nomark _)) (pe_one (pe_cmpR (op_eqSh T (hr.mono (by decide))) (pe_c G_wshown (hr.mono (by decide)) rfl (pa_cons (pv 9) pa_nil)) (pe_c G_wdue (hr.mono (by decide)) rfl (pa_cons (pv 1) (pa_cons (pe_op op_cat (pv 3) (pv 7)) pa_nil))) (nomark _))))))))))))))))), ?_⟩
    obtain ⟨ys0, hys0⟩ := src.has
    refine ⟨_, rfl, pa, _, 0, .ref sp, rfl, rfl, SqT.of hpa, rfl, _, rfl, pa, _, 1, .int st, rfl, rfl, SqT.of hpa, rfl, _, rfl, pa, _, 2, .int ph, rfl, rfl, SqT.of hpa, rfl, rfl, rfl, ?_⟩
    refine row_made (xs := xs) (ts := ts) hsp hb ok l12 ⟨by omega, by omega, by omega, by omega⟩ fun r B H1 R1 z1 nr1 => ?_
    have nsf : ∀ {l : Addr} {Hx : Hp} {m : Nat}, Src Hx s m → Hx l = none → s ≠ l := fun S e => by
      obtain ⟨y, hy⟩ := S.has
      exact ne_of_none hy e
    -- the words, the places, the tail
    refine ⟨_, rfl, s, 6, n, rfl, by decide, by decide +kernel, src.same z1, by omega, fun q H2 q0 q1 src2 k2 => ⟨_, _, rfl, rfl, ?_⟩⟩
    obtain ⟨N, hN⟩ : ∃ N : Nat, (N : Int) = 1 + q := ⟨(1 + q).toNat, by omega⟩
    dsimp only
    refine ⟨_, rfl, by omega, by omega, fun D hD => ?_⟩
    rw [show (1 + q).toNat = N by omega]
    have nsD := nsf src2 hD
    have sD := Same.upd (o := .lst []) hD
    refine lc_range (lo := 0) (n := N) (fun j Hx => ∃ wd : List Bool, Hx D = some (.lst (wd.map wV)) ∧ wd.length = j ∧ (∀ b o, b ≠ s → H2 b = some o → Hx b = some o) ∧ Src Hx s (n + 1101 + 1101 * j)) ⟨[], upd_same, rfl, fun b o _ e => sD b o e, src2.same sD⟩ ?_ ?_
    · rintro j Hx hj ⟨wd, hDx, wl, kx, srcx⟩
      refine ⟨rfl, tYes_of ⟨_, rfl, (by show 2 ≤ sizeLine; decide), fun lo nlo => ?_⟩⟩
      have so := Same.upd (o := .lst [.str "up", .str "down"]) nlo
      refine ⟨s, lo, _, _, rfl, nsf srcx nlo, upd_same, Nat.succ_pos _, (by show 2 ≤ 100000; decide), srcx.same so, by omega, fun v H3 hv src3 k3 => ?_⟩
      obtain ⟨up, rfl⟩ : ∃ up, v = wV up := by
        simp only [List.mem_cons, List.mem_nil_iff, or_false] at hv
        rcases hv with rfl | rfl
        · exact ⟨true, rfl⟩
        · exact ⟨false, rfl⟩
      have hD3 := k3 _ _ nsD.symm (so _ _ hDx)
      refine ⟨_, hD3, small1 (by rw [List.length_map]; omega), wd ++ [up], by rw [upd_same, List.map_append]; rfl, by rw [List.length_append, wl]; rfl, fun b o bs e => ?_, ?_⟩
      · rw [upd_ne (ne_of_none e hD)]
        exact k3 _ _ bs (so _ _ (kx _ _ bs e))
      · exact src_kp Kp.upd nsD (src3.mono (by omega))
    rintro H3 ⟨wd, hw, wl, k3, src3⟩
    have kA : Kp s H H3 := fun b o bs e => k3 _ _ bs (k2 _ _ bs (z1 _ _ e))
    have hN1 : 1 ≤ N ∧ N ≤ 6 := by omega
    have src3 := src3.mono (m := n + 7707) (by omega)
    have RA : RowAt L.c_Row H3 r B xs ts st ph := by
      have nl : NL H1 H3 := fun b o e q => k3 _ _ (fun z => by obtain ⟨y, hy⟩ := (src.same z1).has; rw [z, hy] at e; cases e; exact q _ rfl) (k2 _ _ (fun z => by obtain ⟨y, hy⟩ := (src.same z1).has; rw [z, hy] at e; cases e; exact q _ rfl) e)
      exact R1.nl nl
    -- another list, and a place
    refine ⟨_, rfl, D, _, rfl, .inl (SqL.of hw), fun lo nlo => ?_⟩
    have so := Same.upd (o := .lst (wd.map wV)) nlo
    have nso := nsf src3 nlo
    refine ⟨_, rfl, _, rfl, D, _, rfl, .inl (SqL.of (so _ _ hw)), s, ((wd.map wV).length : Nat), _, rfl, by rw [List.length_map]; omega, Nat.lt_of_le_of_lt (show (((wd.map wV).length : Nat) : Int).natAbs ≤ 6 by rw [List.length_map]; omega) (by decide +kernel), src3.same so, by omega, fun a' H4 a0 a1 src4 k4 => ?_⟩
    rw [List.length_map] at a1
    obtain ⟨a, rfl⟩ : ∃ a : Nat, a' = (a : Int) := ⟨a'.toNat, by omega⟩
    have hw4 := k4 _ _ nsD.symm (so _ _ hw)
    have ho4 := k4 _ _ nso.symm (upd_same (H := H3) (a := lo) (o := .lst (wd.map wV)))
    refine ⟨_, _, rfl, _, rfl, _, rfl, _, rfl, _, rfl, D, _, rfl, .inl (SqL.of hw4), _, rfl, _, _, rfl, rfl, s, ((wd.map wV).length : Nat) - (a : Nat), _, rfl, by rw [List.length_map]; omega, Nat.lt_of_le_of_lt (show (((wd.map wV).length : Nat) - (a : Nat) : Int).natAbs ≤ 6 by rw [List.length_map]; omega) (by decide +kernel), src4, by omega, fun c' H5 c0 c1 src5 k5 => ?_⟩
    rw [List.length_map] at c1
    obtain ⟨b, hbn⟩ : ∃ b : Nat, (a : Int) + c' = (b : Int) := ⟨((a : Int) + c').toNat, by omega⟩
    have hw5 := k5 _ _ nsD.symm hw4
    have ho5 := k5 _ _ nso.symm ho4
    refine ⟨_, _, rfl, rfl, (by show 2 ≤ sizeLine; decide), fun lp nlp => ?_⟩
    have sp5 := Same.upd (o := .lst [.int (a : Nat), .int ((a : Nat) + c')]) nlp
    have nDo : D ≠ lo := ne_of_none hw nlo
    have nlpD : lp ≠ D := (ne_of_none hw5 nlp).symm
    have nlpo : lp ≠ lo := (ne_of_none ho5 nlp).symm
    have flip : ∀ (up : Bool) (H : Hp) (p : Addr), H p = some (.dK (mergeK [] [((.inr "up" : Key), V.str "down"), ((.inr "down" : Key), V.str "up")])) → DGet H p (wV up) (some (wV (!up))) := fun up H p h => .inl ⟨_, .inr (if up = true then "up" else "down"), .of h, by cases up <;> rfl, by cases up <;> decide +kernel⟩
    refine ⟨lp, rfl, ⟨_, SqL.of upd_same⟩, ?_⟩
    refine for_list (K := K) (a := lp) (xs := [.int (a : Nat), .int ((a : Nat) + c')]) (fun i σ Hx => ∃ o : List Bool, ∃ v6 : Option V, σ = [some (.ref s), some (.ref pa), some (.ref r), some (.ref D), some (.ref lo), some (.int (a : Nat)), v6, none, none, none, none, none] ∧ Hx lo = some (.lst (o.map wV)) ∧ o.length = wd.length ∧ o.take a = wd.take a ∧ (1 ≤ i → o[a]? = (wd[a]?).map (!·)) ∧ (∀ c u, c ≠ lo → (upd H5 lp (.lst [.int (a : Nat), .int ((a : Nat) + c')])) c = some u → Hx c = some u))
      ⟨wd, none, rfl, sp5 _ _ ho5, rfl, rfl, fun h => absurd h (by decide), fun c u _ e => e⟩ (fun i σ Hx _ ⟨_, _, _, _, _, _, _, kx⟩ => SqL.of (kx _ _ nlpo upd_same)) ?_ ?_
    · rintro i v σ Hx hv ⟨o, v6, rfl, hox, ol, ot, oa, kx⟩
      obtain ⟨c, hc, rfl, ca⟩ : ∃ c : Nat, a ≤ c ∧ v = .int (c : Nat) ∧ (c < wd.length ∧ (i = 0 → c = a)) := by
        match i, hv with
        | 0, hv => exact ⟨a, Nat.le_refl _, (Option.some.inj hv).symm, by omega, fun _ => rfl⟩
        | 1, hv => exact ⟨b, by omega, (Option.some.inj hv).symm.trans (congrArg V.int hbn), by omega, fun h => absurd h (by decide)⟩
      obtain ⟨up, hup⟩ : ∃ up, wd[c]? = some up := ⟨_, List.getElem?_eq_getElem ca.1⟩
      intro dp ndp
      have sdp : Same Hx (upd (upd Hx dp (.dK [])) dp (.dK (mergeK [] [((.inr "up" : Key), V.str "down"), ((.inr "down" : Key), V.str "up")]))) := fun u w e => by
        rw [upd_ne (ne_of_none e ndp), upd_ne (ne_of_none e ndp)]
        exact e
      have hw6 := kx _ _ nDo (sp5 _ _ hw5)
      have hox' := sdp _ _ hox
      refine ⟨upd_same, [((.inr "up" : Key), V.str "down"), ((.inr "down" : Key), V.str "up")], rfl, (by show 2 ≤ 15; decide), _, rfl, _, rfl, D, _, (c : Nat), wV up, rfl, rfl, SqL.of (sdp _ _ hw6), atI_nat (by rw [List.getElem?_map, hup]; rfl), dp, wV (!up), rfl, flip up _ _ upd_same, ?_⟩
      refine ⟨_, rfl, _, rfl, lo, _, _, c, rfl, rfl, hox', ixN_of (by rw [List.length_map, ol]; exact ca.1), ?_⟩
      refine ⟨o.set c (!up), _, rfl, by rw [upd_same, List.map_set], by rw [List.length_set, ol], by rw [List.take_set_of_le hc]; exact ot, fun _ => ?_, fun u w nu e => by rw [upd_ne nu]; exact sdp _ _ (kx _ _ nu e)⟩
      by_cases e : c = a
      · subst e
        rw [List.getElem?_set_self (by rw [ol]; exact ca.1), hup]
        rfl
      · rw [List.getElem?_set_ne (fun z => e z)]
        exact oa (Nat.one_le_iff_ne_zero.mpr fun z => e (ca.2 z))
    rintro σ H6 ⟨o, v6, rfl, ho6, ol, ot, oa, k6⟩
    have oa := oa (by show 1 ≤ 2; decide)
    have hw6 := k6 _ _ nDo (sp5 _ _ hw5)
    have onw : o ≠ wd := fun e => by
      rw [e] at oa
      obtain ⟨up, hup⟩ : ∃ up, wd[a]? = some up := ⟨_, List.getElem?_eq_getElem (by omega)⟩
      rw [hup] at oa
      have oa : some up = some (!up) := oa
      cases up <;> cases oa
    have nsO : s ≠ lo := nso
    have src6 : Src H6 s (n + 9909) := by
      obtain ⟨x, y, z, e, q⟩ := (src5.mono (m := n + 9909) (by omega))
      exact ⟨x, y, z, k6 _ _ nsO (sp5 _ _ e), q⟩
    have noH : ∀ c u, H3 c = some u → c ≠ lo := fun c u e => ne_of_none e nlo
    have k36 : Kp s H3 H6 := fun c u cs e => k6 _ _ (noH _ _ e) (sp5 _ _ (k5 _ _ cs (k4 _ _ cs (so _ _ e))))
    -- the tail
    refine ⟨(by show 1 ≤ sizeLine; decide), fun l1 nl1 => ?_⟩
    have s7 := Same.upd (o := .lst [.str "up"]) nl1
    refine ⟨_, rfl, s, 4, _, rfl, by decide, by decide +kernel, src6.same s7, by omega, fun m' H8 m0 m1 src8 k8 => ?_⟩
    obtain ⟨m, rfl⟩ : ∃ m : Nat, m' = (m : Int) := ⟨m'.toNat, by omega⟩
    have nsl1 := nsf src6 nl1
    refine ⟨l1, _, [.str "up"], rfl, rfl, k8 _ _ nsl1.symm upd_same, by omega, by omega, small2 (by rw [Int.toNat_natCast]; show 1 * m ≤ 100000; omega), fun lt nlt => ?_⟩
    have e7 : (List.replicate (m : Int).toNat [V.str "up"]).flatten = (List.replicate m true).map wV := by
      rw [Int.toNat_natCast, List.flatten_replicate_singleton, List.map_replicate]
      rfl
    have s9 := Same.upd (o := .lst (List.replicate (m : Int).toNat [V.str "up"]).flatten) nlt
    have k69 : ∀ c u, c ≠ s → H6 c = some u → (upd H8 lt (.lst (List.replicate (m : Int).toNat [V.str "up"]).flatten)) c = some u := fun c u cs e => s9 _ _ (k8 _ _ cs (s7 _ _ e))
    have hwM := k69 _ _ nsD.symm hw6
    have hoM := k69 _ _ nsO.symm ho6
    have htM : (upd H8 lt (.lst (List.replicate (m : Int).toNat [V.str "up"]).flatten)) lt = some (.lst ((List.replicate m true).map wV)) := by rw [upd_same, e7]
    have srcM := (src8.same s9).mono (m := n + 20000) (by omega)
    have kM : Kp s H (upd H8 lt (.lst (List.replicate (m : Int).toNat [V.str "up"]).flatten)) := fun c u cs e => k69 _ _ cs (k36 _ _ cs (kA _ _ cs e))
    have RM : RowAt L.c_Row (upd H8 lt (.lst (List.replicate (m : Int).toNat [V.str "up"]).flatten)) r B xs ts st ph := by
      obtain ⟨y3, hy3⟩ := src3.has
      exact RA.nl fun c u e q => by
        have cs : c ≠ s := fun z => by rw [z, hy3] at e; cases e; exact q _ rfl
        exact k69 _ _ cs (k36 _ _ cs e)
    obtain ⟨HM, eM⟩ : ∃ Hx : Hp, Hx = upd H8 lt (.lst (List.replicate (m : Int).toNat [V.str "up"]).flatten) := ⟨_, rfl⟩
    rw [← eM] at hwM hoM htM srcM kM RM
    refine ⟨_, rfl, ?_⟩
    rw [← eM]
    have nps : pa ≠ s := fun z => by rw [z, hys0] at hpa; cases hpa
    have hpaM := kM _ _ nps hpa
    have hspM := kM _ _ nsp.symm hsp
    have hbM : Brs HM xs ts := hb.nl fun c u e q => kM _ _ (fun z => by rw [z, hys0] at e; cases e; exact q _ rfl) e
    obtain ⟨tl, htl⟩ : ∃ tl : List Bool, tl = List.replicate m true := ⟨_, rfl⟩
    rw [← htl] at htM
    have tll : tl.length ≤ 3 := by rw [htl, List.length_replicate]; omega
    -- a Playing that is replayed
    have F0 : Fm1 L.c_Row L.c_Playing HM 0 (fun _ => s) ts st ph (fun _ => []) (fun _ => AvS.non) := Fam.nil
    refine ⟨_, rfl, _, rfl, D, lt, _, _, rfl, rfl, hwM, htM, small2 (by rw [List.length_map, List.length_map]; omega), fun lc nlc => ?_⟩
    rw [← List.map_append]
    have sc := Same.upd (o := .lst ((wd ++ tl).map wV)) nlc
    refine ⟨r, B, xs, ts, st, ph, lc, wd ++ tl, AvS.dom (upd HM lc (.lst ((wd ++ tl).map wV))), rfl, RM.nl (NL.of sc), upd_same, by rw [List.length_append]; omega, fun b hb => hb, fun g HG Yg kg ng => ?_⟩
    have sg := keV_dom kg
    have scg := sc.trans sg
    obtain ⟨pA, ws1, ow1, F1, ep1, ew1, _, S1⟩ := Fam.add2 (Fam.same F0 sc) sg (Yg.less fun b hb => AvS.tl hb) ng
    -- another Playing, of an equal row
    have scg' := S1.all
    refine ⟨_, rfl, pa, _, 0, .ref sp, rfl, rfl, SqT.of (scg _ _ hpaM), rfl, _, rfl, pa, _, 1, .int st, rfl, rfl, SqT.of (scg _ _ hpaM), rfl, _, rfl, pa, _, 2, .int ph, rfl, rfl, SqT.of (scg _ _ hpaM), rfl, rfl, rfl, ?_⟩
    refine row_made (xs := xs) (ts := ts) (scg _ _ hspM) (hbM.nl (NL.of scg)) ok l12 ⟨by omega, by omega, by omega, by omega⟩ fun r2 B2 HN R2 zN nr2 => ?_
    refine playing_made R2 fun q HQ _ Yq zQ nq => ?_
    obtain ⟨p2, ws2, ow2, F2, ep2, ew2, ej2, S2⟩ := Fam.add2 (Fam.same F1 zN) zQ (Yq (AvS.dom HN) fun b hb => hb) nq
    have eg2 : p2 0 = g := (ej2 0 (by decide)).1.trans ep1
    have ewg2 : ws2 0 = wd ++ tl := (ej2 0 (by decide)).2.trans ew1
    have S02 : Stp 0 (fun _ => s) (upd HM lc (.lst ((wd ++ tl).map wV))) (fun _ => AvS.non) 2 p2 HQ ow2 := S1.trans ((Stp.same zN).trans S2)
    have nil0 : ∀ b, OutP 0 (fun _ => s) (fun _ => AvS.non) b := fun b => ⟨fun i hi => absurd hi (Nat.not_lt_zero _), fun i hi => absurd hi (Nat.not_lt_zero _)⟩
    have hoQ := S02.all _ _ (sc _ _ hoM)
    have htQ := S02.all _ _ (sc _ _ htM)
    have hwQ := S02.all _ _ (sc _ _ hwM)
    refine ⟨_, _, rfl, ?_⟩
    refine ⟨_, rfl, _, rfl, lo, lt, _, _, rfl, rfl, hoQ, htQ, small2 (by rw [List.length_map, List.length_map]; omega), fun lx nlx => ⟨lx, rfl, ⟨_, SqL.of upd_same⟩, ?_⟩⟩
    have sx := Same.upd (o := .lst (o.map wV ++ tl.map wV)) nlx
    have oX := F2.freshP nlx
    have FX := Fam.same F2 sx
    have hx0 : (upd HQ lx (.lst (o.map wV ++ tl.map wV))) lx = some (.lst ((o ++ tl).map wV)) := by rw [upd_same, List.map_append]
    have otl : (o ++ tl).length ≤ 9 := by rw [List.length_append]; omega
    refine for_list (K := K) (a := lx) (xs := o.map wV ++ tl.map wV) (fun i σ Hx => ∃ v10 : Option V, ∃ ws ow, σ = [some (.ref s), some (.ref pa), some (.ref r), some (.ref D), some (.ref lo), some (.int (a : Nat)), v6, some (.ref lt), some (.ref g), some (.ref q), v10, none] ∧ Fm1 L.c_Row L.c_Playing Hx 2 p2 ts st ph ws ow ∧ ws 0 = wd ++ tl ∧ ws 1 = (o ++ tl).take i ∧ Stp 2 p2 (upd HQ lx (.lst (o.map wV ++ tl.map wV))) ow2 2 p2 Hx ow)
      ⟨none, ws2, ow2, rfl, FX, ewg2, ew2, Stp.same (.refl _)⟩ (fun i σ Hx _ ⟨_, _, _, _, _, _, _, S⟩ => SqL.of (S _ _ upd_same oX).1) ?_ ?_
    · rintro i v σ Hx hv ⟨v10, ws, ow, rfl, F, e0, e1, S⟩
      rw [← List.map_append, List.getElem?_map] at hv
      obtain ⟨up, hup, rfl⟩ := Option.map_eq_some_iff.mp hv
      have iL := (List.getElem?_eq_some_iff.mp hup).1
      obtain ⟨Y, na⟩ := F.av (i := 1) (by decide)
      rw [ep2, e1] at Y
      obtain ⟨dx, rr', aw, ah, hq⟩ := Y.ob
      refine ⟨_, rfl, q, dx, _, rfl, hq, plF_no _ _ _ (by decide +kernel) (by decide +kernel) (by decide +kernel), _, rfl, q, oth Hx (ow 1), ts, st, ph, (o ++ tl).take i, up, rfl, Y, by rw [List.length_take]; omega, na, fun x H' _ Y' k' => ?_⟩
      rw [← ep2] at Y'
      obtain ⟨ws', ow', F', e1', ej', S'⟩ := Fam.req2 F (by decide) Y' k'
      refine ⟨_, ws', ow', rfl, F', (ej' 0 (by decide)).trans e0, ?_, S.trans S'⟩
      rw [e1', List.take_add_one, hup]
      rfl
    rintro σ HR ⟨v10, ws3, ow3, rfl, F3, e30, e31, S3⟩
    rw [List.take_of_length_le (by rw [List.length_append, List.length_append, List.length_map, List.length_map]; exact Nat.le_refl _)] at e31
    -- they differ
    obtain ⟨Y0, _⟩ := F3.av (i := 0) (by decide)
    obtain ⟨Y1, na1⟩ := F3.av (i := 1) (by decide)
    rw [eg2, e30] at Y0
    rw [ep2, e31] at Y1
    have dif : ((((ts, st, ph), wd ++ tl) : PDat) = ((ts, st, ph), o ++ tl)) → False := fun e => by
      have e2 : wd ++ tl = o ++ tl := congrArg (fun z : PDat => z.2) e
      exact onw (List.append_cancel_right e2).symm
    refine ⟨_, rfl, _, rfl, eq_pl Y0 Y1 ⟨_, rfl, ?_⟩⟩
    rw [decide_eq_false dif]
    refine iteF ⟨_, rfl, _, rfl, eq_pl Y1 Y0 ⟨_, rfl, ?_⟩⟩
    rw [decide_eq_false (fun e => dif e.symm)]
    refine iteF ?_
    -- back to where they differ
    have S23 : Stp 2 p2 HQ ow2 2 p2 HR ow3 := (Stp.same sx).trans S3
    have S03 := S02.trans S23
    have hoR := S03.all _ _ (sc _ _ hoM)
    have htR := S03.all _ _ (sc _ _ htM)
    have hwR := S03.all _ _ (sc _ _ hwM)
    obtain ⟨dx1, rr1, aw1, ah1, hq1⟩ := Y1.ob
    refine ⟨_, rfl, q, dx1, _, rfl, hq1, plF_no _ _ _ (by decide +kernel) (by decide +kernel) (by decide +kernel), _, rfl, _, rfl, lo, lt, _, _, rfl, rfl, hoR, htR, small2 (by rw [List.length_map, List.length_map]; omega), fun ly nly => ⟨ly, _, rfl, .inl (SqL.of upd_same), _, rfl, _, _, rfl, rfl, ?_⟩⟩
    have sy := Same.upd (o := .lst (o.map wV ++ tl.map wV)) nly
    have FY := Fam.same F3 sy
    obtain ⟨YY, naY⟩ := FY.av (i := 1) (by decide)
    rw [ep2, e31] at YY
    obtain ⟨cu, hcu⟩ : ∃ cu : Nat, ((o.map wV ++ tl.map wV).length : Int) - (a : Int) = (cu : Int) := ⟨(((o.map wV ++ tl.map wV).length : Int) - (a : Int)).toNat, by rw [List.length_append, List.length_map, List.length_map]; omega⟩
    rw [List.length_append, List.length_map, List.length_map] at hcu
    refine ⟨q, oth _ (ow3 1), ts, st, ph, o ++ tl, cu, ?_, YY, by rw [List.length_append]; omega, by omega, naY, fun HU YU kU => ?_⟩
    · show _ = [V.ref q, V.int (cu : Int)]
      rw [← hcu, List.length_append, List.length_map, List.length_map]
      rfl
    have eu : (o ++ tl).take ((o ++ tl).length - cu) = wd.take a := by
      rw [List.length_append, show o.length + tl.length - cu = a by omega, List.take_append_of_le_length (by omega)]
      exact ot
    rw [eu, ← ep2] at YU
    rw [← ep2] at kU
    obtain ⟨ws4, ow4, F4, e41, ej4, S4⟩ := Fam.undo2 FY (by decide) YU kU
    have e40 := (ej4 0 (by decide)).trans e30
    have S04 := S03.trans ((Stp.same sy).trans S4)
    have hwU := S04.all _ _ (sc _ _ hwM)
    have htU := S04.all _ _ (sc _ _ htM)
    refine ⟨_, rfl, _, rfl, (a : Int), rfl, D, _, rfl, SqL.of hwU, fun l2 nl2 => ?_⟩
    rw [cut_drop0 _ _ (by rw [List.length_map]; omega), ← List.map_drop]
    have sl2 := Same.upd (o := .lst ((wd.drop a).map wV)) nl2
    refine ⟨_, rfl, l2, lt, _, _, rfl, rfl, upd_same, sl2 _ _ htU, small2 (by rw [List.length_map, List.length_map, List.length_drop]; omega), fun lz nlz => ?_⟩
    rw [← List.map_append]
    have sz0 := Same.upd (o := .lst ((wd.drop a ++ tl).map wV)) nlz
    have sz := sl2.trans sz0
    refine ⟨lz, rfl, ⟨_, SqL.of upd_same⟩, ?_⟩
    have FZ := Fam.same F4 sz
    have oZ := (Fam.same F4 sl2).freshP nlz
    have dl : (wd.drop a ++ tl).length ≤ 9 := by rw [List.length_append, List.length_drop]; omega
    refine for_list (K := K) (a := lz) (xs := (wd.drop a ++ tl).map wV) (fun i σ Hx => ∃ v10 : Option V, ∃ ws ow, σ = [some (.ref s), some (.ref pa), some (.ref r), some (.ref D), some (.ref lo), some (.int (a : Nat)), v6, some (.ref lt), some (.ref g), some (.ref q), v10, none] ∧ Fm1 L.c_Row L.c_Playing Hx 2 p2 ts st ph ws ow ∧ ws 0 = wd ++ tl ∧ ws 1 = wd.take a ++ (wd.drop a ++ tl).take i ∧ Stp 2 p2 (upd (upd HU l2 (.lst ((wd.drop a).map wV))) lz (.lst ((wd.drop a ++ tl).map wV))) ow4 2 p2 Hx ow)
      ⟨v10, ws4, ow4, rfl, FZ, e40, by rw [e41]; simp, Stp.same (.refl _)⟩ (fun i σ Hx _ ⟨_, _, _, _, _, _, _, S⟩ => SqL.of (S _ _ upd_same oZ).1) ?_ ?_
    · rintro i v σ Hx hv ⟨v10, ws, ow, rfl, F, e0, e1, S⟩
      rw [List.getElem?_map] at hv
      obtain ⟨up, hup, rfl⟩ := Option.map_eq_some_iff.mp hv
      have iL := (List.getElem?_eq_some_iff.mp hup).1
      obtain ⟨Y, na⟩ := F.av (i := 1) (by decide)
      rw [ep2, e1] at Y
      obtain ⟨dx, rr', aw, ah, hq⟩ := Y.ob
      refine ⟨_, rfl, q, dx, _, rfl, hq, plF_no _ _ _ (by decide +kernel) (by decide +kernel) (by decide +kernel), _, rfl, q, oth Hx (ow 1), ts, st, ph, wd.take a ++ (wd.drop a ++ tl).take i, up, rfl, Y, by rw [List.length_append, List.length_take, List.length_take]; omega, na, fun x H' _ Y' k' => ?_⟩
      rw [← ep2] at Y'
      obtain ⟨ws', ow', F', e1', ej', S'⟩ := Fam.req2 F (by decide) Y' k'
      refine ⟨_, ws', ow', rfl, F', (ej' 0 (by decide)).trans e0, ?_, S.trans S'⟩
      rw [e1', List.take_add_one, hup, List.append_assoc]
      rfl
    rintro σ HV ⟨v10', ws5, ow5, rfl, F5, e50, e51, S5⟩
    have e51 : ws5 1 = wd ++ tl := by rw [e51, List.length_map, List.take_length, ← List.append_assoc, List.take_append_drop]
    have S05 := S04.trans ((Stp.same sz).trans S5)
    obtain ⟨Z0, _⟩ := F5.av (i := 0) (by decide)
    obtain ⟨Z1, na1⟩ := F5.av (i := 1) (by decide)
    rw [eg2, e50] at Z0
    rw [ep2, e51] at Z1
    refine ⟨_, rfl, _, rfl, eq_pl Z0 Z1 ⟨_, rfl, ?_⟩⟩
    rw [decide_eq_true rfl]
    refine iteT ⟨_, rfl, _, rfl, eq_pl Z1 Z0 ⟨_, rfl, ?_⟩⟩
    rw [decide_eq_true rfl]
    refine iteT ⟨_, rfl, q, _, ts, st, ph, wd ++ tl, rfl, Z1, by rw [List.length_append]; omega, fun la HW sha sW nla => ?_⟩
    have hwW := sW _ _ (S05.all _ _ (sc _ _ hwM))
    have htW := sW _ _ (S05.all _ _ (sc _ _ htM))
    refine ⟨_, rfl, _, rfl, _, rfl, D, lt, _, _, rfl, rfl, hwW, htW, small2 (by rw [List.length_map, List.length_map]; omega), fun lc2 nlc2 => ?_⟩
    rw [← List.map_append]
    have sc2 := Same.upd (o := .lst ((wd ++ tl).map wV)) nlc2
    have sAll : Same HM (upd HW lc2 (.lst ((wd ++ tl).map wV))) := ((sc.trans S05.all).trans sW).trans sc2
    refine ⟨pa, sp, lc2, xs, ts, st, ph, wd ++ tl, rfl, sAll _ _ hpaM, sAll _ _ hspM, hbM.nl (NL.of sAll), ok, l12, s0, s1, p0, p1, upd_same, by rw [List.length_append]; omega, fun lb HX shb _ sX nlb => ?_⟩
    refine ⟨shW_eq (((sha.same Fr.le).same sc2).same sX) (shb.same Fr.le), fun H' e' => k H' (srcM.same ((sAll.trans sX).trans e')) fun c u cs e => ((sAll.trans sX).trans e') _ _ (kM _ _ cs e)⟩
theorem ok_wlogsright (T : LX K mg L) : Cal P w K mg base "_law_logs_right" 10 L.f__law_logs_right ["_law_source", "_law_parts"] (spWLogs L.c_Row L.c_Playing) := T.d__law_logs_right.cal fun fd F => fn_wlogsright T F
end
/-! ### k56: three Playings of one row, with their logs -/
structure Tr (CR C : Addr) (HM H : Hp) (s LG LL : Addr) (P L : Nat → Addr) (ts : List Tri) (st ph : Int) (ws lg : Nat → List Bool) (ow : Nat → AvS) (n : Nat) : Prop where
  fam : Fm1 CR C H 3 P ts st ph ws ow
  src : Src H s n
  so : OutP 3 P ow s
  base : ∀ b o, b ≠ s → HM b = some o → H b = some o ∧ OutP 3 P ow b
  hG : H LG = some (.lst [.ref (P 0), .ref (P 1), .ref (P 2)])
  oG : OutP 3 P ow LG
  hL : H LL = some (.lst [.ref (L 0), .ref (L 1), .ref (L 2)])
  oL : OutP 3 P ow LL
  hl : ∀ i, i < 3 → H (L i) = some (.lst ((lg i).map wV))
  ol : ∀ i, i < 3 → OutP 3 P ow (L i)
  li : ∀ i j, i < 3 → j < 3 → i ≠ j → L i ≠ L j
  nsG : s ≠ LG
  nsL : s ≠ LL
  nGL : LG ≠ LL
  nl : ∀ i, i < 3 → L i ≠ s ∧ L i ≠ LL ∧ L i ≠ LG
  nb : HM LL = none ∧ ∀ i, i < 3 → HM (L i) = none
section
variable {CR C : Addr} {HM H H' : Hp} {s LG LL : Addr} {P L : Nat → Addr} {ts : List Tri} {st ph : Int} {ws lg : Nat → List Bool} {ow : Nat → AvS} {n : Nat}
theorem Tr.same (R : Tr CR C HM H s LG LL P L ts st ph ws lg ow n) (k : Same H H') : Tr CR C HM H' s LG LL P L ts st ph ws lg ow n :=
  ⟨Fam.same R.fam k, R.src.same k, R.so, fun b o nb e => ⟨k _ _ (R.base b o nb e).1, (R.base b o nb e).2⟩, k _ _ R.hG, R.oG, k _ _ R.hL, R.oL, fun i hi => k _ _ (R.hl i hi), R.ol, R.li, R.nsG, R.nsL, R.nGL, R.nl, R.nb⟩
theorem Tr.draw (R : Tr CR C HM H s LG LL P L ts st ph ws lg ow n) (k : Kp s H H') {m : Nat} (S : Src H' s m) : Tr CR C HM H' s LG LL P L ts st ph ws lg ow m := by
  obtain ⟨y, hy⟩ := R.src.has
  exact ⟨Fam.wr R.fam k hy R.so.1, S, R.so, fun b o nb e => ⟨k _ _ nb (R.base b o nb e).1, (R.base b o nb e).2⟩, k _ _ R.nsG.symm R.hG, R.oG, k _ _ R.nsL.symm R.hL, R.oL, fun i hi => k _ _ (R.nl i hi).1 (R.hl i hi), R.ol, R.li, R.nsG, R.nsL, R.nGL, R.nl, R.nb⟩
theorem Tr.stp (R : Tr CR C HM H s LG LL P L ts st ph ws lg ow n) {ws' : Nat → List Bool} {ow' : Nat → AvS} (F : Fm1 CR C H' 3 P ts st ph ws' ow') (S : Stp 3 P H ow 3 P H' ow') : Tr CR C HM H' s LG LL P L ts st ph ws' lg ow' n := by
  obtain ⟨x, y, z, e, q⟩ := R.src
  exact ⟨F, ⟨x, y, z, (S _ _ e R.so).1, q⟩, (S _ _ e R.so).2, fun b o nb e => S _ _ (R.base b o nb e).1 (R.base b o nb e).2, (S _ _ R.hG R.oG).1, (S _ _ R.hG R.oG).2, (S _ _ R.hL R.oL).1, (S _ _ R.hL R.oL).2, fun i hi => (S _ _ (R.hl i hi) (R.ol i hi)).1, fun i hi => (S _ _ (R.hl i hi) (R.ol i hi)).2, R.li, R.nsG, R.nsL, R.nGL, R.nl, R.nb⟩
/-- a log grows -/
theorem Tr.app (R : Tr CR C HM H s LG LL P L ts st ph ws lg ow n) {i : Nat} (hi : i < 3) {us : List Bool} : Tr CR C HM (upd H (L i) (.lst (us.map wV))) s LG LL P L ts st ph ws (putF' lg i us) ow n := by
  have k : Kp (L i) H (upd H (L i) (.lst (us.map wV))) := Kp.upd
  obtain ⟨x, y, z, e, q⟩ := R.src
  refine ⟨Fam.wr R.fam k (R.hl i hi) (R.ol i hi).1, ⟨x, y, z, k _ _ (R.nl i hi).1.symm e, q⟩, R.so, fun b o nb e => ⟨k _ _ (fun z => ?_) (R.base b o nb e).1, (R.base b o nb e).2⟩, k _ _ (R.nl i hi).2.2.symm R.hG, R.oG, k _ _ (R.nl i hi).2.1.symm R.hL, R.oL, fun j hj => ?_, R.ol, R.li, R.nsG, R.nsL, R.nGL, R.nl, R.nb⟩
  · rw [z, R.nb.2 i hi] at e
    cases e
  · by_cases c : j = i
    · subst c
      rw [putF'_same]
      exact upd_same
    · rw [putF'_ne c]
      exact k _ _ (R.li j i hj hi c) (R.hl j hj)
/-- a log is another list from now on -/
theorem Tr.put (R : Tr CR C HM H s LG LL P L ts st ph ws lg ow n) {i : Nat} (hi : i < 3) {l : Addr} {us : List Bool} (h : H l = some (.lst (us.map wV))) (o : OutP 3 P ow l) (n1 : l ≠ s) (n2 : l ≠ LL) (n3 : l ≠ LG) (n4 : ∀ j, j < 3 → l ≠ L j) (n5 : HM l = none) :
    Tr CR C HM (upd H LL (.lst ([V.ref (L 0), V.ref (L 1), V.ref (L 2)].set i (.ref l)))) s LG LL P (putF' L i l) ts st ph ws (putF' lg i us) ow n := by
  have k : Kp LL H (upd H LL (.lst ([V.ref (L 0), V.ref (L 1), V.ref (L 2)].set i (.ref l)))) := Kp.upd
  obtain ⟨x, y, z, e, q⟩ := R.src
  refine ⟨Fam.wr R.fam k R.hL R.oL.1, ⟨x, y, z, k _ _ R.nsL e, q⟩, R.so, fun b o nb e => ⟨k _ _ (fun z => ?_) (R.base b o nb e).1, (R.base b o nb e).2⟩, k _ _ R.nGL R.hG, R.oG, upd_same.trans ?_, R.oL, fun j hj => ?_, fun j hj => ?_, fun a b ha hb ne => ?_, R.nsG, R.nsL, R.nGL, fun j hj => ?_, ⟨R.nb.1, fun j hj => ?_⟩⟩
  · rw [z, R.nb.1] at e
    cases e
  · match i, hi with
    | 0, _ => rfl
    | 1, _ => rfl
    | 2, _ => rfl
  · by_cases c : j = i
    · subst c
      rw [putF'_same, putF'_same]
      exact k _ _ n2 h
    · rw [putF'_ne c, putF'_ne c]
      exact k _ _ (R.nl j hj).2.1 (R.hl j hj)
  · by_cases c : j = i
    · subst c
      rw [putF'_same]
      exact o
    · rw [putF'_ne c]
      exact R.ol j hj
  · by_cases c : a = i
    · subst c
      rw [putF'_same, putF'_ne (Ne.symm ne)]
      exact n4 b hb
    · by_cases d : b = i
      · subst d
        rw [putF'_same, putF'_ne c]
        exact (n4 a ha).symm
      · rw [putF'_ne c, putF'_ne d]
        exact R.li a b ha hb ne
  · by_cases c : j = i
    · subst c
      rw [putF'_same]
      exact ⟨n1, n2, n3⟩
    · rw [putF'_ne c]
      exact R.nl j hj
  · by_cases c : j = i
    · subst c
      rw [putF'_same]
      exact n5
    · rw [putF'_ne c]
      exact R.nb.2 j hj
/-- a new list is none of these -/
theorem Tr.new (R : Tr CR C HM H s LG LL P L ts st ph ws lg ow n) {l : Addr} (h : H l = none) : OutP 3 P ow l ∧ l ≠ s ∧ l ≠ LL ∧ l ≠ LG ∧ (∀ j, j < 3 → l ≠ L j) ∧ HM l = none := by
  obtain ⟨y, hy⟩ := R.src.has
  refine ⟨R.fam.freshP h, (ne_of_none hy h).symm, (ne_of_none R.hL h).symm, (ne_of_none R.hG h).symm, fun j hj => (ne_of_none (R.hl j hj) h).symm, ?_⟩
  cases e : HM l with
  | none => rfl
  | some o =>
    rw [(R.base l o (ne_of_none hy h).symm e).1] at h
    cases h
end
/-! ### k56: three Playings by turns -/
def spWThree (CR C : Addr) : Sp := fun vs H Q _ => ∃ s pa sp xs ts st ph n, vs = [.ref s, .ref pa] ∧ Src H s n ∧ n ≤ 300000 ∧ H pa = some (.tup [.ref sp, .int st, .int ph]) ∧ H sp = some (.lst xs) ∧ s ≠ sp ∧ Brs H xs ts ∧ (∀ t ∈ ts, OkT t) ∧ ts.length ≤ 12 ∧ 1 ≤ st ∧ st ≤ 1000 ∧ 0 ≤ ph ∧ ph ≤ 1000000000000000000000000000000 ∧
  ∀ H', Src H' s (n + 90000) → Kp s H H' → Q (.bl true) H'
theorem at3 (f : Nat → Addr) {i : Nat} (h : i < 3) : atI [V.ref (f 0), V.ref (f 1), V.ref (f 2)] (i : Int) = some (.ref (f i)) := atI_nat (by
  match i, h with
  | 0, _ => rfl
  | 1, _ => rfl
  | 2, _ => rfl)
section
variable {P : Program} {w : World} {K : PySem.W.Frag} {mg : Str → Option Value} {base : Heap} {L : LA}
abbrev N_wthreeright : List Str := ["_law_source", "_law_parts", "_law_specs_here", "_law_step", "_law_early", "_law_row", "_law_begin", "_law_games", "_law_logs", "_law_turn", "_law_at", "_law_word", "_law_sort", "_law_back", "_law_states", "_law_time", "_law_game", "_law_words_here"]
theorem sc_wthreeright : FnScope N_wthreeright ["_law_source", "_law_parts"] (defScope st__law_three_right) := ⟨rfl, rfl, rfl, by decide +kernel, rfl, by decide +kernel, by decide +kernel⟩
theorem fn_wthreeright (T : LX K mg L) {fd : FuncData} (F : Fun K "_law_three_right" "_law_three_right" st__law_three_right L.f__law_three_right fd) : FnOk P w K mg base CX0 10 L.f__law_three_right fd ["_law_source", "_law_parts"] (spWThree L.c_Row L.c_Playing) := by
  have G_wwords := ok_wwords (P := P) (w := w) (base := base) T
  have G_wdraw := ok_wdraw (P := P) (w := w) (base := base) T
  have G_Playingundo := ok_Playingundo (P := P) (w := w) (base := base) T
  have G_replay := ok_replay (P := P) (w := w) (base := base) T
  have G_wchoice := ok_wchoice (P := P) (w := w) (base := base) T
  have G_Playingeq := ok_Playingeq (P := P) (w := w) (base := base) T
  have G_Playingrequest := ok_Playingrequest (P := P) (w := w) (base := base) T
  have G_wshown := ok_wshown (P := P) (w := w) (base := base) T
  have G_wdue := ok_wdue (P := P) (w := w) (base := base) T
  have G_wbehind := ok_wbehind (P := P) (w := w) (base := base) T
  have G_outcomes := ok_outcomes (P := P) (w := w) (base := base) T
  have nd := sc_wthreeright.nd
  refine F.ok sc_wthreeright (fun vs H Q E h => ?_) (fun cdv A outer S H vs Q E hr h => ?_)
  · obtain ⟨s, pa, sp, xs, ts, st, ph, n, rfl, _⟩ := h
    rfl
  · obtain ⟨s, pa, sp, xs, ts, st, ph, n, rfl, src, hn, hpa, hsp, nsp, hb, ok, l12, s0, s1, p0, p1, k⟩ := h
    refine ⟨_, (pss_cons (ps_asg (pv 1) (pg_tup rfl (pgs_cons (pg_name (i := 2) nd rfl (Or.inl rfl)) (pgs_cons (pg_name (i := 3) nd rfl (Or.inl rfl)) (pgs_cons (pg_name (i := 4) nd rfl (Or.inl rfl)) pgs_nil)))))
       (pss_cons (ps_par (i := 5) (j := 6) (by rfl) nd rfl rfl (by decide) rfl rfl (pa_cons (pe_mkRow_p_phase T (hr.mono (by decide)) rfl (pa_cons (pv 2) (pa_cons (pv 3) pa_nil)) (pk_cons (pv 4) pk_nil)) (pa_cons (pe_c G_wwords (hr.mono (by decide)) rfl (pa_cons (pv 0) (pa_cons pe_int pa_nil))) pa_nil)) (by rfl))
       (pss_cons (ps_par (i := 7) (j := 8) (by rfl) nd rfl rfl (by decide) rfl rfl (pa_cons (pe_lst (pa_cons (pe_mkPlaying T (hr.mono (by decide)) rfl (pa_cons (pv 5) pa_nil)) (pa_cons (pe_c G_replay (hr.mono (by decide)) rfl (pa_cons (pv 5) (pa_cons (pv 6) pa_nil))) (pa_cons (pe_mkPlaying T (hr.mono (by decide)) rfl (pa_cons (pv 5) pa_nil)) pa_nil)))) (pa_cons (pe_lst (pa_cons (pe_lst pa_nil) (pa_cons (pe_callTy call_list_of (by rfl) T.b_list (by decide +kernel) (pa_cons (pv 6) pa_nil)) (pa_cons (pe_lst pa_nil) pa_nil)))) pa_nil)) (by rfl))
       (pss_cons (ps_for PassesOwn.never rfl (pi_range1 rfl T.b_range (pa_cons pe_int pa_nil)) (pg_name (i := 9) nd rfl (Or.inl rfl)) (pss_cons (ps_par (i := 10) (j := 11) (by rfl) nd rfl rfl (by decide) rfl rfl (pa_cons (pe_c G_wdraw (hr.mono (by decide)) rfl (pa_cons (pv 0) (pa_cons pe_int pa_nil))) (pa_cons (pe_c G_wchoice (hr.mono (by decide)) rfl (pa_cons (pv 0) (pa_cons (pe_lst (pa_cons pe_str (pa_cons pe_str (pa_cons pe_str pa_nil)))) pa_nil))) pa_nil)) (by rfl))
       (pss_cons (ps_set (i := 12) nd rfl (Or.inl rfl) (pe_c G_wdraw (hr.mono (by decide)) rfl (pa_cons (pv 0) (pa_cons pe_int pa_nil))))
       (C8.pss_cut (ps_if (pt_cmpR op_eq (pv 12) pe_int (nomark _)) (pss_cons (ps_set (i := 13) nd rfl (Or.inl rfl) (pe_c G_wdraw (hr.mono (by decide)) rfl (pa_cons (pv 0) (pa_cons (pe_op op_add (pe_callB call_len_seq (by rfl) T.b_len PySem.boot_len (pa_cons (pe_ix (r := rIxL K) ix_list (pv 8) (pv 10) (fun _ _ => rfl)) pa_nil)) pe_int) pa_nil))))
       (pss_cons (ps_expr (G_Playingundo.p_m1 T.cf_Playing.cl (hr.mono (by decide)) (pe_ix (r := rIxL K) ix_list (pv 7) (pv 10) (fun _ _ => rfl)) (pa_cons (pv 13) pa_nil)))
       (pss_one (ps_asg (pe_slice (r := rSlL K) sl_list (pe_ix (r := rIxL K) ix_list (pv 8) (pv 10) (fun _ _ => rfl)) po_none (po_some (pe_op op_sub (pe_callB call_len_seq (by rfl) T.b_len PySem.boot_len (pa_cons (pe_ix (r := rIxL K) ix_list (pv 8) (pv 10) (fun _ _ => rfl)) pa_nil)) (pv 13)))) (pg_sub (pv 8) (pv 10) set_list))))) (pss_one (ps_if (pt_cmpR op_eq (pv 12) pe_int (nomark _)) (pss_cons (ps_if (PW.pt (pw_or (pt_cmpR op_ne (pe_callB call_len_seq (by rfl) T.b_len PySem.boot_len (pa_cons (pe_c G_outcomes (hr.mono (by decide)) rfl (pa_cons (pv 5) (pa_cons (pe_ix (r := rIxL K) ix_list (pv 8) (pv 10) (fun _ _ => rfl)) pa_nil))) pa_nil)) (pe_callB call_len_seq (by rfl) T.b_len PySem.boot_len (pa_cons (pe_ix (r := rIxL K) ix_list (pv 8) (pv 10) (fun _ _ => rfl)) pa_nil)) (nomark _)) (pw_or1 (pt_cmpR (G_Playingeq.op_ne (hr.mono (by decide)) T.cf_Playing.om T.cf_Playing.ne) (pe_c G_replay (hr.mono (by decide)) rfl (pa_cons (pv 5) (pa_cons (pe_ix (r := rIxL K) ix_list (pv 8) (pv 10) (fun _ _ => rfl)) pa_nil))) (pe_ix (r := rIxL K) ix_list (pv 7) (pv 10) (fun _ _ => rfl)) (nomark _))))) (pss_one (ps_ret pe_bl)) pss_nil)
       (pss_one (ps_if (pt_cmpR (op_neSh T (hr.mono (by decide))) (pe_c G_wshown (hr.mono (by decide)) rfl (pa_cons (pe_mkPlaying T (hr.mono (by decide)) rfl (pa_cons (pv 5) pa_nil)) pa_nil)) (pe_c G_wdue (hr.mono (by decide)) rfl (pa_cons (pv 1) (pa_cons (pe_lst pa_nil) pa_nil))) (nomark _)) (pss_one (ps_ret pe_bl)) pss_nil))) (pss_cons (ps_par (i := 14) (j := 15) (by rfl) nd rfl rfl (by decide) rfl rfl (pa_cons (pe_ix (r := rIxL K) ix_list (pe_c G_wdue (hr.mono (by decide)) rfl (pa_cons (pv 1) (pa_cons (pe_ix (r := rIxL K) ix_list (pv 8) (pv 10) (fun _ _ => rfl)) pa_nil))) pe_int (fun _ _ => rfl)) (pa_cons (pe_op op_add (pv 4) (pe_op op_mulW (pv 3) (pe_callB call_len_seq (by rfl) T.b_len PySem.boot_len (pa_cons (pe_ix (r := rIxL K) ix_list (pv 8) (pv 10) (fun _ _ => rfl)) pa_nil)))) pa_nil)) (by rfl))
       (pss_cons (ps_if (pt_cmpR (op_neD hr.units) (G_Playingrequest.p_m1 T.cf_Playing.cl (hr.mono (by decide)) (pe_ix (r := rIxL K) ix_list (pv 7) (pv 10) (fun _ _ => rfl)) (pa_cons (pv 11) pa_nil)) (pe_ix (r := rIxT K) ix_tup (pe_c G_wbehind (hr.mono (by decide)) rfl (pa_cons (pv 2) (pa_cons (pv 14) (pa_cons (pv 15) (pa_cons (pv 11) pa_nil))))) pe_int (fun _ _ => rfl)) (nomark _)) (pss_one (ps_ret pe_bl)) pss_nil)
       (pss_one (ps_expr (pe_bm PySem.F.plainAttrs_list PySem.F.slot_list_append PySem.F.type_list_append mt_append (pe_ix (r := rIxL K) ix_list (pv 8) (pv 10) (fun _ _ => rfl)) (pa_cons (pv 11) pa_nil)))))))))
       (pss_cons (ps_if (pt_cmpR (op_neShs T (hr.mono (by decide))) (pe_lc (own := [("_law_game", 16)]) (g := gName 16) (tt := tYes) rfl nd (pi_list (pv 7)) (blkOk_by (own := [("_law_game", 16)]) (N := N_wthreeright) (sc := defScope st__law_three_right) (by decide +kernel)) (fun _ _ _ _ _ => pg_name (i := 16) nd rfl (Or.inl rfl)) (fun _ _ _ _ _ => pts_nil) (fun _ _ _ _ _ => (pe_c G_wshown (hr.mono (by decide)) rfl (pa_cons (pv 16) pa_nil)))) (pe_lc (own := [("_law_words_here", 17)]) (g := gName 17) (tt := tYes) rfl nd (pi_list (pv 8)) (blkOk_by (own := [("_law_words_here", 17)]) (N := N_wthreeright) (sc := defScope st__law_three_right) (by decide +kernel)) (fun _ _ _ _ _ => pg_name (i := 17) nd rfl (Or.inl rfl)) (fun _ _ _ _ _ => pts_nil) (fun _ _ _ _ _ => (pe_c G_wdue (hr.mono (by decide)) rfl (pa_cons (pv 1) (pa_cons (pv 17) pa_nil))))) (nomark _)) (pss_one (ps_ret pe_bl)) pss_nil)
       (pss_one (ps_if (pt_cmpR (op_neD hr.units) (pe_tup (pa_cons (pe_cmpR (G_Playingeq.op_eq (hr.mono (by decide))) (pe_ix (r := rIxL K) ix_list (pv 7) pe_int (fun _ _ => rfl)) (pe_ix (r := rIxL K) ix_list (pv 7) pe_int (fun _ _ => rfl)) (nomark _)) (pa_cons (pe_cmpR (G_Playingeq.op_eq (hr.mono (by decide))) (pe_ix (r := rIxL K) ix_list (pv 7) pe_int (fun _ _ => rfl)) (pe_ix (r := rIxL K) ix_list (pv 7) pe_int (fun _ _ => rfl)) (nomark _)) pa_nil))) (pe_tup (pa_cons (pe_cmpR (op_eqD hr.units) (pe_ix (r := rIxL K) ix_list (pv 8) pe_int (fun _ _ => rfl)) (pe_ix (r := rIxL K) ix_list (pv 8) pe_int (fun _ _ => rfl)) (nomark _)) (pa_cons (pe_cmpR (op_eqD hr.units) (pe_ix (r := rIxL K) ix_list (pv 8) pe_int (fun _ _ => rfl)) (pe_ix (r := rIxL K) ix_list (pv 8) pe_int (fun _ _ => rfl)) (nomark _)) pa_nil))) (nomark _)) (pss_one (ps_ret pe_bl)) pss_nil)))))))
       (pss_one (ps_ret pe_bl)))))), ?_⟩
    obtain ⟨ys0, hys0⟩ := src.has
    have nps : pa ≠ s := fun z => by rw [z, hys0] at hpa; cases hpa
    refine ⟨_, rfl, pa, _, rfl, SqT.of hpa, rfl, _, _, rfl, _, _, rfl, _, _, rfl, rfl, ?_⟩
    refine ⟨_, rfl, _, rfl, _, rfl, rfl, rfl, ?_⟩
    refine row_made (xs := xs) (ts := ts) hsp hb ok l12 ⟨by omega, by omega, by omega, by omega⟩ fun r B H1 R1 z1 nr1 => ?_
    refine ⟨_, rfl, s, n, 2, rfl, src.same z1, by omega, by decide, by decide, fun lb bg HM hlb bgl srcM k2 nlb => ⟨_, _, rfl, ?_⟩⟩
    have bgl : bg.length ≤ 10 := by omega
    have nsb : lb ≠ s := fun z => by
      rw [z] at nlb
      rw [z1 _ _ hys0] at nlb
      cases nlb
    have kM : Kp s H HM := fun c u cs e => k2 _ _ cs (z1 _ _ e)
    have hpaM := kM _ _ nps hpa
    have hspM := kM _ _ nsp.symm hsp
    have nlM : NL H1 HM := fun c u e q => k2 _ _ (fun z => by rw [z, z1 _ _ hys0] at e; cases e; exact q _ rfl) e
    have RM := R1.nl nlM
    have hbM : Brs HM xs ts := (hb.nl (NL.of z1)).nl nlM
    -- the Playings
    have F0 : Fm1 L.c_Row L.c_Playing HM 0 (fun _ => s) ts st ph (fun _ => []) (fun _ => AvS.non) := Fam.nil
    refine ⟨_, rfl, playing_made RM fun g0 HA _ Ya zA na => ?_⟩
    obtain ⟨pA, wsA, owA, FA, epA, ewA, _, SA⟩ := Fam.add2 F0 zA (Ya (AvS.dom HM) fun b hb => hb) na
    refine ⟨_, rfl, _, rfl, r, B, xs, ts, st, ph, lb, bg, AvS.dom HA, rfl, RM.nl (NL.of zA), zA _ _ hlb, by omega, fun b hb => hb, fun g1 HB Yb kb nb => ?_⟩
    have zB := keV_dom kb
    obtain ⟨pB, wsB, owB, FB, epB, ewB, ejB, SB⟩ := Fam.add2 FA zB (Yb.less fun b hb => AvS.tl hb) nb
    refine ⟨_, rfl, playing_made ((RM.nl (NL.of zA)).nl (NL.of zB)) fun g2 HC _ Yc zC nc => ⟨(by show 3 ≤ sizeLine; decide), fun LG nLG => ?_⟩⟩
    obtain ⟨pC, wsC, owC, FC, epC, ewC, ejC, SC⟩ := Fam.add2 FB zC (Yc (AvS.dom HB) fun b hb => hb) nc
    have e0 : pC 0 = g0 := (ejC 0 (by decide)).1.trans ((ejB 0 (by decide)).1.trans epA)
    have e1 : pC 1 = g1 := (ejC 1 (by decide)).1.trans epB
    have w0 : wsC 0 = [] := (ejC 0 (by decide)).2.trans ((ejB 0 (by decide)).2.trans ewA)
    have w1 : wsC 1 = bg := (ejC 1 (by decide)).2.trans ewB
    have zABC := (zA.trans zB).trans zC
    have SABC : Stp 0 (fun _ => s) HM (fun _ => AvS.non) 3 pC HC owC := SA.trans (SB.trans SC)
    have out0 : ∀ b, OutP 0 (fun _ => s) (fun _ => AvS.non) b := fun b => ⟨fun i hi => absurd hi (Nat.not_lt_zero _), fun i hi => absurd hi (Nat.not_lt_zero _)⟩
    have sG := Same.upd (o := .lst [.ref g0, .ref g1, .ref g2]) nLG
    -- their logs
    refine ⟨(by show 0 ≤ sizeLine; decide), fun l0 nl0 => ?_⟩
    have t0 := Same.upd (o := .lst []) nl0
    refine ⟨_, rfl, lb, _, rfl, .inl (SqL.of (t0 _ _ (sG _ _ (zABC _ _ hlb)))), fun l1 nl1 => ⟨(by show 0 ≤ sizeLine; decide), fun l2 nl2 => ⟨(by show 3 ≤ sizeLine; decide), fun LL nLL => ⟨_, _, rfl, ?_⟩⟩⟩⟩
    have t1 := Same.upd (o := .lst (bg.map wV)) nl1
    have t2 := Same.upd (o := .lst []) nl2
    have tL := Same.upd (o := .lst [.ref l0, .ref l1, .ref l2]) nLL
    obtain ⟨HS, eS⟩ : ∃ Hx : Hp, Hx = upd (upd (upd (upd (upd HC LG (.lst [.ref g0, .ref g1, .ref g2])) l0 (.lst [])) l1 (.lst (bg.map wV))) l2 (.lst [])) LL (.lst [.ref l0, .ref l1, .ref l2]) := ⟨_, rfl⟩
    have FG := Fam.same FC sG
    have Fl0 := Fam.same FG t0
    have Fl1 := Fam.same Fl0 t1
    have Fl2 := Fam.same Fl1 t2
    have FL := Fam.same Fl2 tL
    rw [← eS] at FL tL
    have u0 := ((t1.trans t2).trans tL)
    have uG := t0.trans u0
    have uC := sG.trans uG
    have uM := zABC.trans uC
    have hGS : HS LG = some (.lst [.ref g0, .ref g1, .ref g2]) := uG _ _ upd_same
    have h0S : HS l0 = some (.lst []) := u0 _ _ upd_same
    have h1S : HS l1 = some (.lst (bg.map wV)) := (t2.trans tL) _ _ upd_same
    have h2S : HS l2 = some (.lst []) := tL _ _ upd_same
    have hLS : HS LL = some (.lst [.ref l0, .ref l1, .ref l2]) := by rw [eS]; exact upd_same
    obtain ⟨yM, hyM⟩ := srcM.has
    have q0 : l0 ≠ l1 := ne_of_none upd_same nl1
    have q1 : l1 ≠ l2 := ne_of_none upd_same nl2
    have q2 : l0 ≠ l2 := ne_of_none (t1 _ _ upd_same) nl2
    have q3 : l0 ≠ LL := ne_of_none ((t1.trans t2) _ _ upd_same) nLL
    have q4 : l1 ≠ LL := ne_of_none (t2 _ _ upd_same) nLL
    have q5 : l2 ≠ LL := ne_of_none upd_same nLL
    have q6 : LG ≠ l0 := ne_of_none upd_same nl0
    have q7 : LG ≠ l1 := ne_of_none (t0 _ _ upd_same) nl1
    have q8 : LG ≠ l2 := ne_of_none ((t0.trans t1) _ _ upd_same) nl2
    have q9 : LG ≠ LL := ne_of_none (((t0.trans t1).trans t2) _ _ upd_same) nLL
    have sm : ∀ {b : Addr}, (∀ o, HM b = some o → False) → HM b = none := fun {b} h => by
      cases e : HM b with
      | none => rfl
      | some o => exact absurd e (h o)
    have old : ∀ {b : Addr} {o : HO}, HM b = some o → b ≠ LG ∧ b ≠ l0 ∧ b ≠ l1 ∧ b ≠ l2 ∧ b ≠ LL := fun {b o} e =>
      ⟨ne_of_none (zABC _ _ e) nLG, ne_of_none (sG _ _ (zABC _ _ e)) nl0, ne_of_none (t0 _ _ (sG _ _ (zABC _ _ e))) nl1, ne_of_none (t1 _ _ (t0 _ _ (sG _ _ (zABC _ _ e)))) nl2, ne_of_none (t2 _ _ (t1 _ _ (t0 _ _ (sG _ _ (zABC _ _ e))))) nLL⟩
    have os := old hyM
    have R0 : Tr L.c_Row L.c_Playing HM HS s LG LL pC (fun i => if i = 0 then l0 else if i = 1 then l1 else l2) ts st ph wsC wsC owC (n + 5505) := by
      refine ⟨FL, srcM.same uM, (SABC _ _ hyM (out0 s)).2, fun b o _ e => ⟨uM _ _ e, (SABC _ _ e (out0 b)).2⟩, by rw [e0, e1, epC]; exact hGS, FC.freshP nLG, hLS, Fl2.freshP nLL, fun i hi => ?_, fun i hi => ?_, fun i j hi hj ne => ?_, os.1, os.2.2.2.2, q9, fun i hi => ?_, ⟨sm fun o e => (old e).2.2.2.2 rfl, fun i hi => ?_⟩⟩
      · match i, hi with
        | 0, _ => rw [w0]; exact h0S
        | 1, _ => rw [w1]; exact h1S
        | 2, _ => rw [ewC]; exact h2S
      · match i, hi with
        | 0, _ => exact FG.freshP nl0
        | 1, _ => exact Fl0.freshP nl1
        | 2, _ => exact Fl1.freshP nl2
      · match i, hi, j, hj, ne with
        | 0, _, 1, _, _ => exact q0
        | 0, _, 2, _, _ => exact q2
        | 1, _, 0, _, _ => exact q0.symm
        | 1, _, 2, _, _ => exact q1
        | 2, _, 0, _, _ => exact q2.symm
        | 2, _, 1, _, _ => exact q1.symm
        | 0, _, 0, _, ne => exact absurd rfl ne
        | 1, _, 1, _, ne => exact absurd rfl ne
        | 2, _, 2, _, ne => exact absurd rfl ne
      · match i, hi with
        | 0, _ => exact ⟨os.2.1.symm, q3, q6.symm⟩
        | 1, _ => exact ⟨os.2.2.1.symm, q4, q7.symm⟩
        | 2, _ => exact ⟨os.2.2.2.1.symm, q5, q8.symm⟩
      · match i, hi with
        | 0, _ => exact sm fun o e => (old e).2.1 rfl
        | 1, _ => exact sm fun o e => (old e).2.2.1 rfl
        | 2, _ => exact sm fun o e => (old e).2.2.2.1 rfl
    have b0 : ∀ i, i < 3 → (wsC i).length ≤ 10 := fun i hi => by
      match i, hi with
      | 0, _ => rw [w0]; exact Nat.zero_le _
      | 1, _ => rw [w1]; exact bgl
      | 2, _ => rw [ewC]; exact Nat.zero_le _
    generalize hfL : (fun i => if i = 0 then l0 else if i = 1 then l1 else l2 : Nat → Addr) = fL at R0
    clear hfL q0 q1 q2 q3 q4 q5 q6 q7 q8 q9 h0S h1S h2S hLS hGS u0 uG uC old os sm FG Fl0 Fl1 Fl2 FL
    rw [← eS]
    have rowOf : ∀ {fL : Nat → Addr} {ws lg : Nat → List Bool} {ow : Nat → AvS} {n' : Nat} {Hx : Hp}, Tr L.c_Row L.c_Playing HM Hx s LG LL pC fL ts st ph ws lg ow n' → RowAt L.c_Row Hx r B xs ts st ph ∧ Brs Hx xs ts := fun {fL ws lg ow n' Hx} Rz => by
      have nl : NL HM Hx := fun b o e q => (Rz.base b o (fun z => by rw [z, hyM] at e; cases e; exact q _ rfl) e).1
      exact ⟨RM.nl nl, hbM.nl nl⟩
    -- turn by turn
    refine ⟨14, rfl, by decide, by decide, ?_⟩
    refine for_range (lo := 0) (n := 14) (fun j σ Hx => ∃ (fL : Nat → Addr) (ws : Nat → List Bool) (ow : Nat → AvS) (v9 v10 v11 v12 v13 v14 v15 : Option V), σ = [some (.ref s), some (.ref pa), some (.ref sp), some (.int st), some (.int ph), some (.ref r), some (.ref lb), some (.ref LG), some (.ref LL), v9, v10, v11, v12, v13, v14, v15, none, none] ∧
        Tr L.c_Row L.c_Playing HM Hx s LG LL pC fL ts st ph ws ws ow (n + 5505 + 4404 * j) ∧ ∀ i, i < 3 → (ws i).length ≤ 10 + j)
      ⟨fL, wsC, owC, none, none, none, none, none, none, none, rfl, R0, b0⟩ ?_ ?_
    · rintro j σ Hx hj ⟨fL, ws, ow, v9, v10, v11, v12, v13, v14, v15, rfl, R, bd⟩
      refine ⟨_, rfl, s, 3, _, rfl, by decide, by decide +kernel, R.src, by omega, fun at' H3 a0 a1 src3 k3 => ?_⟩
      obtain ⟨i, rfl⟩ : ∃ i : Nat, at' = (i : Int) := ⟨at'.toNat, by omega⟩
      have i3 : i < 3 := by omega
      have R3 := R.draw k3 src3
      refine ⟨_, rfl, (by show 3 ≤ sizeLine; decide), fun lo nlo => ?_⟩
      have so := Same.upd (o := .lst [.str "up", .str "down", .str "down"]) nlo
      refine ⟨s, lo, _, _, rfl, (R3.new nlo).2.1.symm, upd_same, Nat.succ_pos _, (by show 3 ≤ 100000; decide), src3.same so, by omega, fun v H4 hv src4 k4 => ?_⟩
      obtain ⟨up, rfl⟩ : ∃ up, v = wV up := by
        simp only [List.mem_cons, List.mem_nil_iff, or_false] at hv
        rcases hv with rfl | rfl | rfl
        · exact ⟨true, rfl⟩
        · exact ⟨false, rfl⟩
        · exact ⟨false, rfl⟩
      have R4 := (R3.same so).draw k4 src4
      refine ⟨_, _, rfl, _, rfl, s, 6, _, rfl, by decide, by decide +kernel, src4, by omega, fun so' H5 o0 o1 src5 k5 => ?_⟩
      have R5 := R4.draw k5 src5
      have bi := bd i i3
      -- one of three things
      refine ⟨fun σ2 H6 => ∃ (fL : Nat → Addr) (ws : Nat → List Bool) (ow : Nat → AvS) (v13 v14 v15 : Option V), σ2 = [some (.ref s), some (.ref pa), some (.ref sp), some (.int st), some (.int ph), some (.ref r), some (.ref lb), some (.ref LG), some (.ref LL), some (.int (0 + (j : Int))), some (.int (i : Nat)), some (wV up), some (.int so'), v13, v14, v15, none, none] ∧
        Tr L.c_Row L.c_Playing HM H6 s LG LL pC fL ts st ph ws ws ow (n + 5505 + 4404 * (j + 1)) ∧ ∀ i, i < 3 → (ws i).length ≤ 10 + (j + 1), ?_, ?_⟩
      · refine ⟨_, rfl, rfl, _, rfl, ite2 (fun c0 => ?_) (fun c0 => ?_)⟩
        · refine ⟨_, rfl, _, rfl, _, rfl, LL, _, (i : Int), .ref (fL i), rfl, rfl, SqL.of R5.hL, at3 fL i3, fL i, _, rfl, .inl (SqL.of (R5.hl i i3)), _, _, rfl, rfl, s, (((ws i).map wV).length : Nat) + 1, _, rfl, by omega, Nat.lt_of_le_of_lt (show (((((ws i).map wV).length : Nat) : Int) + 1).natAbs ≤ 100 by rw [List.length_map]; omega) (by decide +kernel), src5, by omega, fun bk' H6 b0 b1 src6 k6 => ?_⟩
          rw [List.length_map] at b1
          obtain ⟨bk, rfl⟩ : ∃ bk : Nat, bk' = (bk : Int) := ⟨bk'.toNat, by omega⟩
          have R6 := R5.draw k6 src6
          obtain ⟨Y, nay⟩ := R6.fam.av i3
          obtain ⟨dx, rr', aw, ah, hp⟩ := Y.ob
          refine ⟨_, rfl, _, rfl, LG, _, (i : Int), .ref (pC i), rfl, rfl, SqL.of R6.hG, at3 pC i3, pC i, dx, _, rfl, hp, plF_no _ _ _ (by decide +kernel) (by decide +kernel) (by decide +kernel), _, rfl, pC i, oth H6 (ow i), ts, st, ph, ws i, bk, rfl, Y, by omega, by omega, nay, fun HU YU kU => ?_⟩
          obtain ⟨ws', ow', F', e', ej, S⟩ := Fam.undo2 R6.fam i3 YU kU
          have R7 := R6.stp F' S
          obtain ⟨m, hm⟩ : ∃ m : Nat, ((ws i).length : Int) - (bk : Int) = (m : Int) := ⟨(((ws i).length : Int) - (bk : Int)).toNat, by omega⟩
          refine ⟨_, rfl, _, rfl, LL, _, (i : Int), .ref (fL i), rfl, rfl, SqL.of R7.hL, at3 fL i3, _, rfl, _, rfl, LL, _, (i : Int), .ref (fL i), rfl, rfl, SqL.of R7.hL, at3 fL i3, fL i, _, rfl, .inl (SqL.of (R7.hl i i3)), _, rfl, _, _, rfl, rfl, (m : Int), ?_, fL i, _, rfl, SqL.of (R7.hl i i3), fun ln nln => ?_⟩
          · show V.int ((((ws i).map wV).length : Int) - (bk : Int)) = _
            rw [List.length_map, hm]
          rw [cut_take0 _ _ (by rw [List.length_map]; omega), ← List.map_take]
          have sn := Same.upd (o := .lst (((ws i).take m).map wV)) nln
          have R8 := R7.same sn
          obtain ⟨w1, w2, w3, w4, w5, w6⟩ := R7.new nln
          refine ⟨_, rfl, _, rfl, LL, _, (i : Int), i, rfl, rfl, R8.hL, ixN_of (by show i < 3; exact i3), ?_⟩
          have R9 := R8.put i3 upd_same w1 w2 w3 w4 w5 w6
          have em : (ws i).length - bk = m := by omega
          have ew : putF' ws i ((ws i).take m) = ws' := funext fun y => by
            by_cases c : y = i
            · subst c
              rw [putF'_same, e', em]
            · rw [putF'_ne c, ej y c]
          rw [ew] at R9
          refine ⟨_, ws', ow', _, _, _, rfl, ⟨R9.fam, R9.src.mono (by omega), R9.so, R9.base, R9.hG, R9.oG, R9.hL, R9.oL, R9.hl, R9.ol, R9.li, R9.nsG, R9.nsL, R9.nGL, R9.nl, R9.nb⟩, fun y hy => ?_⟩
          rw [← ew]
          have := bd y hy
          by_cases c : y = i
          · subst c
            rw [putF'_same, List.length_take]
            omega
          · rw [putF'_ne c]
            omega
        · refine ⟨_, rfl, rfl, _, rfl, ite2 (fun c1 => ?_) (fun c1 => ?_)⟩
          · have RR5 := (rowOf R5).1
            have hl5 := R5.hl i i3
            refine ⟨_, rfl, _, rfl, _, rfl, LL, _, (i : Int), .ref (fL i), rfl, rfl, SqL.of R5.hL, at3 fL i3, r, B, xs, ts, st, ph, fL i, ws i, AvS.dom H5, rfl, RR5, hl5, by omega, fun b hb => hb, fun d ys H6 hd tld kd nd => ?_⟩
            have z6 := keV_dom kd
            have R6 := R5.same z6
            refine ⟨d, _, rfl, .inl (SqL.of hd), _, rfl, _, rfl, LL, _, (i : Int), .ref (fL i), rfl, rfl, SqL.of R6.hL, at3 fL i3, fL i, _, rfl, .inl (SqL.of (R6.hl i i3)), rfl, _, rfl, ?_⟩
            rw [tld.1, List.length_map]
            refine ite2 (fun c => absurd c (by simp)) (fun _ => ?_)
            refine ⟨_, rfl, _, rfl, _, rfl, LL, _, (i : Int), .ref (fL i), rfl, rfl, SqL.of R6.hL, at3 fL i3, r, B, xs, ts, st, ph, fL i, ws i, AvS.dom H6, rfl, (rowOf R6).1, R6.hl i i3, by omega, fun b hb => hb, fun g H7 Yg kg ng => ?_⟩
            have z7 := keV_dom kg
            have R7 := R6.same z7
            refine ⟨_, rfl, _, rfl, LG, _, (i : Int), .ref (pC i), rfl, rfl, SqL.of R7.hG, at3 pC i3, ne_pl Yg (R7.fam.av i3).1 ⟨_, rfl, ?_⟩⟩
            rw [decide_eq_true rfl]
            refine iteF ?_
            refine ⟨_, rfl, playing_made (rowOf R7).1 fun p H8 Yp _ z8 np => ⟨p, _, ts, st, ph, [], rfl, Yp, Nat.zero_le _, fun la HA sha zA' nla => ⟨_, rfl, (by show 0 ≤ sizeLine; decide), fun le nle => ?_⟩⟩⟩
            have ze := Same.upd (o := .lst (([] : List Bool).map wV)) nle
            have RA := (R7.same z8).same zA'
            have RE := RA.same ze
            refine ⟨pa, sp, le, xs, ts, st, ph, [], rfl, (RE.base _ _ nps hpaM).1, (RE.base _ _ nsp.symm hspM).1, (rowOf RE).2, ok, l12, s0, s1, p0, p1, upd_same, Nat.zero_le _, fun lb2 HB shb _ zB' nlb2 => ⟨shW_eq (((sha.same Fr.le).same ze).same zB') (shb.same Fr.le), fun H' e' => ⟨_, rfl, iteF ?_⟩⟩⟩
            have RF := (RE.same zB').same e'
            exact ⟨fL, ws, ow, _, _, _, rfl, ⟨RF.fam, RF.src.mono (by omega), RF.so, RF.base, RF.hG, RF.oG, RF.hL, RF.oL, RF.hl, RF.ol, RF.li, RF.nsG, RF.nsL, RF.nGL, RF.nl, RF.nb⟩, fun y hy => Nat.le_trans (bd y hy) (by omega)⟩
          · have hl5 := R5.hl i i3
            refine ⟨_, rfl, _, rfl, _, rfl, LL, _, (i : Int), .ref (fL i), rfl, rfl, SqL.of R5.hL, at3 fL i3, pa, sp, fL i, xs, ts, st, ph, ws i, rfl, (R5.base _ _ nps hpaM).1, (R5.base _ _ nsp.symm hspM).1, (rowOf R5).2, ok, l12, s0, s1, p0, p1, hl5, by omega, fun la H6 sha nwa z6 nla => ?_⟩
            obtain ⟨la', a, c, r', xs', B', bx', e, h1, h2, h3, h4, h5⟩ := sha.same Fr.le
            cases e
            have R6 := R5.same z6
            have na5 := nwa _ _ h1
            have oa := (R5.new na5).1
            refine ⟨la, _, 0, .ref a, rfl, rfl, SqL.of h1, rfl, ?_⟩
            refine ⟨_, rfl, _, rfl, _, rfl, _, rfl, LL, _, (i : Int), .ref (fL i), rfl, rfl, SqL.of R6.hL, at3 fL i3, fL i, _, rfl, .inl (SqL.of (R6.hl i i3)), _, _, rfl, rfl, wide_mul (a := 20) (b := 100) (Nat.lt_of_le_of_lt (show st.natAbs ≤ 1000 by omega) (by decide)) (Nat.lt_of_le_of_lt (show ((((ws i).map wV).length : Nat) : Int).natAbs ≤ 10000 by rw [List.length_map]; omega) (by decide)) (by decide) (by decide) (by decide), _, _, rfl, rfl, _, _, rfl, ?_⟩
            obtain ⟨Y, nay⟩ := R6.fam.av i3
            obtain ⟨dx, rr', aw, ah, hp⟩ := Y.ob
            refine ⟨_, rfl, _, rfl, LG, _, (i : Int), .ref (pC i), rfl, rfl, SqL.of R6.hG, at3 pC i3, pC i, dx, _, rfl, hp, plF_no _ _ _ (by decide +kernel) (by decide +kernel) (by decide +kernel), _, rfl, pC i, oth H6 (ow i), ts, st, ph, ws i, up, rfl, Y, by omega, nay, fun x H7 tld Y' k' => ?_⟩
            obtain ⟨ws', ow', F', e', ej, S⟩ := Fam.req2 R6.fam i3 Y' k'
            have R7 := R6.stp F' S
            have ha7 := (S _ _ h2 oa).1
            have et : ph + st * ((((ws i).map wV).length : Nat) : Int) = ph + ((ws i).length : Int) * st := by rw [List.length_map, Int.mul_comm]
            have ins := plA_in ok s0 s1 p0 p1 (ws i) (ws i).length (by omega)
            rw [List.take_length] at ins
            refine ⟨_, rfl, _, rfl, _, rfl, _, rfl, sp, a, xs, xs', ts, plA ts st ph (ws i), _, up, rfl, (R7.base _ _ nsp.symm hspM).1, (rowOf R7).2, ha7, h3.nl k'.nl, ins, by omega, fun q y l2 ys2 H8 hq tq hl2 hs2 z8 nq nl2 => ?_⟩
            rw [et] at tq
            refine ⟨q, _, 1, y, rfl, rfl, SqT.of hq, rfl, _, _, (tld.same z8).dp, tq.dp, outD_sh _ _ _, outD_sh _ _ _, ?_⟩
            rw [outD_eq]
            refine ⟨_, rfl, iteF ?_⟩
            have R8 := R7.same z8
            refine ⟨_, rfl, _, rfl, LL, _, (i : Int), .ref (fL i), rfl, rfl, SqL.of R8.hL, at3 fL i3, .inl ⟨rfl, _, SqL.of (R8.hl i i3)⟩, _, rfl, fL i, _, _, rfl, rfl, R8.hl i i3, small1 (by rw [List.length_map]; omega), ?_⟩
            have R9 := R8.app i3 (us := ws i ++ [up])
            have ew : putF' ws i (ws i ++ [up]) = ws' := funext fun y => by
              by_cases c : y = i
              · subst c
                rw [putF'_same, e']
              · rw [putF'_ne c, ej y c]
            rw [ew, List.map_append] at R9
            refine ⟨fL, ws', ow', _, _, _, rfl, ⟨R9.fam, R9.src.mono (by omega), R9.so, R9.base, R9.hG, R9.oG, R9.hL, R9.oL, R9.hl, R9.ol, R9.li, R9.nsG, R9.nsL, R9.nGL, R9.nl, R9.nb⟩, fun y hy => ?_⟩
            rw [← ew]
            have := bd y hy
            by_cases c : y = i
            · subst c
              rw [putF'_same, List.length_append, List.length_singleton]
              omega
            · rw [putF'_ne c]
              omega
      · clear bd bi R R3 R4 R5
        rintro σ2 HA ⟨fL, ws, ow, v13, v14, v15, rfl, R, bd⟩
        have dead : ∀ {H0 H1 H2 : Hp} {D : Addr} {us : List V}, Same H0 H1 → H1 D = some (.lst us) → ∀ b, H1 b = none → (upd H0 D (.lst [])) b = none := fun {H0 H1 H2 D us} z e b hb => by
          rw [upd_ne (fun q => by rw [q, e] at hb; cases hb)]
          exact none_of z hb
        refine ⟨_, rfl, LG, rfl, ⟨_, SqL.of R.hG⟩, fun D1 hD1 => ?_⟩
        refine lc_list (K := K) (a := LG) (xs := [.ref (pC 0), .ref (pC 1), .ref (pC 2)]) (fun j Hx => ∃ us, Hx D1 = some (.lst us) ∧ us.length = j ∧ (∀ y x, us[y]? = some x → ShW L.c_Row (Fr (upd HA D1 (.lst [])) Hx) x ts st ph (ws y)) ∧ Same HA Hx)
          ⟨[], upd_same, rfl, fun y x e => (by cases e), Same.upd hD1⟩ (fun j Hx _ ⟨_, _, _, _, z⟩ => SqL.of (z _ _ R.hG)) ?_ ?_
        · rintro y x Hx hx ⟨us, hus, ul, hsh, z⟩
          obtain ⟨y3, rfl⟩ : y < 3 ∧ x = .ref (pC y) := by
            match y, hx with
            | 0, hx => exact ⟨by decide, (Option.some.inj hx).symm⟩
            | 1, hx => exact ⟨by decide, (Option.some.inj hx).symm⟩
            | 2, hx => exact ⟨by decide, (Option.some.inj hx).symm⟩
          have Rx := R.same z
          refine ⟨rfl, tYes_of ⟨_, rfl, pC y, _, ts, st, ph, ws y, rfl, (Rx.fam.av y3).1, by have := bd y y3; omega, fun la HB sha zB nla => ⟨_, zB _ _ hus, small1 (by omega), us ++ [.ref la], upd_same, by rw [List.length_append, ul]; rfl, fun y' x' e => ?_, fun b o e => by rw [upd_ne (ne_of_none e hD1)]; exact zB _ _ (z _ _ e)⟩⟩⟩
          have kp : Same (Fr (upd HA D1 (.lst [])) HB) (Fr (upd HA D1 (.lst [])) (upd HB D1 (.lst (us ++ [.ref la])))) := Fr.kp Kp.upd (by rw [upd_same]; exact fun q => nomatch q) (zB _ _ hus)
          by_cases c : y' < us.length
          · rw [List.getElem?_append_left c] at e
            exact ((hsh y' x' e).same (Fr.same zB)).same kp
          · have ey : y' = y := by
              have := (List.getElem?_eq_some_iff.mp e).1
              rw [List.length_append, List.length_singleton] at this
              omega
            subst ey
            rw [List.getElem?_append_right (by omega), ul, Nat.sub_self] at e
            cases e
            exact (sha.same (Fr.base' (dead (H2 := HB) z hus))).same kp
        rintro HB ⟨us, hus, ul, hsh, zB⟩
        have hsh := fun y x e => (hsh y x e).same Fr.le
        have RB := R.same zB
        refine ⟨_, rfl, LL, rfl, ⟨_, SqL.of RB.hL⟩, fun D2 hD2 => ?_⟩
        refine lc_list (K := K) (a := LL) (xs := [.ref (fL 0), .ref (fL 1), .ref (fL 2)]) (fun j Hx => ∃ us, Hx D2 = some (.lst us) ∧ us.length = j ∧ (∀ y x, us[y]? = some x → ShW L.c_Row (Fr (upd HB D2 (.lst [])) Hx) x ts st ph (ws y)) ∧ Same HB Hx)
          ⟨[], upd_same, rfl, fun y x e => (by cases e), Same.upd hD2⟩ (fun j Hx _ ⟨_, _, _, _, z⟩ => SqL.of (z _ _ RB.hL)) ?_ ?_
        · rintro y x Hx hx ⟨us, hus, ul, hsh, z⟩
          obtain ⟨y3, rfl⟩ : y < 3 ∧ x = .ref (fL y) := by
            match y, hx with
            | 0, hx => exact ⟨by decide, (Option.some.inj hx).symm⟩
            | 1, hx => exact ⟨by decide, (Option.some.inj hx).symm⟩
            | 2, hx => exact ⟨by decide, (Option.some.inj hx).symm⟩
          have Rx := RB.same z
          refine ⟨rfl, tYes_of ⟨_, rfl, _, rfl, pa, sp, fL y, xs, ts, st, ph, ws y, rfl, (Rx.base _ _ nps hpaM).1, (Rx.base _ _ nsp.symm hspM).1, (rowOf Rx).2, ok, l12, s0, s1, p0, p1, Rx.hl y y3, by have := bd y y3; omega, fun la HC sha _ zC nla => ⟨_, zC _ _ hus, small1 (by omega), us ++ [.ref la], upd_same, by rw [List.length_append, ul]; rfl, fun y' x' e => ?_, fun b o e => by rw [upd_ne (ne_of_none e hD2)]; exact zC _ _ (z _ _ e)⟩⟩⟩
          have kp : Same (Fr (upd HB D2 (.lst [])) HC) (Fr (upd HB D2 (.lst [])) (upd HC D2 (.lst (us ++ [.ref la])))) := Fr.kp Kp.upd (by rw [upd_same]; exact fun q => nomatch q) (zC _ _ hus)
          by_cases c : y' < us.length
          · rw [List.getElem?_append_left c] at e
            exact ((hsh y' x' e).same (Fr.same zC)).same kp
          · have ey : y' = y := by
              have := (List.getElem?_eq_some_iff.mp e).1
              rw [List.length_append, List.length_singleton] at this
              omega
            subst ey
            rw [List.getElem?_append_right (by omega), ul, Nat.sub_self] at e
            cases e
            exact (sha.same (Fr.base' (dead (H2 := HC) z hus))).same kp
        rintro HC ⟨vs, hvs, vl, hvh, zC⟩
        have RC := RB.same zC
        refine ⟨⟨D1, D2, us, vs, rfl, rfl, zC _ _ hus, hvs, ⟨by rw [ul, vl]; rfl, fun y x x' e e' => shW_eq ((hsh y x e).same zC) ((hvh y x' e').same Fr.le)⟩⟩, fun HD zD => ⟨_, rfl, iteF ?_⟩⟩
        have RD := RC.same zD
        -- equal exactly if the logs are
        obtain ⟨Y0, _⟩ := RD.fam.av (i := 0) (by decide)
        obtain ⟨Y1, _⟩ := RD.fam.av (i := 1) (by decide)
        obtain ⟨Y2, _⟩ := RD.fam.av (i := 2) (by decide)
        have pe : ∀ u v : List Bool, decide ((((ts, st, ph), u) : PDat) = ((ts, st, ph), v)) = decide (u = v) := fun u v => by
          rw [decide_eq_decide]
          exact ⟨fun e => congrArg (fun z : PDat => z.2) e, fun e => by rw [e]⟩
        refine ⟨_, rfl, LG, _, 0, .ref (pC 0), rfl, rfl, SqL.of RD.hG, rfl, _, rfl, LG, _, 1, .ref (pC 1), rfl, rfl, SqL.of RD.hG, rfl, eq_pl Y0 Y1 ?_⟩
        refine ⟨_, rfl, LG, _, 1, .ref (pC 1), rfl, rfl, SqL.of RD.hG, rfl, _, rfl, LG, _, 2, .ref (pC 2), rfl, rfl, SqL.of RD.hG, rfl, eq_pl Y1 Y2 ⟨(by show 2 ≤ sizeLine; decide), fun t1 nt1 => ?_⟩⟩
        rw [pe, pe]
        have sT1 := Same.upd (o := .tup [.bl (decide (ws 0 = ws 1)), .bl (decide (ws 1 = ws 2))]) nt1
        have RE := RD.same sT1
        refine ⟨_, rfl, LL, _, 0, .ref (fL 0), rfl, rfl, SqL.of RE.hL, rfl, _, rfl, LL, _, 1, .ref (fL 1), rfl, rfl, SqL.of RE.hL, rfl, _, _, Dp.ws (RE.hl 0 (by decide)), Dp.ws (RE.hl 1 (by decide)), ws_sh _, ws_sh _, ?_⟩
        rw [ws_eq]
        refine ⟨_, rfl, LL, _, 1, .ref (fL 1), rfl, rfl, SqL.of RE.hL, rfl, _, rfl, LL, _, 2, .ref (fL 2), rfl, rfl, SqL.of RE.hL, rfl, _, _, Dp.ws (RE.hl 1 (by decide)), Dp.ws (RE.hl 2 (by decide)), ws_sh _, ws_sh _, ?_⟩
        rw [ws_eq]
        refine ⟨(by show 2 ≤ sizeLine; decide), fun t2 nt2 => ?_⟩
        have sT2 := Same.upd (o := .tup [.bl (decide (ws 0 = ws 1)), .bl (decide (ws 1 = ws 2))]) nt2
        have RF := RE.same sT2
        generalize hb1 : decide (ws 0 = ws 1) = b1 at sT1 sT2 RE RF ⊢
        generalize hb2 : decide (ws 1 = ws 2) = b2 at sT1 sT2 RE RF ⊢
        refine ⟨.tuple [.bool b1, .bool b2], .tuple [.bool b1, .bool b2], .tup (SqT.of (sT2 _ _ upd_same)) (.cons (.bl _) (.cons (.bl _) .nil)), .tup (SqT.of upd_same) (.cons (.bl _) (.cons (.bl _) .nil)), ?_, ?_, false, ?_, iteF ?_⟩
        · simp [SeqAt.shaped, PyData.canLay0, PyData.canLayAll0, PyData.depth, PyData.depthAll]
        · simp [SeqAt.shaped, PyData.canLay0, PyData.canLayAll0, PyData.depth, PyData.depthAll]
        · simp [PyData.eqv, PyData.eqvAll]
        · exact ⟨fL, ws, ow, _, _, _, _, _, _, _, rfl, RF, bd⟩
    · rintro σ Hx ⟨fL, ws, ow, v9, v10, v11, v12, v13, v14, v15, rfl, R, bd⟩
      exact k _ (R.src.mono (by omega)) fun b o nb e => (R.base b o nb (kM _ _ nb e)).1
theorem ok_wthreeright (T : LX K mg L) : Cal P w K mg base "_law_three_right" 10 L.f__law_three_right ["_law_source", "_law_parts"] (spWThree L.c_Row L.c_Playing) := T.d__law_three_right.cal fun fd F => fn_wthreeright T F
end
/-! ### k56: with the service up for long enough a row is whole -/
theorem stpS_open {b : Tri} {s : StD} {t : Int} {g : Bool} (h : (stpS b s t g).1 = "open") : g = false ∧ (stpS b s t g).2 = t := by
  unfold stpS at h ⊢
  split at h
  · exfalso
    unfold okS at h
    split at h
    · exact sH_O h
    · exact sC_O h
  · rename_i c
    rw [if_neg c]
    refine ⟨by simpa using c, ?_⟩
    unfold badS at h ⊢
    split at h
    · exfalso
      rename_i q
      have h : (hfS s).1 = "open" → False := fun z => by rw [q.1] at z; exact sC_O z
      exact sC_O ‹_›
    · rename_i q
      rw [if_neg q]
theorem plA_len {ts : List Tri} {st ph : Int} {ws : List Bool} : (plA ts st ph ws).length = ts.length := (plA_ok ts st ph ws).1
/-- a breaker is open since a request that was -/
theorem plA_opn (ts : List Tri) (st ph : Int) (s0 : 1 ≤ st) : ∀ (m : Nat) (ws : List Bool), ws.length = m → ∀ (i : Nat) (s : StD), (plA ts st ph ws)[i]? = some s → s.1 = "open" → s.2 + st ≤ ph + (ws.length : Int) * st
  | 0, ws, hw, i, s, hs, ho => by
    rw [List.eq_nil_of_length_eq_zero hw, plA_nil] at hs
    have := List.eq_of_mem_replicate (List.mem_of_getElem? hs)
    subst this
    exact absurd ho sC_O
  | m + 1, ws, hw, i, s, hs, ho => by
    obtain ⟨us, u, rfl⟩ : ∃ us u, ws = us ++ [u] := by
      rcases List.eq_nil_or_concat ws with rfl | ⟨us, u, rfl⟩
      · cases hw
      · exact ⟨us, u, by rw [List.concat_eq_append]⟩
    rw [List.length_append, List.length_singleton] at hw
    have il : i < ts.length := by
      have := (List.getElem?_eq_some_iff.mp hs).1
      rwa [plA_len] at this
    have eb : ts[i]? = some ts[i] := List.getElem?_eq_getElem il
    obtain ⟨s1, hs1⟩ : ∃ s1, (plA ts st ph us)[i]? = some s1 := ⟨_, List.getElem?_eq_getElem (by rw [plA_len]; exact il)⟩
    have ih := plA_opn ts st ph s0 m us (by omega) i s1 hs1
    have el : (((us ++ [u]).length : Nat) : Int) * st = (us.length : Int) * st + st := by
      rw [List.length_append, List.length_singleton, Int.natCast_add, Int.add_mul]
      omega
    rw [plA_app, sntS_get eb hs1] at hs
    rw [el]
    split at hs
    · cases hs
      have := (stpS_open ho).2
      omega
    · cases hs
      have := ih ho
      omega
def wtN : List Tri → Nat
  | [] => 0
  | b :: r => b.2.1.toNat + wtN r
def suN : List Tri → Nat
  | [] => 0
  | b :: r => b.2.2.toNat + suN r
theorem wtN_drop : ∀ {ts : List Tri} {j : Nat} {b : Tri}, ts[j]? = some b → wtN (ts.drop j) = b.2.1.toNat + wtN (ts.drop (j + 1))
  | b' :: r, 0, b, h => by
    cases h
    rfl
  | b' :: r, j + 1, b, h => by
    have h : r[j]? = some b := h
    exact wtN_drop (ts := r) (j := j) h
theorem suN_mem : ∀ {ts : List Tri} {b : Tri}, b ∈ ts → b.2.2.toNat ≤ suN ts
  | c :: r, b, h => by
    rcases List.mem_cons.mp h with rfl | h
    · show _ ≤ b.2.2.toNat + suN r
      omega
    · have := suN_mem h
      show _ ≤ c.2.2.toNat + suN r
      omega
theorem lng_nat : ∀ {ts : List Tri}, (∀ b ∈ ts, OkT b) → lngT ts = ((wtN ts + suN ts : Nat) : Int)
  | [], _ => rfl
  | b :: r, h => by
    obtain ⟨_, _, b3, _, b5, _⟩ := h b (List.mem_cons_self ..)
    have := lng_nat (ts := r) fun c hc => h c (List.mem_cons_of_mem _ hc)
    show (b.2.1 + b.2.2) + lngT r = (((b.2.1.toNat + wtN r) + (b.2.2.toNat + suN r) : Nat) : Int)
    omega
section
variable {ts : List Tri} {st ph : Int} {ws : List Bool}
/-- the states behind m more requests with the service up -/
abbrev upS (ts : List Tri) (st ph : Int) (ws : List Bool) (m : Nat) : List StD := plA ts st ph (ws ++ List.replicate m true)
theorem upS_len {m : Nat} : (upS ts st ph ws m).length = ts.length := plA_len
theorem upS_next {m : Nat} : upS ts st ph ws (m + 1) = sntS ts (upS ts st ph ws m) (ph + ((ws.length + m : Nat) : Int) * st) true := by
  show plA ts st ph (ws ++ List.replicate (m + 1) true) = _
  rw [List.replicate_succ', ← List.append_assoc, plA_app, List.length_append, List.length_replicate]
theorem upS_opn (s0 : 1 ≤ st) {m i : Nat} {s : StD} (h : (upS ts st ph ws m)[i]? = some s) (o : s.1 = "open") : s.2 + st ≤ ph + ((ws.length + m : Nat) : Int) * st := by
  have := plA_opn ts st ph s0 _ _ rfl i s h o
  rw [List.length_append, List.length_replicate] at this
  exact this
/-- behind the waits of the breakers from j on none of them rejects -/
theorem no_rej (s0 : 1 ≤ st) (ok : ∀ b ∈ ts, OkT b) : ∀ (d j : Nat), ts.length - j = d → ∀ m, wtN (ts.drop j) ≤ m → ∀ (i : Nat) (b : Tri) (s : StD), j ≤ i → ts[i]? = some b → (upS ts st ph ws m)[i]? = some s → psB b s (ph + ((ws.length + m : Nat) : Int) * st)
  | 0, j, hd, m, hm, i, b, s, ji, eb, es => absurd (List.getElem?_eq_some_iff.mp eb).1 (by omega)
  | d + 1, j, hd, m, hm, i, b, s, ji, eb, es => by
    have ih := no_rej s0 ok d (j + 1) (by omega)
    obtain ⟨c, ec⟩ : ∃ c, ts[j]? = some c := ⟨_, List.getElem?_eq_getElem (by omega)⟩
    have ew := wtN_drop ec
    by_cases q : j = i
    · subst q
      have cb : c = b := Option.some.inj (ec.symm.trans eb)
      rw [cb] at ec ew
      obtain ⟨m1, hm1⟩ : ∃ m1, m1 = wtN (ts.drop (j + 1)) := ⟨_, rfl⟩
      rw [← hm1] at ew ih
      have cw := (ok b (List.mem_of_getElem? ec)).2.2.1
      have keep : ∀ (k : Nat) (s : StD), (upS ts st ph ws (m1 + k))[j]? = some s → s.1 = "open" → s.2 + st ≤ ph + ((ws.length + m1 : Nat) : Int) * st := fun k => by
        induction k with
        | zero => exact fun s h o => upS_opn s0 h o
        | succ k ih2 =>
          intro s h o
          obtain ⟨s1, h1⟩ : ∃ s1, (upS ts st ph ws (m1 + k))[j]? = some s1 := ⟨_, List.getElem?_eq_getElem (by rw [upS_len]; omega)⟩
          rw [show m1 + (k + 1) = (m1 + k) + 1 by omega, upS_next, sntS_get ec h1] at h
          split at h
          · rename_i lt
            cases h
            have kn : kOf ts (upS ts st ph ws (m1 + k)) (ph + ((ws.length + (m1 + k) : Nat) : Int) * st) = ts.length := by
              have le := kOf_le ts (upS ts st ph ws (m1 + k)) (ph + ((ws.length + (m1 + k) : Nat) : Int) * st)
              refine Classical.byContradiction fun ne => ?_
              have l1 : kOf ts (upS ts st ph ws (m1 + k)) (ph + ((ws.length + (m1 + k) : Nat) : Int) * st) < ts.length := by omega
              have x1 := List.getElem?_eq_getElem l1
              have x2 := List.getElem?_eq_getElem (l := upS ts st ph ws (m1 + k)) (show kOf ts (upS ts st ph ws (m1 + k)) (ph + ((ws.length + (m1 + k) : Nat) : Int) * st) < (upS ts st ph ws (m1 + k)).length by rw [upS_len]; exact l1)
              exact kOf_rj x1 x2 (ih (m1 + k) (by omega) _ _ _ (by omega) x1 x2)
            have := (stpS_open o).1
            rw [kn] at this
            simp at this
          · cases h
            exact ih2 _ h1 o
      intro o
      obtain ⟨k, rfl⟩ : ∃ k, m = m1 + k := ⟨m - m1, by omega⟩
      have := keep k s es o
      have e2 : ((ws.length + (m1 + k) : Nat) : Int) * st = ((ws.length + m1 : Nat) : Int) * st + (k : Int) * st := by
        rw [← Int.add_mul]
        congr 1
        omega
      have e3 : (k : Int) ≤ (k : Int) * st := by
        have := Int.mul_le_mul_of_nonneg_left s0 (show (0 : Int) ≤ (k : Int) by omega)
        omega
      rw [e2]
      omega
    · exact ih m (by omega) i b s (by omega) eb es
theorem all_pass (s0 : 1 ≤ st) (ok : ∀ b ∈ ts, OkT b) {m : Nat} (hm : wtN ts ≤ m) : kOf ts (upS ts st ph ws m) (ph + ((ws.length + m : Nat) : Int) * st) = ts.length := by
  have le := kOf_le ts (upS ts st ph ws m) (ph + ((ws.length + m : Nat) : Int) * st)
  refine Classical.byContradiction fun ne => ?_
  have l1 : kOf ts (upS ts st ph ws m) (ph + ((ws.length + m : Nat) : Int) * st) < ts.length := by omega
  have x1 := List.getElem?_eq_getElem l1
  have x2 := List.getElem?_eq_getElem (l := upS ts st ph ws m) (show kOf ts (upS ts st ph ws m) (ph + ((ws.length + m : Nat) : Int) * st) < (upS ts st ph ws m).length by rw [upS_len]; exact l1)
  exact kOf_rj x1 x2 (no_rej s0 ok ts.length 0 (by omega) m hm _ _ _ (Nat.zero_le _) x1 x2)
theorem heal (s0 : 1 ≤ st) (ok : ∀ b ∈ ts, OkT b) (nn : ∀ s ∈ upS ts st ph ws (wtN ts), okW s ∧ 0 ≤ s.2) {i : Nat} {b : Tri} (eb : ts[i]? = some b) : ∀ (k : Nat) (s : StD), (upS ts st ph ws (wtN ts + (k + 1)))[i]? = some s → s = (("closed", 0) : StD) ∨ (s.1 = "half" ∧ ((k + 1 : Nat) : Int) ≤ s.2 ∧ s.2 < b.2.2) := fun k => by
  have il := (List.getElem?_eq_some_iff.mp eb).1
  have step : ∀ (m : Nat) (s s1 : StD), wtN ts ≤ m → (upS ts st ph ws (m + 1))[i]? = some s → (upS ts st ph ws m)[i]? = some s1 → s = okS b s1 := fun m s s1 hm h h1 => by
    rw [upS_next, sntS_get eb h1, all_pass s0 ok hm, if_pos il] at h
    have h := (Option.some.inj h).symm
    rw [h, decide_eq_true rfl]
    rfl
  induction k with
  | zero =>
    intro s h
    obtain ⟨s1, h1⟩ : ∃ s1, (upS ts st ph ws (wtN ts))[i]? = some s1 := ⟨_, List.getElem?_eq_getElem (by rw [upS_len]; exact il)⟩
    obtain ⟨w1, w2⟩ := nn s1 (List.mem_of_getElem? h1)
    rw [step _ s s1 (Nat.le_refl _) h h1]
    rcases w1 with w | w | w
    · exact .inl (okS_closed w)
    · rw [okS_open w]
      split
      · exact .inr ⟨rfl, by show ((0 + 1 : Nat) : Int) ≤ 1; decide, by assumption⟩
      · exact .inl rfl
    · rw [okS_half w]
      split
      · exact .inr ⟨rfl, by show ((0 + 1 : Nat) : Int) ≤ s1.2 + 1; omega, by assumption⟩
      · exact .inl rfl
  | succ k ih =>
    intro s h
    obtain ⟨s1, h1⟩ : ∃ s1, (upS ts st ph ws (wtN ts + (k + 1)))[i]? = some s1 := ⟨_, List.getElem?_eq_getElem (by rw [upS_len]; exact il)⟩
    rw [step (wtN ts + (k + 1)) s s1 (by omega) h h1]
    rcases ih s1 h1 with rfl | ⟨w, w1, w2⟩
    · exact .inl (okS_closed rfl)
    · rw [okS_half w]
      split
      · exact .inr ⟨rfl, by show ((k + 1 + 1 : Nat) : Int) ≤ s1.2 + 1; omega, by assumption⟩
      · exact .inl rfl
/-- whole -/
theorem up_whole (s0 : 1 ≤ st) (ok : ∀ b ∈ ts, OkT b) (nn : ∀ s ∈ upS ts st ph ws (wtN ts), okW s ∧ 0 ≤ s.2) : plA ts st ph (ws ++ List.replicate (wtN ts + suN ts + 1) true) = List.replicate ts.length (("closed", 0) : StD) := by
  refine List.ext_getElem? fun i => ?_
  by_cases c : i < ts.length
  · have eb : ts[i]? = some ts[i] := List.getElem?_eq_getElem c
    have bm := suN_mem (List.mem_of_getElem? eb)
    have bo := (ok _ (List.mem_of_getElem? eb)).2.2.2.2.1
    obtain ⟨s, hs⟩ : ∃ s, (upS ts st ph ws (wtN ts + (suN ts + 1)))[i]? = some s := ⟨_, List.getElem?_eq_getElem (by rw [upS_len]; exact c)⟩
    have hl := heal s0 ok nn eb (suN ts) s hs
    rw [show wtN ts + suN ts + 1 = wtN ts + (suN ts + 1) by omega]
    show (upS ts st ph ws (wtN ts + (suN ts + 1)))[i]? = _
    rw [hs, List.getElem?_replicate, if_pos c]
    rcases hl with rfl | ⟨_, w1, w2⟩
    · rfl
    · exfalso
      omega
  · rw [List.getElem?_eq_none (by rw [plA_len]; omega), List.getElem?_eq_none (by rw [List.length_replicate]; omega)]
end
theorem wtsu_le : ∀ {ts : List Tri}, (∀ t ∈ ts, OkF 9 t) → wtN ts + suN ts ≤ 13 * ts.length
  | [], _ => Nat.le_refl _
  | b :: r, h => by
    obtain ⟨_, b1, b2⟩ := h b (List.mem_cons_self ..)
    have := wtsu_le (ts := r) fun c hc => h c (List.mem_cons_of_mem _ hc)
    show (b.2.1.toNat + wtN r) + (b.2.2.toNat + suN r) ≤ _
    rw [List.length_cons]
    omega
/-! ### k56: the law -/
def spLaw (K : PySem.W.Frag) : Sp := fun vs H Q _ => ∃ (a : Addr) (ns : List Int), vs = [.ref a] ∧ SqL K H a (ns.map V.int) ∧ ns.length ≤ 63 ∧ ∀ H', Q (.bl true) H'
section
variable {P : Program} {w : World} {K : PySem.W.Frag} {mg : Str → Option Value} {base : Heap} {L : LA}
abbrev N_law : List Str := ["_law_script", "_law_cell", "_law_source", "_law_specs_here", "_law_step", "_law_row", "_law_game", "_law_other", "_law_stranger", "_law_word", "_law_kept", "_law_parts", "_law_repeat", "_law_thing"]
theorem sc_law : FnScope N_law ["_law_script"] (defScope st_law) := ⟨rfl, rfl, rfl, by decide +kernel, rfl, by decide +kernel, by decide +kernel⟩
theorem ok_law {aLaw : Addr} {fd : FuncData} (F : Fun K "law" "law" st_law aLaw fd) (T : LX K mg L) : FnOk P w K mg base CX0 12 aLaw fd ["_law_script"] (spLaw K) := by
  have G_wsourceof := ok_wsourceof (P := P) (w := w) (base := base) T
  have G_wwords := ok_wwords (P := P) (w := w) (base := base) T
  have G_Playingrequest := ok_Playingrequest (P := P) (w := w) (base := base) T
  have G_Playingstatelist := ok_Playingstatelist (P := P) (w := w) (base := base) T
  have G_Roweq := ok_Roweq (P := P) (w := w) (base := base) T
  have G_wcellat := ok_wcellat (P := P) (w := w) (base := base) T
  have G_wspecs := ok_wspecs (P := P) (w := w) (base := base) T
  have G_Playingeq := ok_Playingeq (P := P) (w := w) (base := base) T
  have G_Playinglog := ok_Playinglog (P := P) (w := w) (base := base) T
  have G_wdraw := ok_wdraw (P := P) (w := w) (base := base) T
  have G_wlogsright := ok_wlogsright (P := P) (w := w) (base := base) T
  have G_wlong := ok_wlong (P := P) (w := w) (base := base) T
  have G_Playingiswhole := ok_Playingiswhole (P := P) (w := w) (base := base) T
  have G_wchoice := ok_wchoice (P := P) (w := w) (base := base) T
  have G_wthreeright := ok_wthreeright (P := P) (w := w) (base := base) T
  have nd := sc_law.nd
  refine F.ok sc_law (fun vs H Q E h => ?_) (fun cdv A outer S H vs Q E hr h => ?_)
  · obtain ⟨a, ns, rfl, _⟩ := h
    rfl
  · obtain ⟨a, ns, rfl, hS, ln, k⟩ := h
    refine ⟨_, (pss_cons (ps_for PassesOwn.never rfl (pi_list (pe_op op_cat (pe_lst (pa_cons (pe_c G_wcellat (hr.mono (by decide)) rfl (pa_cons (pv 0) (pa_cons pe_int pa_nil))) pa_nil)) (pe_slice (r := rSlL K) sl_list (pv 0) (po_some pe_int) (po_some pe_int)))) (pg_name (i := 1) nd rfl (Or.inl rfl)) (pss_cons (ps_set (i := 2) nd rfl (Or.inl rfl) (pe_c G_wsourceof (hr.mono (by decide)) rfl (pa_cons (pv 1) pa_nil)))
       (pss_cons (ps_par (i := 3) (j := 4) (by rfl) nd rfl rfl (by decide) rfl rfl (pa_cons (pe_c G_wspecs (hr.mono (by decide)) rfl (pa_cons (pv 2) (pa_cons pe_int (pa_cons pe_int pa_nil)))) (pa_cons (pe_op op_add pe_int (pe_c G_wdraw (hr.mono (by decide)) rfl (pa_cons (pv 2) (pa_cons pe_int pa_nil)))) pa_nil)) (by rfl))
       (pss_cons (ps_set (i := 5) nd rfl (Or.inl rfl) (pe_mkRow T (hr.mono (by decide)) rfl (pa_cons (pv 3) (pa_cons (pv 4) pa_nil))))
       (pss_cons (ps_asg (pe_tup (pa_cons (pe_mkPlaying T (hr.mono (by decide)) rfl (pa_cons (pv 5) pa_nil)) (pa_cons (pe_mkPlaying T (hr.mono (by decide)) rfl (pa_cons (pe_mkRow T (hr.mono (by decide)) rfl (pa_cons (pv 3) (pa_cons (pv 4) pa_nil))) pa_nil)) pa_nil))) (pg_tup rfl (pgs_cons (pg_name (i := 6) nd rfl (Or.inr rfl)) (pgs_cons (pg_name (i := 7) nd rfl (Or.inl rfl)) pgs_nil))))
       (pss_cons (ps_set (i := 8) nd rfl (Or.inl rfl) (pe_mkPlaying T (hr.mono (by decide)) rfl (pa_cons (pe_mkRow_p_phase T (hr.mono (by decide)) rfl (pa_cons (pv 3) (pa_cons (pv 4) pa_nil)) (pk_cons pe_int pk_nil)) pa_nil)))
       (pss_cons (ps_for PassesOwn.never rfl (pi_list (pe_c G_wwords (hr.mono (by decide)) rfl (pa_cons (pv 2) (pa_cons pe_int pa_nil)))) (pg_name (i := 9) nd rfl (Or.inl rfl)) (pss_cons (ps_expr (G_Playingrequest.p_m1 T.cf_Playing.cl (hr.mono (by decide)) (pv 6) (pa_cons (pv 9) pa_nil)))
       (pss_cons (ps_if (PW.pt (pw_or (pt_cmpR (G_Playingeq.op_eq (hr.mono (by decide))) (pv 6) (pv 7) (nomark _)) (pw_or1 (pt_cmpR (G_Playingeq.op_eq (hr.mono (by decide))) (pv 6) (pv 8) (nomark _))))) (pss_one (ps_ret pe_bl)) pss_nil)
       (pss_cons (ps_set (i := 10) nd rfl (Or.inl rfl) (G_Playingstatelist.p_m0 T.cf_Playing.cl (hr.mono (by decide)) (pv 7)))
       (pss_cons (ps_expr (G_Playingrequest.p_m1 T.cf_Playing.cl (hr.mono (by decide)) (pv 7) (pa_cons (pv 9) pa_nil)))
       (pss_cons (ps_expr (G_Playingrequest.p_m1 T.cf_Playing.cl (hr.mono (by decide)) (pv 8) (pa_cons (pv 9) pa_nil)))
       (pss_one (ps_if (PW.pt (pw_or (pt_cmpR (G_Playingeq.op_ne (hr.mono (by decide)) T.cf_Playing.om T.cf_Playing.ne) (pv 6) (pv 7) (nomark _)) (pw_or (pt_cmpR op_ne (pe_callB call_len_seq (by rfl) T.b_len PySem.boot_len (pa_cons (pv 10) pa_nil)) (pe_callB call_len_seq (by rfl) T.b_len PySem.boot_len (pa_cons (pv 3) pa_nil)) (nomark _)) (pw_or1 (pt_cmpR (op_neD hr.units) (G_Playingstatelist.p_m0 T.cf_Playing.cl (hr.mono (by decide)) (pv 6)) (G_Playingstatelist.p_m0 T.cf_Playing.cl (hr.mono (by decide)) (pv 7)) (nomark _)))))) (pss_one (ps_ret pe_bl)) pss_nil))))))))
       (pss_cons (ps_if (pt_cmpR (op_neD hr.units) (pe_lc (own := [("_law_thing", 13)]) (g := gName 13) rfl nd (pi_tup (pe_tup (pa_cons pe_non (pa_cons pe_int (pa_cons (pv 5) (pa_cons (G_Playinglog.p_m0 T.cf_Playing.cl (hr.mono (by decide)) (pv 6)) (pa_cons pe_str (pa_cons (pv 8) pa_nil)))))))) (blkOk_by (own := [("_law_thing", 13)]) (N := N_law) (sc := defScope st_law) (by decide +kernel)) (fun _ _ _ _ _ => pg_name (i := 13) nd rfl (Or.inl rfl)) (fun _ _ _ _ _ => pts_one (pt_cmpR (G_Playingeq.op_eq2 (C2 := L.c_Row) (hr.mono (by decide)) (notF T.mo_Row_Playing)) (pv 6) (pv 13) (nomark _))) (fun _ _ _ _ _ => (pv 13))) (pe_lst pa_nil) (nomark _)) (pss_one (ps_ret pe_bl)) pss_nil)
       (pss_cons (ps_if (PW.pt (pw_or (pt_cmpR (G_Roweq.op_ne (hr.mono (by decide)) T.cf_Row.om T.cf_Row.ne) (pv 5) (pe_mkRow T (hr.mono (by decide)) rfl (pa_cons (pv 3) (pa_cons (pv 4) pa_nil))) (nomark _)) (pw_or1 (pt_cmpR (op_neD hr.units) (G_Playinglog.p_m0 T.cf_Playing.cl (hr.mono (by decide)) (pv 6)) (G_Playinglog.p_m0 T.cf_Playing.cl (hr.mono (by decide)) (pv 7)) (nomark _))))) (pss_one (ps_ret pe_bl)) pss_nil)
       (pss_cons (ps_set (i := 11) nd rfl (Or.inl rfl) (pe_tup (pa_cons (pv 3) (pa_cons (pv 4) (pa_cons (pe_c G_wdraw (hr.mono (by decide)) rfl (pa_cons (pv 2) (pa_cons (pe_c G_wchoice (hr.mono (by decide)) rfl (pa_cons (pv 2) (pa_cons (pe_lst (pa_cons pe_int (pa_cons pe_int (pa_cons (pe_op op_add (pe_op op_pow pe_int pe_int) pe_int) pa_nil)))) pa_nil))) pa_nil))) pa_nil)))))
       (pss_cons (ps_if (PW.pt (pw_or (pt_not (pt_val (pe_c G_wthreeright (hr.mono (by decide)) rfl (pa_cons (pv 2) (pa_cons (pv 11) pa_nil))))) (pw_or1 (pt_not (pt_val (pe_c G_wlogsright (hr.mono (by decide)) rfl (pa_cons (pv 2) (pa_cons (pv 11) pa_nil)))))))) (pss_one (ps_ret pe_bl)) pss_nil)
       (pss_cons (ps_if (pt_not (pt_val (pe_c G_wlogsright (hr.mono (by decide)) rfl (pa_cons (pv 2) (pa_cons (pe_tup (pa_cons (pe_lst pa_nil) (pa_cons (pv 4) (pa_cons (pe_ix (r := rIxT K) ix_tup (pv 11) pe_int (fun _ _ => rfl)) pa_nil)))) pa_nil))))) (pss_one (ps_ret pe_bl)) pss_nil)
       (pss_cons (ps_for PassesOwn.never rfl (pi_range1 rfl T.b_range (pa_cons (pe_c G_wlong (hr.mono (by decide)) rfl (pa_cons (pv 5) pa_nil)) pa_nil)) (pg_name (i := 12) nd rfl (Or.inl rfl)) (pss_one (ps_expr (G_Playingrequest.p_m1 T.cf_Playing.cl (hr.mono (by decide)) (pv 6) (pa_cons pe_str pa_nil)))))
       (pss_one (ps_if (PW.pt (pw_or (pt_not (pt_val (G_Playingiswhole.p_m0 T.cf_Playing.cl (hr.mono (by decide)) (pv 6)))) (pw_or1 (pt_cmpR (op_eqD hr.units) (G_Playinglog.p_m0 T.cf_Playing.cl (hr.mono (by decide)) (pv 7)) (G_Playinglog.p_m0 T.cf_Playing.cl (hr.mono (by decide)) (pv 6)) (nomark _))))) (pss_one (ps_ret pe_bl)) pss_nil)))))))))))))))
       (pss_one (ps_ret pe_bl))), ?_⟩
    refine ⟨_, rfl, a, ns, 0, rfl, hS, Int.le_refl _, fun z => ⟨(by show 1 ≤ sizeLine; decide), fun l1 hl1 => ?_⟩⟩
    have z1 : Same H (upd H l1 (.lst [.int z])) := Same.upd hl1
    refine ⟨_, rfl, 1, rfl, 4, rfl, a, ns.map V.int, rfl, z1.seq hS, fun l2 hl2 => ?_⟩
    refine ⟨l1, l2, _, _, rfl, rfl, (Same.upd hl2) _ _ upd_same, upd_same, small2 (by have := cutV_length (ns.map V.int) (some 1) (some 4); rw [List.length_map] at this; show 1 + _ ≤ 100000; omega), fun l3 hl3 => ?_⟩
    have items : ∀ v ∈ [V.int z] ++ cutV (ns.map V.int) (some 1) (some 4), ∃ c, v = .int c := fun v hv => by
      rcases List.mem_append.mp hv with hv | hv
      · exact ⟨z, by simpa using hv⟩
      · obtain ⟨c, _, e⟩ := List.mem_map.mp (List.mem_of_mem_drop (List.mem_of_mem_take hv))
        exact ⟨c, e.symm⟩
    generalize hit : [V.int z] ++ cutV (ns.map V.int) (some 1) (some 4) = its at items ⊢
    refine ⟨l3, rfl, ⟨_, SqL.of upd_same⟩, ?_⟩
    refine for_list (K := K) (a := l3) (xs := its) (fun i σ H2 => ∃ v1 v2 v3 v4 v5 v6 v7 v8 v9 v10 v11 v12 : Option V, σ = [some (.ref a), v1, v2, v3, v4, v5, v6, v7, v8, v9, v10, v11, v12, none] ∧ H2 l3 = some (.lst its))
      ⟨none, none, none, none, none, none, none, none, none, none, none, none, rfl, by rw [upd_same]⟩ (fun i σ H2 _ ⟨_, _, _, _, _, _, _, _, _, _, _, _, _, e⟩ => SqL.of e) ?_ ?_
    rotate_left
    · rintro σ H2 ⟨v1, v2, v3, v4, v5, v6, v7, v8, v9, v10, v11, v12, rfl, _⟩
      exact k _
    rintro i v σ H0 hi ⟨v1, v2, v3, v4, v5, v6, v7, v8, v9, v10, v11, v12, rfl, hL⟩
    obtain ⟨cc, rfl⟩ := items v (List.mem_of_getElem? hi)
    refine ⟨_, rfl, cc, rfl, fun s H1 hs0 y1 src1 => ?_⟩
    have nls : l3 ≠ s := ne_of_none hL hs0
    have hL1 := y1 _ _ hL
    refine ⟨_, rfl, s, 0, 4, 9, rfl, src1, by decide, by decide, by decide, by decide, by decide, fun la xa ts H2 hla hba okf lts src2 k2 nla => ⟨_, rfl, s, 4, _, rfl, by decide, by decide +kernel, src2, by decide, fun e1 H3 e10 e11 src3 k3 => ⟨_, _, rfl, rfl, ?_⟩⟩⟩
    obtain ⟨ys1, hy1⟩ := src1.has
    obtain ⟨ys2, hy2⟩ := src2.has
    obtain ⟨ys3, hy3⟩ := src3.has
    have okt : ∀ t ∈ ts, OkT t := fun t ht => (okf t ht).1
    have nlas : la ≠ s := fun e => by rw [e, hy1] at nla; cases nla
    have l12 : ts.length ≤ 12 := by omega
    have h3a := k3 _ _ nlas hla
    have b3a := hba.nl (Kp.nl k3 hy2)
    have hL3 := k3 _ _ nls (k2 _ _ nls hL1)
    have s0 : 1 ≤ 1 + e1 := by omega
    have s1 : 1 + e1 ≤ 1000 := by omega
    refine ⟨_, _, rfl, ?_⟩
    refine ⟨_, rfl, _, rfl, row_made (xs := xa) (ts := ts) h3a b3a okt l12 ⟨s0, by omega, by decide, by decide⟩ fun r B H4 R4 z4 nr4 => ?_⟩
    have F0 : Fam L.c_Row L.c_Playing H4 0 (fun _ => s) ts (1 + e1) (fun _ => 0) (fun _ => []) (fun _ => AvS.non) := Fam.nil
    refine ⟨_, rfl, playing_made R4 fun g H5 _ Yg z5 ng => ?_⟩
    obtain ⟨pA, hA, wA, oA, FA, eA1, eA2, eA3, _, SA⟩ := Fam.add3 F0 z5 (Yg (AvS.dom H4) fun b hb => hb) ng
    refine ⟨_, rfl, _, rfl, row_made (xs := xa) (ts := ts) ((z4.trans z5) _ _ h3a) (b3a.nl (NL.of (z4.trans z5))) okt l12 ⟨s0, by omega, by decide, by decide⟩ fun r2 B2 H6 R6 z6 nr6 => ?_⟩
    refine playing_made R6 fun o H7 _ Yo z7 no => ⟨(by show 2 ≤ sizeLine; decide), fun t nt => ?_⟩
    obtain ⟨pB, hB, wB, oB, FB, eB1, eB2, eB3, jB, SB⟩ := Fam.add3 (Fam.same FA z6) z7 (Yo (AvS.dom H6) fun b hb => hb) no
    have zt := Same.upd (o := .tup [.ref g, .ref o]) nt
    refine ⟨t, _, rfl, SqT.of upd_same, rfl, _, _, rfl, _, _, rfl, rfl, ?_⟩
    have z47 := (((z4.trans z5).trans z6).trans z7).trans zt
    refine ⟨_, rfl, _, rfl, rfl, rfl, row_made (xs := xa) (ts := ts) (z47 _ _ h3a) (b3a.nl (NL.of z47)) okt l12 ⟨s0, by omega, by decide, by decide⟩ fun r3 B3 H9 R9 z9 nr9 => ?_⟩
    refine playing_made R9 fun sg HA _ Ys zA ns' => ?_
    obtain ⟨pC, hC, wC, oC, FC, eC1, eC2, eC3, jC, SC⟩ := Fam.add3 (Fam.same (Fam.same FB zt) z9) zA (Ys (AvS.dom H9) fun b hb => hb) ns'
    have pg : pC 0 = g := (jC 0 (by decide)).1.trans ((jB 0 (by decide)).1.trans eA1)
    have po : pC 1 = o := (jC 1 (by decide)).1.trans eB1
    have hg0 : hC 0 = 0 := (jC 0 (by decide)).2.1.trans ((jB 0 (by decide)).2.1.trans eA2)
    have ho0 : hC 1 = 0 := (jC 1 (by decide)).2.1.trans eB2
    have wg0 : wC 0 = [] := (jC 0 (by decide)).2.2.trans ((jB 0 (by decide)).2.2.trans eA3)
    have wo0 : wC 1 = [] := (jC 1 (by decide)).2.2.trans eB3
    have S04 : Stp 0 (fun _ => s) H4 (fun _ => AvS.non) 3 pC HA oC := SA.trans ((Stp.same z6).trans (SB.trans ((Stp.same zt).trans ((Stp.same z9).trans SC))))
    have out0 : ∀ b, OutP 0 (fun _ => s) (fun _ => AvS.non) b := fun b => ⟨fun i hi => absurd hi (Nat.not_lt_zero _), fun i hi => absurd hi (Nat.not_lt_zero _)⟩
    have hs4 := z4 _ _ hy3
    have hsA := (S04 _ _ hs4 (out0 s)).1
    have outs := (S04 _ _ hs4 (out0 s)).2
    have srcA : Src HA s (0 + 60000 + 1101) := (src3.same z4).same S04.all
    refine ⟨_, rfl, s, _, 9, rfl, srcA, by decide, by decide, by decide, fun lw wd HB hlw wl srcB kB nlw => ?_⟩
    have FW := Fam.wr FC kB hsA outs.1
    have olw := FC.freshP nlw
    have nlws : lw ≠ s := (ne_of_none hsA nlw).symm
    have base : ∀ b u, b ≠ s → H4 b = some u → HB b = some u ∧ OutP 3 pC oC b := fun b u nb e => ⟨kB _ _ nb (S04 _ _ e (out0 b)).1, (S04 _ _ e (out0 b)).2⟩
    have wl45 : wd.length ≤ 45 := by omega
    refine ⟨lw, rfl, ⟨_, SqL.of hlw⟩, ?_⟩
    refine for_list (K := K) (a := lw) (xs := wd.map wV) (fun i σ Hx => ∃ v9 v10 : Option V, ∃ ws ow, σ = [some (.ref a), some (.int cc), some (.ref s), some (.ref la), some (.int (1 + e1)), some (.ref r), some (.ref g), some (.ref o), some (.ref sg), v9, v10, v11, v12, none] ∧
        Fam L.c_Row L.c_Playing Hx 3 pC ts (1 + e1) hC ws ow ∧ ws 0 = wd.take i ∧ ws 1 = wd.take i ∧ ws 2 = wd.take i ∧ Stp 3 pC HB oC 3 pC Hx ow)
      ⟨v9, v10, wC, oC, rfl, FW, wg0, wo0, eC3, Stp.same (.refl _)⟩ (fun i σ Hx _ ⟨_, _, _, _, _, _, _, _, _, S⟩ => SqL.of (S _ _ hlw olw).1) ?_ ?_
    · rintro i v σ Hx hv ⟨v9, v10, ws, ow, rfl, F, w0, w1, w2, S⟩
      rw [List.getElem?_map] at hv
      obtain ⟨up, hup, rfl⟩ := Option.map_eq_some_iff.mp hv
      have iL := (List.getElem?_eq_some_iff.mp hup).1
      have et : wd.take (i + 1) = wd.take i ++ [up] := by rw [List.take_add_one, hup]; rfl
      -- the first one
      obtain ⟨Y0, na0⟩ := F.av (i := 0) (by decide)
      rw [pg, hg0, w0] at Y0
      obtain ⟨dx, rr', aw, ah, hp⟩ := Y0.ob
      refine ⟨_, rfl, g, dx, _, rfl, hp, plF_no _ _ _ (by decide +kernel) (by decide +kernel) (by decide +kernel), _, rfl, g, oth Hx (ow 0), ts, 1 + e1, 0, wd.take i, up, rfl, Y0, by rw [List.length_take]; omega, na0, fun x HC _ YC kC => ?_⟩
      rw [← pg, ← hg0] at YC
      obtain ⟨ws', ow', F1, a0, aj, S1⟩ := Fam.req3 F (by decide) YC kC
      have b1 := (aj 1 (by decide)).trans w1
      have b2 := (aj 2 (by decide)).trans w2
      obtain ⟨Yg1, _⟩ := F1.av (i := 0) (by decide)
      obtain ⟨Yo1, nao⟩ := F1.av (i := 1) (by decide)
      obtain ⟨Ys1, _⟩ := F1.av (i := 2) (by decide)
      rw [pg, hg0, a0] at Yg1
      rw [po, ho0, b1] at Yo1
      rw [eC1, eC2, b2] at Ys1
      refine ⟨_, rfl, _, rfl, eq_pl Yg1 Yo1 ⟨_, rfl, ?_⟩⟩
      rw [decide_eq_false (show ¬ ((((ts, 1 + e1, 0), wd.take i ++ [up]) : PDat) = ((ts, 1 + e1, 0), wd.take i)) from fun e => by
        have := congrArg (fun z : PDat => z.2.length) e
        simp at this)]
      refine iteF ⟨_, rfl, _, rfl, eq_pl Yg1 Ys1 ⟨_, rfl, ?_⟩⟩
      rw [decide_eq_false (show ¬ ((((ts, 1 + e1, 0), wd.take i ++ [up]) : PDat) = ((ts, 1 + e1, 1), wd.take i)) from fun e => by
        have := congrArg (fun z : PDat => z.2.length) e
        simp at this)]
      refine iteF ?_
      have plno : ∀ {rr aw ah : Addr} {m : Str}, ¬ m = "history" → ¬ m = "words" → ¬ m = "row" → (plF rr aw ah).lookup m = none := fun h1 h2 h3 => plF_no _ _ _ h1 h2 h3
      obtain ⟨dx1, rr1, aw1, ah1, hp1⟩ := Yo1.ob
      refine ⟨_, rfl, o, dx1, _, rfl, hp1, plno (by decide +kernel) (by decide +kernel) (by decide +kernel), o, _, ts, 1 + e1, 0, _, rfl, Yo1, fun lk yk HD hlk hyk zD nlk => ?_⟩
      have ykl := paired_len hyk
      rw [plA_len] at ykl
      have olk := F1.freshP nlk
      have F1' := Fam.same F1 zD
      obtain ⟨YoD, naD⟩ := F1'.av (i := 1) (by decide)
      rw [po, ho0, b1] at YoD
      obtain ⟨dx2, rr2, aw2, ah2, hp2⟩ := YoD.ob
      refine ⟨_, rfl, o, dx2, _, rfl, hp2, plno (by decide +kernel) (by decide +kernel) (by decide +kernel), _, rfl, o, oth HD (ow' 1), ts, 1 + e1, 0, wd.take i, up, rfl, YoD, by rw [List.length_take]; omega, naD, fun x2 HE _ YE kE => ?_⟩
      rw [← po, ← ho0] at YE
      obtain ⟨ws2, ow2, F2, c1, cj, S2⟩ := Fam.req3 F1' (by decide) YE kE
      have c0 := (cj 0 (by decide)).trans a0
      have c2 := (cj 2 (by decide)).trans b2
      obtain ⟨YsE, naE⟩ := F2.av (i := 2) (by decide)
      rw [eC1, eC2, c2] at YsE
      obtain ⟨dx3, rr3, aw3, ah3, hp3⟩ := YsE.ob
      refine ⟨_, rfl, sg, dx3, _, rfl, hp3, plno (by decide +kernel) (by decide +kernel) (by decide +kernel), _, rfl, sg, oth HE (ow2 2), ts, 1 + e1, 1, wd.take i, up, rfl, YsE, by rw [List.length_take]; omega, naE, fun x3 HG _ YG kG => ?_⟩
      have YG : PlV L.c_Row L.c_Playing (oth HE (ow2 2)) HG (pC 2) ts (1 + e1) (hC 2) (wd.take i ++ [up]) := by
        rw [show hC 2 = 1 from eC2, show pC 2 = sg from eC1]
        exact YG
      obtain ⟨ws3, ow3, F3, d2, dj, S3⟩ := Fam.req3 F2 (by decide) YG kG
      have d0 := (dj 0 (by decide)).trans c0
      have d1 := (dj 1 (by decide)).trans c1
      have S12 : Stp 3 pC HD ow' 3 pC HG ow3 := S2.trans S3
      have SG : Stp 3 pC HB oC 3 pC HG ow3 := S.trans (S1.trans ((Stp.same zD).trans S12))
      obtain ⟨Yg3, _⟩ := F3.av (i := 0) (by decide)
      obtain ⟨Yo3, _⟩ := F3.av (i := 1) (by decide)
      rw [pg, hg0, d0] at Yg3
      rw [po, ho0, d1] at Yo3
      refine ⟨_, rfl, _, rfl, ne_pl Yg3 Yo3 ⟨_, rfl, ?_⟩⟩
      rw [decide_eq_true rfl]
      refine iteF ?_
      have hla4 := base _ _ nlas (z4 _ _ h3a)
      have hlaG := (SG _ _ hla4.1 hla4.2).1
      refine ⟨_, rfl, lk, _, rfl, .inl (SqL.of (S12 _ _ hlk olk).1), _, rfl, la, _, rfl, .inl (SqL.of hlaG), rfl, _, rfl, ?_⟩
      rw [ykl, b3a.len]
      refine ite2 (fun c => absurd c (by simp)) (fun _ => ?_)
      obtain ⟨dx4, rr4, aw4, ah4, hp4⟩ := Yg3.ob
      refine ⟨_, rfl, g, dx4, _, rfl, hp4, plno (by decide +kernel) (by decide +kernel) (by decide +kernel), g, _, ts, 1 + e1, 0, _, rfl, Yg3, fun l5 y5 HI hl5 hy5 zI nl5 => ?_⟩
      have Yo4 := Yo3.same zI
      obtain ⟨dx5, rr5, aw5, ah5, hp5⟩ := Yo4.ob
      refine ⟨_, rfl, o, dx5, _, rfl, hp5, plno (by decide +kernel) (by decide +kernel) (by decide +kernel), o, _, ts, 1 + e1, 0, _, rfl, Yo4, fun l6 y6 HJ hl6 hy6 zJ nl6 => ?_⟩
      refine ⟨_, _, Sts.dpl (zJ _ _ hl5) (hy5.same zJ), Sts.dpl hl6 hy6, shSts (plA_ok _ _ _ _).2, shSts (plA_ok _ _ _ _).2, false, ?_, iteF ?_⟩
      · rw [eqSts, decide_eq_true rfl]
        rfl
      · refine ⟨_, _, ws3, ow3, rfl, Fam.same F3 (zI.trans zJ), ?_, ?_, ?_, SG.trans (Stp.same (zI.trans zJ))⟩
        · rw [d0, et]
        · rw [d1, et]
        · rw [d2, et]
    rintro σ HC ⟨v9', v10', ws, ow, rfl, F, w0, w1, w2, S⟩
    rw [List.length_map, List.take_length] at w0 w1 w2
    obtain ⟨Yg, _⟩ := F.av (i := 0) (by decide)
    obtain ⟨Yo, _⟩ := F.av (i := 1) (by decide)
    obtain ⟨Ys, _⟩ := F.av (i := 2) (by decide)
    rw [pg, hg0, w0] at Yg
    rw [po, ho0, w1] at Yo
    rw [eC1, eC2, w2] at Ys
    have plno : ∀ {rr aw ah : Addr} {m : Str}, ¬ m = "history" → ¬ m = "words" → ¬ m = "row" → (plF rr aw ah).lookup m = none := fun h1 h2 h3 => plF_no _ _ _ h1 h2 h3
    have rowC : RowAt L.c_Row HC r B xa ts (1 + e1) 0 := R4.nl fun b u e q => by
      have nb : b ≠ s := fun z => by rw [z, hs4] at e; cases e; exact q _ rfl
      obtain ⟨q1, q2⟩ := base b u nb e
      exact (S _ _ q1 q2).1
    -- equal to nothing else
    obtain ⟨dx4, rr4, aw4, ah4, hp4⟩ := Yg.ob
    refine ⟨_, rfl, _, rfl, g, dx4, _, rfl, hp4, plno (by decide +kernel) (by decide +kernel) (by decide +kernel), g, _, ts, 1 + e1, 0, _, rfl, Yg, fun lg HD hlg zD nlg => ?_⟩
    refine ⟨_, rfl, (by show 6 ≤ sizeLine; decide), fun tp ntp => ⟨tp, rfl, ⟨_, SqT.of upd_same⟩, fun D nD => ?_⟩⟩
    have ztp := Same.upd (o := .tup [.non, .int 5, .ref r, .ref lg, .str "game", .ref sg]) ntp
    have zD2 := Same.upd (o := .lst []) nD
    have zE := (zD.trans ztp).trans zD2
    have gE := Yg.same zE
    have lgE := (ztp.trans zD2) _ _ hlg
    have rE := rowC.nl (NL.of zE)
    have sE := Ys.same zE
    have tpE := zD2 _ _ (upd_same (H := HD) (a := tp) (o := .tup [.non, .int 5, .ref r, .ref lg, .str "game", .ref sg]))
    refine lc_tup (K := K) (a := tp) (xs := [.non, .int 5, .ref r, .ref lg, .str "game", .ref sg]) (fun j Hx => Hx = upd (upd HD tp (.tup [.non, .int 5, .ref r, .ref lg, .str "game", .ref sg])) D (.lst [])) rfl (fun j Hx _ e => by rw [e]; exact SqT.of tpE) ?_ ?_
    · rintro j x Hx hx rfl
      refine ⟨rfl, _, rfl, _, rfl, ?_⟩
      have none_eq : EqPl L.c_Row L.c_Playing (upd (upd HD tp (.tup [.non, .int 5, .ref r, .ref lg, .str "game", .ref sg])) D (.lst [])) ((ts, 1 + e1, 0), wd) x false := by
        match j, hx with
        | 0, hx => cases hx; exact .non
        | 1, hx => cases hx; exact .int 5
        | 2, hx => cases hx; exact .row rE
        | 3, hx => cases hx; exact .lst lgE
        | 4, hx => cases hx; exact .str _
        | 5, hx =>
          cases hx
          have := EqPl.pl (CR := L.c_Row) (C := L.c_Playing) (d := ((ts, 1 + e1, 0), wd)) sE
          rwa [decide_eq_false (show ¬ ((((ts, 1 + e1, 0), wd) : PDat) = ((ts, 1 + e1, 1), wd)) from fun e => by
            have := congrArg (fun z : PDat => z.1.2.2) e
            have this : (0 : Int) = 1 := this
            exact absurd this (by decide))] at this
      refine eq_pl2 gE none_eq ⟨_, rfl, iteF ?_⟩
      rfl
    rintro HE rfl
    refine ⟨(by show 0 ≤ sizeLine; decide), fun l7 nl7 => ?_⟩
    have z7 := Same.upd (o := .lst []) nl7
    refine ⟨_, _, .lst (xs := []) (SqL.of (z7 _ _ upd_same)) .nil, .lst (xs := []) (SqL.of upd_same) .nil, ws_sh [], ws_sh [], false, ?_, iteF ?_⟩
    · simp [PyData.eqv, PyData.eqvAll]
    -- the row is as it was, and the logs are equal
    have zC7 := zE.trans z7
    have row7 := rowC.nl (NL.of zC7)
    have F7 := Fam.same F zC7
    have S7 : Stp 3 pC HB oC 3 pC _ ow := S.trans (Stp.same zC7)
    have hla4 := base _ _ nlas (z4 _ _ h3a)
    have hla7 := (S7 _ _ hla4.1 hla4.2).1
    have hba7 : Brs _ xa ts := (b3a.nl (NL.of z4)).nl fun b u e q => by
      have nb : b ≠ s := fun z => by rw [z, hs4] at e; cases e; exact q _ rfl
      obtain ⟨q1, q2⟩ := base b u nb e
      exact (S7 _ _ q1 q2).1
    generalize upd (upd (upd HD tp (.tup [.non, .int 5, .ref r, .ref lg, .str "game", .ref sg])) D (.lst [])) l7 (.lst []) = H7' at *
    refine ⟨_, rfl, _, rfl, _, rfl, row_made (xs := xa) (ts := ts) hla7 hba7 okt l12 ⟨s0, by omega, by decide, by decide⟩ fun rq Bq H8 R8 z8 nq => ne_row (row7.nl (NL.of z8)) (.row R8) ⟨_, rfl, ?_⟩⟩
    rw [decide_eq_true rfl]
    refine iteF ?_
    have F8 := Fam.same F7 z8
    obtain ⟨Yg8, _⟩ := F8.av (i := 0) (by decide)
    obtain ⟨Yo8, _⟩ := F8.av (i := 1) (by decide)
    rw [pg, hg0, w0] at Yg8
    rw [po, ho0, w1] at Yo8
    obtain ⟨dx8, rr8, aw8, ah8, hp8⟩ := Yg8.ob
    refine ⟨_, rfl, g, dx8, _, rfl, hp8, plno (by decide +kernel) (by decide +kernel) (by decide +kernel), g, _, ts, 1 + e1, 0, _, rfl, Yg8, fun ga H9' hga z9' nga => ?_⟩
    have Yo9 := Yo8.same z9'
    obtain ⟨dx9, rr9, aw9, ah9, hp9⟩ := Yo9.ob
    refine ⟨_, rfl, o, dx9, _, rfl, hp9, plno (by decide +kernel) (by decide +kernel) (by decide +kernel), o, _, ts, 1 + e1, 0, _, rfl, Yo9, fun gb HI hgb zI ngb => ?_⟩
    refine ⟨_, _, Dp.ws (zI _ _ hga), Dp.ws hgb, ws_sh _, ws_sh _, false, ?_, iteF ?_⟩
    · rw [ws_eq, decide_eq_true rfl]
      rfl
    have zI8 := (z8.trans z9').trans zI
    have FI := Fam.same F7 zI8
    have SI : Stp 3 pC HB oC 3 pC HI ow := S7.trans (Stp.same zI8)
    have srcI : Src HI s 90000 := by
      obtain ⟨x, y, z', e, q⟩ := srcB.mono (m := 90000) (by decide)
      exact ⟨x, y, z', (SI _ _ e outs).1, q⟩
    obtain ⟨yB, hyB⟩ := srcB.has
    have hsI := (SI _ _ hyB outs).1
    have outI := (SI _ _ hyB outs).2
    -- a row with a phase
    refine ⟨_, rfl, _, rfl, ?_⟩
    refine draw_gen (P := P) (w := w) (mg := mg) (a := s) (n := 90000) (ns := [1, 10, 1000000000000000000000000000001]) (hi := 1000000000000000000000000000001) rfl srcI (by decide) (fun R h => ⟨_, _, rfl, rfl, ⟨by decide, by decide, by decide⟩, _, _, rfl, rfl, h⟩) (by decide) (by decide) (fun m hm => ?_) (by decide +kernel) fun d HJ d0 d1 _ srcJ kJ => ⟨(by show 3 ≤ sizeLine; decide), fun pt npt => ?_⟩
    · simp only [List.mem_cons, List.mem_nil_iff, or_false] at hm
      rcases hm with rfl | rfl | rfl <;> exact ⟨by decide, by decide⟩
    have zp := Same.upd (o := .tup [.ref la, .int (1 + e1), .int d]) npt
    have FJ := Fam.same (Fam.wr FI kJ hsI outI.1) zp
    have srcP := srcJ.same zp
    have hbase : ∀ b u, b ≠ s → H4 b = some u → (upd HJ pt (.tup [.ref la, .int (1 + e1), .int d])) b = some u ∧ OutP 3 pC ow b := fun b u nb e => by
      obtain ⟨q1, q2⟩ := base b u nb e
      obtain ⟨q3, q4⟩ := SI _ _ q1 q2
      exact ⟨zp _ _ (kJ _ _ nb q3), q4⟩
    have hlaP := (hbase _ _ nlas (z4 _ _ h3a)).1
    have nlP : NL H4 (upd HJ pt (.tup [.ref la, .int (1 + e1), .int d])) := fun b u e q => (hbase b u (fun z => by rw [z, hs4] at e; cases e; exact q _ rfl) e).1
    have hbaP := (b3a.nl (NL.of z4)).nl nlP
    refine ⟨_, rfl, _, rfl, s, pt, la, xa, ts, 1 + e1, d, _, rfl, srcP, by decide, upd_same, hlaP, nlas.symm, hbaP, okt, l12, s0, s1, d0, by omega, fun HK srcK kK => ?_⟩
    refine ⟨_, rfl, iteF ?_⟩
    have hptP : (upd HJ pt (.tup [.ref la, .int (1 + e1), .int d])) pt = some (.tup [.ref la, .int (1 + e1), .int d]) := upd_same
    obtain ⟨HP, eP⟩ : ∃ Hx : Hp, Hx = upd HJ pt (.tup [.ref la, .int (1 + e1), .int d]) := ⟨_, rfl⟩
    rw [← eP] at hptP FJ srcP hbase hlaP hbaP kK
    clear nlP
    obtain ⟨yP, hyP⟩ := srcP.has
    have npt : pt ≠ s := fun z => by rw [z, hyP] at hptP; cases hptP
    have FK := Fam.wr FJ kK hyP outI.1
    have nlK : NL HP HK := fun b u e q => kK _ _ (fun z => by rw [z, hyP] at e; cases e; exact q _ rfl) e
    refine ⟨_, rfl, _, rfl, s, pt, la, xa, ts, 1 + e1, d, _, rfl, srcK, by decide, kK _ _ npt hptP, kK _ _ nlas hlaP, nlas.symm, hbaP.nl nlK, okt, l12, s0, s1, d0, by omega, fun HL srcL kL => ⟨_, rfl, iteF ?_⟩⟩
    obtain ⟨yK, hyK⟩ := srcK.has
    have FL := Fam.wr FK kL hyK outI.1
    have kPL := kK.trans kL
    -- the same without breakers
    refine ⟨_, rfl, (by show 0 ≤ sizeLine; decide), fun le nle => ⟨_, rfl, _, rfl, pt, _, 2, .int d, rfl, rfl, SqT.of ((Same.upd nle) _ _ (kPL _ _ npt hptP)), rfl, (by show 3 ≤ sizeLine; decide), fun p2 np2 => ?_⟩⟩
    have zl := Same.upd (o := .lst []) nle
    have zp2 := Same.upd (o := .tup [.ref le, .int (1 + e1), .int d]) np2
    have z2 := zl.trans zp2
    obtain ⟨yL, hyL⟩ := srcL.has
    refine ⟨s, p2, le, [], [], 1 + e1, d, _, rfl, srcL.same z2, by decide, upd_same, zp2 _ _ upd_same, ne_of_none hyL nle, .nil, fun t ht => (nomatch ht), by decide, s0, s1, d0, by omega, fun HQ srcQ kQ => ⟨_, rfl, iteF ?_⟩⟩
    have FQ := Fam.wr (Fam.same FL z2) kQ (z2 _ _ hyL) outI.1
    have bQ : ∀ b u, b ≠ s → H4 b = some u → HQ b = some u ∧ OutP 3 pC ow b := fun b u nb e => by
      obtain ⟨q1, q2⟩ := hbase b u nb e
      exact ⟨kQ _ _ nb (z2 _ _ (kPL _ _ nb q1)), q2⟩
    have rowQ : RowAt L.c_Row HQ r B xa ts (1 + e1) 0 := R4.nl fun b u e q => (bQ b u (fun z => by rw [z, hs4] at e; cases e; exact q _ rfl) e).1
    have hLQ := bQ _ _ nls (z4 _ _ hL3)
    -- up for long
    refine ⟨_, rfl, r, B, xa, ts, 1 + e1, 0, rfl, rowQ, fun HR zR => ?_⟩
    have ln13 := wtsu_le okf
    rw [lng_nat okt]
    refine ⟨_, rfl, by omega, by omega, ?_⟩
    have FR := Fam.same FQ zR
    refine for_range (lo := 0) (n := wtN ts + suN ts + 1) (fun j σ Hx => ∃ v12 : Option V, ∃ ws' ow', σ = [some (.ref a), some (.int cc), some (.ref s), some (.ref la), some (.int (1 + e1)), some (.ref r), some (.ref g), some (.ref o), some (.ref sg), v9', v10', some (.ref pt), v12, none] ∧
        Fam L.c_Row L.c_Playing Hx 3 pC ts (1 + e1) hC ws' ow' ∧ ws' 0 = wd ++ List.replicate j true ∧ ws' 1 = wd ∧ Stp 3 pC HR ow 3 pC Hx ow')
      ⟨v12, ws, ow, rfl, FR, by rw [w0]; simp, w1, Stp.same (.refl _)⟩ ?_ ?_
    · rintro j σ Hx hj ⟨v12, ws', ow', rfl, F', a0, a1, S'⟩
      obtain ⟨Y, na⟩ := F'.av (i := 0) (by decide)
      rw [pg, hg0, a0] at Y
      obtain ⟨dx, rr', aw, ah, hp⟩ := Y.ob
      refine ⟨_, rfl, g, dx, _, rfl, hp, plno (by decide +kernel) (by decide +kernel) (by decide +kernel), g, oth Hx (ow' 0), ts, 1 + e1, 0, wd ++ List.replicate j true, true, rfl, Y, by rw [List.length_append, List.length_replicate]; omega, na, fun x HY _ YY kY => ?_⟩
      rw [← pg, ← hg0] at YY
      obtain ⟨ws2, ow2, F2, c0, cj, S2⟩ := Fam.req3 F' (by decide) YY kY
      refine ⟨_, ws2, ow2, rfl, F2, ?_, (cj 1 (by decide)).trans a1, S'.trans S2⟩
      rw [c0, List.replicate_succ', List.append_assoc]
    · rintro σ HX ⟨v12', ws', ow', rfl, F', a0, a1, S'⟩
      obtain ⟨Y, _⟩ := F'.av (i := 0) (by decide)
      obtain ⟨Y', _⟩ := F'.av (i := 1) (by decide)
      rw [pg, hg0, a0] at Y
      rw [po, ho0, a1] at Y'
      obtain ⟨dx, rr', aw, ah, hp⟩ := Y.ob
      have nn : ∀ s ∈ upS ts (1 + e1) 0 wd (wtN ts), okW s ∧ 0 ≤ s.2 := fun s hs => by
        obtain ⟨i, hi⟩ := List.getElem?_of_mem hs
        have ins := plA_in okt s0 s1 (Int.le_refl 0) (by decide) (wd ++ List.replicate (wtN ts) true) (wd ++ List.replicate (wtN ts) true).length (by rw [List.length_append, List.length_replicate]; omega)
        rw [List.take_length] at ins
        have il : i < ts.length := by
          have := (List.getElem?_eq_some_iff.mp hi).1
          rwa [upS_len] at this
        obtain ⟨q1, _, q2, _⟩ := ins.2 i _ s (List.getElem?_eq_getElem il) hi
        exact ⟨q1, q2⟩
      refine ⟨_, rfl, g, dx, _, rfl, hp, plno (by decide +kernel) (by decide +kernel) (by decide +kernel), g, _, ts, 1 + e1, 0, _, rfl, Y, fun HY zY => ⟨_, rfl, ?_⟩⟩
      rw [decide_eq_true (up_whole s0 okt nn)]
      refine iteF ?_
      have Y2 := Y'.same zY
      obtain ⟨dx2, rr2, aw2, ah2, hp2⟩ := Y2.ob
      refine ⟨_, rfl, o, dx2, _, rfl, hp2, plno (by decide +kernel) (by decide +kernel) (by decide +kernel), o, _, ts, 1 + e1, 0, _, rfl, Y2, fun qa HZ hqa zZ nqa => ?_⟩
      have Y3 := (Y.same zY).same zZ
      obtain ⟨dx3, rr3, aw3, ah3, hp3⟩ := Y3.ob
      refine ⟨_, rfl, g, dx3, _, rfl, hp3, plno (by decide +kernel) (by decide +kernel) (by decide +kernel), g, _, ts, 1 + e1, 0, _, rfl, Y3, fun qb HV hqb zV nqb => ?_⟩
      refine ⟨_, _, Dp.ws (zV _ _ hqa), Dp.ws hqb, ws_sh _, ws_sh _, false, ?_, iteF ?_⟩
      · rw [ws_eq, decide_eq_false fun e => by
          have := congrArg List.length e
          rw [List.length_append, List.length_replicate] at this
          omega]
      · have hL := (S' _ _ (zR _ _ hLQ.1) hLQ.2).1
        exact ⟨_, _, _, _, _, _, _, _, _, _, _, _, rfl, zV _ _ (zZ _ _ (zY _ _ hL))⟩
end
/-! ### the end -/
theorem bn_q0 (kV doc pm : Value) (an : Option Addr) (cdv ct : Value) (us : List Value) (hl : us.length = (["k"] : List Str).length) : bindArgs (PySem.W.fnOf "_wall" "_wall" (defArgs st__wall) (defBody st__wall) (defScope st__wall) .none kV doc pm an cdv ct) ⟨us, []⟩ = pure ((["k"] : List Str).zip us) :=
  match us, hl with | [_], _ => rfl
theorem bn_q1 (kV doc pm : Value) (an : Option Addr) (cdv ct : Value) (us : List Value) (hl : us.length = (["value"] : List Str).length) : bindArgs (PySem.W.fnOf "is_integer" "is_integer" (defArgs st_is_integer) (defBody st_is_integer) (defScope st_is_integer) .none kV doc pm an cdv ct) ⟨us, []⟩ = pure ((["value"] : List Str).zip us) :=
  match us, hl with | [_], _ => rfl
theorem bn_q2 (kV doc pm : Value) (an : Option Addr) (cdv ct : Value) (us : List Value) (hl : us.length = (["value", "least"] : List Str).length) : bindArgs (PySem.W.fnOf "is_at_least" "is_at_least" (defArgs st_is_at_least) (defBody st_is_at_least) (defScope st_is_at_least) .none kV doc pm an cdv ct) ⟨us, []⟩ = pure ((["value", "least"] : List Str).zip us) :=
  match us, hl with | [_, _], _ => rfl
theorem bn_q3 (kV doc pm : Value) (an : Option Addr) (cdv ct : Value) (us : List Value) (hl : us.length = (["value", "least", "most"] : List Str).length) : bindArgs (PySem.W.fnOf "is_within" "is_within" (defArgs st_is_within) (defBody st_is_within) (defScope st_is_within) .none kV doc pm an cdv ct) ⟨us, []⟩ = pure ((["value", "least", "most"] : List Str).zip us) :=
  match us, hl with | [_, _, _], _ => rfl
theorem bn_q4 (kV doc pm : Value) (an : Option Addr) (cdv ct : Value) (us : List Value) (hl : us.length = (["value"] : List Str).length) : bindArgs (PySem.W.fnOf "is_breaker" "is_breaker" (defArgs st_is_breaker) (defBody st_is_breaker) (defScope st_is_breaker) .none kV doc pm an cdv ct) ⟨us, []⟩ = pure ((["value"] : List Str).zip us) :=
  match us, hl with | [_], _ => rfl
theorem bn_q5 (kV doc pm : Value) (an : Option Addr) (cdv ct : Value) (us : List Value) (hl : us.length = (["breakers", "part"] : List Str).length) : bindArgs (PySem.W.fnOf "check_breakers" "check_breakers" (defArgs st_check_breakers) (defBody st_check_breakers) (defScope st_check_breakers) .none kV doc pm an cdv ct) ⟨us, []⟩ = pure ((["breakers", "part"] : List Str).zip us) :=
  match us, hl with | [_, _], _ => rfl
theorem bn_q6 (kV doc pm : Value) (an : Option Addr) (cdv ct : Value) (us : List Value) (hl : us.length = (["step"] : List Str).length) : bindArgs (PySem.W.fnOf "check_step" "check_step" (defArgs st_check_step) (defBody st_check_step) (defScope st_check_step) .none kV doc pm an cdv ct) ⟨us, []⟩ = pure ((["step"] : List Str).zip us) :=
  match us, hl with | [_], _ => rfl
theorem bn_q7 (kV doc pm : Value) (an : Option Addr) (cdv ct : Value) (us : List Value) (hl : us.length = (["row", "number"] : List Str).length) : bindArgs (PySem.W.fnOf "request_time" "request_time" (defArgs st_request_time) (defBody st_request_time) (defScope st_request_time) .none kV doc pm an cdv ct) ⟨us, []⟩ = pure ((["row", "number"] : List Str).zip us) :=
  match us, hl with | [_, _], _ => rfl
theorem bn_q8 (kV doc pm : Value) (an : Option Addr) (cdv ct : Value) (us : List Value) (hl : us.length = (["number"] : List Str).length) : bindArgs (PySem.W.fnOf "closed_states" "closed_states" (defArgs st_closed_states) (defBody st_closed_states) (defScope st_closed_states) .none kV doc pm an cdv ct) ⟨us, []⟩ = pure ((["number"] : List Str).zip us) :=
  match us, hl with | [_], _ => rfl
theorem bn_q9 (kV doc pm : Value) (an : Option Addr) (cdv ct : Value) (us : List Value) (hl : us.length = (["breaker", "state", "time"] : List Str).length) : bindArgs (PySem.W.fnOf "passes" "passes" (defArgs st_passes) (defBody st_passes) (defScope st_passes) .none kV doc pm an cdv ct) ⟨us, []⟩ = pure ((["breaker", "state", "time"] : List Str).zip us) :=
  match us, hl with | [_, _, _], _ => rfl
theorem bn_q10 (kV doc pm : Value) (an : Option Addr) (cdv ct : Value) (us : List Value) (hl : us.length = (["breaker", "state", "time", "succeeded"] : List Str).length) : bindArgs (PySem.W.fnOf "state_behind" "state_behind" (defArgs st_state_behind) (defBody st_state_behind) (defScope st_state_behind) .none kV doc pm an cdv ct) ⟨us, []⟩ = pure ((["breaker", "state", "time", "succeeded"] : List Str).zip us) :=
  match us, hl with | [_, _, _, _], _ => rfl
theorem bn_q11 (kV doc pm : Value) (an : Option Addr) (cdv ct : Value) (us : List Value) (hl : us.length = (["breakers", "states", "time", "up"] : List Str).length) : bindArgs (PySem.W.fnOf "sent" "sent" (defArgs st_sent) (defBody st_sent) (defScope st_sent) .none kV doc pm an cdv ct) ⟨us, []⟩ = pure ((["breakers", "states", "time", "up"] : List Str).zip us) :=
  match us, hl with | [_, _, _, _], _ => rfl
theorem bn_q12 (kV doc pm : Value) (an : Option Addr) (cdv ct : Value) (us : List Value) (hl : us.length = (["value"] : List Str).length) : bindArgs (PySem.W.fnOf "is_word" "is_word" (defArgs st_is_word) (defBody st_is_word) (defScope st_is_word) .none kV doc pm an cdv ct) ⟨us, []⟩ = pure ((["value"] : List Str).zip us) :=
  match us, hl with | [_], _ => rfl
theorem bn_q13 (kV doc pm : Value) (an : Option Addr) (cdv ct : Value) (us : List Value) (hl : us.length = (["log"] : List Str).length) : bindArgs (PySem.W.fnOf "check_words" "check_words" (defArgs st_check_words) (defBody st_check_words) (defScope st_check_words) .none kV doc pm an cdv ct) ⟨us, []⟩ = pure ((["log"] : List Str).zip us) :=
  match us, hl with | [_], _ => rfl
theorem bn_q14 (kV doc pm : Value) (an : Option Addr) (cdv ct : Value) (us : List Value) (hl : us.length = (["row", "log"] : List Str).length) : bindArgs (PySem.W.fnOf "played" "played" (defArgs st_played) (defBody st_played) (defScope st_played) .none kV doc pm an cdv ct) ⟨us, []⟩ = pure ((["row", "log"] : List Str).zip us) :=
  match us, hl with | [_, _], _ => rfl
theorem bn_q15 (kV doc pm : Value) (an : Option Addr) (cdv ct : Value) (us : List Value) (hl : us.length = (["row", "log"] : List Str).length) : bindArgs (PySem.W.fnOf "replay" "replay" (defArgs st_replay) (defBody st_replay) (defScope st_replay) .none kV doc pm an cdv ct) ⟨us, []⟩ = pure ((["row", "log"] : List Str).zip us) :=
  match us, hl with | [_, _], _ => rfl
theorem bn_q16 (kV doc pm : Value) (an : Option Addr) (cdv ct : Value) (us : List Value) (hl : us.length = (["row", "log"] : List Str).length) : bindArgs (PySem.W.fnOf "outcomes" "outcomes" (defArgs st_outcomes) (defBody st_outcomes) (defScope st_outcomes) .none kV doc pm an cdv ct) ⟨us, []⟩ = pure ((["row", "log"] : List Str).zip us) :=
  match us, hl with | [_, _], _ => rfl
theorem bn_q17 (kV doc pm : Value) (an : Option Addr) (cdv ct : Value) (us : List Value) (hl : us.length = (["_law_script", "_law_place"] : List Str).length) : bindArgs (PySem.W.fnOf "_law_cell_at" "_law_cell_at" (defArgs st__law_cell_at) (defBody st__law_cell_at) (defScope st__law_cell_at) .none kV doc pm an cdv ct) ⟨us, []⟩ = pure ((["_law_script", "_law_place"] : List Str).zip us) :=
  match us, hl with | [_, _], _ => rfl
theorem bn_q18 (kV doc pm : Value) (an : Option Addr) (cdv ct : Value) (us : List Value) (hl : us.length = (["_law_cell"] : List Str).length) : bindArgs (PySem.W.fnOf "_law_source_of" "_law_source_of" (defArgs st__law_source_of) (defBody st__law_source_of) (defScope st__law_source_of) .none kV doc pm an cdv ct) ⟨us, []⟩ = pure ((["_law_cell"] : List Str).zip us) :=
  match us, hl with | [_], _ => rfl
theorem bn_q19 (kV doc pm : Value) (an : Option Addr) (cdv ct : Value) (us : List Value) (hl : us.length = (["_law_source", "_law_bound"] : List Str).length) : bindArgs (PySem.W.fnOf "_law_draw" "_law_draw" (defArgs st__law_draw) (defBody st__law_draw) (defScope st__law_draw) .none kV doc pm an cdv ct) ⟨us, []⟩ = pure ((["_law_source", "_law_bound"] : List Str).zip us) :=
  match us, hl with | [_, _], _ => rfl
theorem bn_q20 (kV doc pm : Value) (an : Option Addr) (cdv ct : Value) (us : List Value) (hl : us.length = (["_law_source", "_law_options"] : List Str).length) : bindArgs (PySem.W.fnOf "_law_choice" "_law_choice" (defArgs st__law_choice) (defBody st__law_choice) (defScope st__law_choice) .none kV doc pm an cdv ct) ⟨us, []⟩ = pure ((["_law_source", "_law_options"] : List Str).zip us) :=
  match us, hl with | [_, _], _ => rfl
theorem bn_q21 (kV doc pm : Value) (an : Option Addr) (cdv ct : Value) (us : List Value) (hl : us.length = (["_law_source", "_law_most", "_law_far"] : List Str).length) : bindArgs (PySem.W.fnOf "_law_specs" "_law_specs" (defArgs st__law_specs) (defBody st__law_specs) (defScope st__law_specs) .none kV doc pm an cdv ct) ⟨us, []⟩ = pure ((["_law_source", "_law_most", "_law_far"] : List Str).zip us) :=
  match us, hl with | [_, _, _], _ => rfl
theorem bn_q22 (kV doc pm : Value) (an : Option Addr) (cdv ct : Value) (us : List Value) (hl : us.length = (["_law_source", "_law_most"] : List Str).length) : bindArgs (PySem.W.fnOf "_law_words" "_law_words" (defArgs st__law_words) (defBody st__law_words) (defScope st__law_words) .none kV doc pm an cdv ct) ⟨us, []⟩ = pure ((["_law_source", "_law_most"] : List Str).zip us) :=
  match us, hl with | [_, _], _ => rfl
theorem bn_q23 (kV doc pm : Value) (an : Option Addr) (cdv ct : Value) (us : List Value) (hl : us.length = (["_law_spec", "_law_state", "_law_time"] : List Str).length) : bindArgs (PySem.W.fnOf "_law_is_shut" "_law_is_shut" (defArgs st__law_is_shut) (defBody st__law_is_shut) (defScope st__law_is_shut) .none kV doc pm an cdv ct) ⟨us, []⟩ = pure ((["_law_spec", "_law_state", "_law_time"] : List Str).zip us) :=
  match us, hl with | [_, _, _], _ => rfl
theorem bn_q24 (kV doc pm : Value) (an : Option Addr) (cdv ct : Value) (us : List Value) (hl : us.length = (["_law_specs_here", "_law_states", "_law_time", "_law_word"] : List Str).length) : bindArgs (PySem.W.fnOf "_law_behind" "_law_behind" (defArgs st__law_behind) (defBody st__law_behind) (defScope st__law_behind) .none kV doc pm an cdv ct) ⟨us, []⟩ = pure ((["_law_specs_here", "_law_states", "_law_time", "_law_word"] : List Str).zip us) :=
  match us, hl with | [_, _, _, _], _ => rfl
theorem bn_q25 (kV doc pm : Value) (an : Option Addr) (cdv ct : Value) (us : List Value) (hl : us.length = (["_law_parts", "_law_words_here"] : List Str).length) : bindArgs (PySem.W.fnOf "_law_due" "_law_due" (defArgs st__law_due) (defBody st__law_due) (defScope st__law_due) .none kV doc pm an cdv ct) ⟨us, []⟩ = pure ((["_law_parts", "_law_words_here"] : List Str).zip us) :=
  match us, hl with | [_, _], _ => rfl
theorem bn_q26 (kV doc pm : Value) (an : Option Addr) (cdv ct : Value) (us : List Value) (hl : us.length = (["_law_game"] : List Str).length) : bindArgs (PySem.W.fnOf "_law_shown" "_law_shown" (defArgs st__law_shown) (defBody st__law_shown) (defScope st__law_shown) .none kV doc pm an cdv ct) ⟨us, []⟩ = pure ((["_law_game"] : List Str).zip us) :=
  match us, hl with | [_], _ => rfl
theorem bn_q27 (kV doc pm : Value) (an : Option Addr) (cdv ct : Value) (us : List Value) (hl : us.length = (["_law_source", "_law_parts"] : List Str).length) : bindArgs (PySem.W.fnOf "_law_three_right" "_law_three_right" (defArgs st__law_three_right) (defBody st__law_three_right) (defScope st__law_three_right) .none kV doc pm an cdv ct) ⟨us, []⟩ = pure ((["_law_source", "_law_parts"] : List Str).zip us) :=
  match us, hl with | [_, _], _ => rfl
theorem bn_q28 (kV doc pm : Value) (an : Option Addr) (cdv ct : Value) (us : List Value) (hl : us.length = (["_law_source", "_law_parts"] : List Str).length) : bindArgs (PySem.W.fnOf "_law_logs_right" "_law_logs_right" (defArgs st__law_logs_right) (defBody st__law_logs_right) (defScope st__law_logs_right) .none kV doc pm an cdv ct) ⟨us, []⟩ = pure ((["_law_source", "_law_parts"] : List Str).zip us) :=
  match us, hl with | [_, _], _ => rfl
theorem bn_q29 (kV doc pm : Value) (an : Option Addr) (cdv ct : Value) (us : List Value) (hl : us.length = (["_law_row"] : List Str).length) : bindArgs (PySem.W.fnOf "_law_long" "_law_long" (defArgs st__law_long) (defBody st__law_long) (defScope st__law_long) .none kV doc pm an cdv ct) ⟨us, []⟩ = pure ((["_law_row"] : List Str).zip us) :=
  match us, hl with | [_], _ => rfl
theorem bn_q30 (kV doc pm : Value) (an : Option Addr) (cdv ct : Value) (us : List Value) (hl : us.length = (["self"] : List Str).length) : bindArgs (PySem.W.fnOf "breaker_list" "Row.breaker_list" (defArgs st_Row_breaker_list) (defBody st_Row_breaker_list) (defScope st_Row_breaker_list) .none kV doc pm an cdv ct) ⟨us, []⟩ = pure ((["self"] : List Str).zip us) :=
  match us, hl with | [_], _ => rfl
theorem bn_q31 (kV doc pm : Value) (an : Option Addr) (cdv ct : Value) (us : List Value) (hl : us.length = (["self"] : List Str).length) : bindArgs (PySem.W.fnOf "step_length" "Row.step_length" (defArgs st_Row_step_length) (defBody st_Row_step_length) (defScope st_Row_step_length) .none kV doc pm an cdv ct) ⟨us, []⟩ = pure ((["self"] : List Str).zip us) :=
  match us, hl with | [_], _ => rfl
theorem bn_q32 (kV doc pm : Value) (an : Option Addr) (cdv ct : Value) (us : List Value) (hl : us.length = (["self"] : List Str).length) : bindArgs (PySem.W.fnOf "phase_time" "Row.phase_time" (defArgs st_Row_phase_time) (defBody st_Row_phase_time) (defScope st_Row_phase_time) .none kV doc pm an cdv ct) ⟨us, []⟩ = pure ((["self"] : List Str).zip us) :=
  match us, hl with | [_], _ => rfl
theorem bn_q33 (kV doc pm : Value) (an : Option Addr) (cdv ct : Value) (us : List Value) (hl : us.length = (["self"] : List Str).length) : bindArgs (PySem.W.fnOf "__len__" "Row.__len__" (defArgs st_Row_len) (defBody st_Row_len) (defScope st_Row_len) .none kV doc pm an cdv ct) ⟨us, []⟩ = pure ((["self"] : List Str).zip us) :=
  match us, hl with | [_], _ => rfl
theorem bn_q34 (kV doc pm : Value) (an : Option Addr) (cdv ct : Value) (us : List Value) (hl : us.length = (["self", "at"] : List Str).length) : bindArgs (PySem.W.fnOf "__getitem__" "Row.__getitem__" (defArgs st_Row_getitem) (defBody st_Row_getitem) (defScope st_Row_getitem) .none kV doc pm an cdv ct) ⟨us, []⟩ = pure ((["self", "at"] : List Str).zip us) :=
  match us, hl with | [_, _], _ => rfl
theorem bn_q35 (kV doc pm : Value) (an : Option Addr) (cdv ct : Value) (us : List Value) (hl : us.length = (["self", "x"] : List Str).length) : bindArgs (PySem.W.fnOf "__contains__" "Row.__contains__" (defArgs st_Row_contains) (defBody st_Row_contains) (defScope st_Row_contains) .none kV doc pm an cdv ct) ⟨us, []⟩ = pure ((["self", "x"] : List Str).zip us) :=
  match us, hl with | [_, _], _ => rfl
theorem bn_q36 (kV doc pm : Value) (an : Option Addr) (cdv ct : Value) (us : List Value) (hl : us.length = (["self", "other"] : List Str).length) : bindArgs (PySem.W.fnOf "__add__" "Row.__add__" (defArgs st_Row_add) (defBody st_Row_add) (defScope st_Row_add) .none kV doc pm an cdv ct) ⟨us, []⟩ = pure ((["self", "other"] : List Str).zip us) :=
  match us, hl with | [_, _], _ => rfl
theorem bn_q37 (kV doc pm : Value) (an : Option Addr) (cdv ct : Value) (us : List Value) (hl : us.length = (["self", "other"] : List Str).length) : bindArgs (PySem.W.fnOf "__eq__" "Row.__eq__" (defArgs st_Row_eq) (defBody st_Row_eq) (defScope st_Row_eq) .none kV doc pm an cdv ct) ⟨us, []⟩ = pure ((["self", "other"] : List Str).zip us) :=
  match us, hl with | [_, _], _ => rfl
theorem bn_NPlaying (kV doc pm : Value) (an : Option Addr) (cdv ct : Value) (us : List Value) (hl : us.length = (["self", "row"] : List Str).length) : bindArgs (PySem.W.fnOf "__init__" "Playing.__init__" (defArgs st_Playing_init) (defBody st_Playing_init) (defScope st_Playing_init) .none kV doc pm an cdv ct) ⟨us, []⟩ = pure ((["self", "row"] : List Str).zip us) :=
  match us, hl with | [_, _], _ => rfl
theorem bn_q38 (kV doc pm : Value) (an : Option Addr) (cdv ct : Value) (us : List Value) (hl : us.length = (["self"] : List Str).length) : bindArgs (PySem.W.fnOf "base_row" "Playing.base_row" (defArgs st_Playing_base_row) (defBody st_Playing_base_row) (defScope st_Playing_base_row) .none kV doc pm an cdv ct) ⟨us, []⟩ = pure ((["self"] : List Str).zip us) :=
  match us, hl with | [_], _ => rfl
theorem bn_q39 (kV doc pm : Value) (an : Option Addr) (cdv ct : Value) (us : List Value) (hl : us.length = (["self"] : List Str).length) : bindArgs (PySem.W.fnOf "next_request" "Playing.next_request" (defArgs st_Playing_next_request) (defBody st_Playing_next_request) (defScope st_Playing_next_request) .none kV doc pm an cdv ct) ⟨us, []⟩ = pure ((["self"] : List Str).zip us) :=
  match us, hl with | [_], _ => rfl
theorem bn_q40 (kV doc pm : Value) (an : Option Addr) (cdv ct : Value) (us : List Value) (hl : us.length = (["self", "word"] : List Str).length) : bindArgs (PySem.W.fnOf "request" "Playing.request" (defArgs st_Playing_request) (defBody st_Playing_request) (defScope st_Playing_request) .none kV doc pm an cdv ct) ⟨us, []⟩ = pure ((["self", "word"] : List Str).zip us) :=
  match us, hl with | [_, _], _ => rfl
theorem bn_q41 (kV doc pm : Value) (an : Option Addr) (cdv ct : Value) (us : List Value) (hl : us.length = (["self"] : List Str).length) : bindArgs (PySem.W.fnOf "state_list" "Playing.state_list" (defArgs st_Playing_state_list) (defBody st_Playing_state_list) (defScope st_Playing_state_list) .none kV doc pm an cdv ct) ⟨us, []⟩ = pure ((["self"] : List Str).zip us) :=
  match us, hl with | [_], _ => rfl
theorem bn_q42 (kV doc pm : Value) (an : Option Addr) (cdv ct : Value) (us : List Value) (hl : us.length = (["self"] : List Str).length) : bindArgs (PySem.W.fnOf "is_whole" "Playing.is_whole" (defArgs st_Playing_is_whole) (defBody st_Playing_is_whole) (defScope st_Playing_is_whole) .none kV doc pm an cdv ct) ⟨us, []⟩ = pure ((["self"] : List Str).zip us) :=
  match us, hl with | [_], _ => rfl
theorem bn_q43 (kV doc pm : Value) (an : Option Addr) (cdv ct : Value) (us : List Value) (hl : us.length = (["self"] : List Str).length) : bindArgs (PySem.W.fnOf "log" "Playing.log" (defArgs st_Playing_log) (defBody st_Playing_log) (defScope st_Playing_log) .none kV doc pm an cdv ct) ⟨us, []⟩ = pure ((["self"] : List Str).zip us) :=
  match us, hl with | [_], _ => rfl
theorem bn_q44 (kV doc pm : Value) (an : Option Addr) (cdv ct : Value) (us : List Value) (hl : us.length = (["self", "count"] : List Str).length) : bindArgs (PySem.W.fnOf "undo" "Playing.undo" (defArgs st_Playing_undo) (defBody st_Playing_undo) (defScope st_Playing_undo) .none kV doc pm an cdv ct) ⟨us, []⟩ = pure ((["self", "count"] : List Str).zip us) :=
  match us, hl with | [_, _], _ => rfl
theorem bn_q45 (kV doc pm : Value) (an : Option Addr) (cdv ct : Value) (us : List Value) (hl : us.length = (["self", "other"] : List Str).length) : bindArgs (PySem.W.fnOf "__eq__" "Playing.__eq__" (defArgs st_Playing_eq) (defBody st_Playing_eq) (defScope st_Playing_eq) .none kV doc pm an cdv ct) ⟨us, []⟩ = pure ((["self", "other"] : List Str).zip us) :=
  match us, hl with | [_, _], _ => rfl
theorem mk_dfn {K : PySem.W.Frag} {h : Heap} {mg : Str → Option Value} {x : Str} {st : Stmt} {f : Addr} {ps : List Str} {oc : Value} {od an : Option Addr} {sl : Array (Option Value)} {kV dc pm cd ct : Value} (X : K.In h) (G : h.Ns mainGlobals mg) (a : PySem.W.nsIn K mainGlobals x = some (some (.ref f)))
    (l : K.lookup f = some ⟨oc, od, .func (PySem.W.fnOf x x (defArgs st) (defBody st) (defScope st) .none kV dc pm an cd ct), sl⟩) (c : PySem.W.codeIn K cd x = true) (k : PySem.W.keepIn K (.ref f) = true)
    (hb : ∀ (kV doc pm : Value) (an : Option Addr) (cdv ct : Value) (us : List Value), us.length = ps.length → bindArgs (PySem.W.fnOf x x (defArgs st) (defBody st) (defScope st) .none kV doc pm an cdv ct) ⟨us, []⟩ = pure (ps.zip us)) : Dfn K mg x st f ps :=
  ⟨⟨_, fun_mk l c k, (fun_mk l c k).binds hb⟩, PySem.W.mg_of X G a⟩
theorem mk_mth {K : PySem.W.Frag} {C : Addr} {x q : Str} {st : Stmt} {f : Addr} {ps : List Str} {oc : Value} {od an : Option Addr} {sl : Array (Option Value)} {kV dc pm cd ct : Value} (a : PySem.W.findIn K (.ref C) x = some (some (.ref f))) (i : PySem.W.isFn K (.ref f) = true) (fk : PySem.W.fnIn K f = true)
    (l : K.lookup f = some ⟨oc, od, .func (PySem.W.fnOf x q (defArgs st) (defBody st) (defScope st) .none kV dc pm an cd ct), sl⟩) (c : PySem.W.codeIn K cd q = true) (k : PySem.W.keepIn K (.ref f) = true)
    (hb : ∀ (kV doc pm : Value) (an : Option Addr) (cdv ct : Value) (us : List Value), us.length = ps.length → bindArgs (PySem.W.fnOf x q (defArgs st) (defBody st) (defScope st) .none kV doc pm an cdv ct) ⟨us, []⟩ = pure (ps.zip us)) : Mth K C x q st f ps :=
  ⟨⟨_, fun_mk l c k, (fun_mk l c k).binds hb⟩, a, i, fk⟩
set_option maxHeartbeats 16000000 in
theorem all_mk {P : Program} {w : World} {K : PySem.W.Frag} {h : Heap} {mg : Str → Option Value} {lv : List (Str × PySem.W.WData)} {fa aLaw aTSERVED aTFAILED fq0 fq1 fq2 fq3 fq4 fq5 fq6 fq7 fq8 fq9 fq10 fq11 fq12 fq13 fq14 fq15 fq16 fq17 fq18 fq19 fq20 fq21 fq22 fq23 fq24 fq25 fq26 fq27 fq28 fq29 CRow aIRow aDRow fq30 fq31 fq32 fq33 fq34 fq35 fq36 fq37 CPlaying aIPlaying fq38 fq39 fq40 fq41 fq42 fq43 fq44 fq45 : Addr} {tkTSERVED0 tkTFAILED0 tkRow tNMOST_BREAKERS tNMOST_REQUESTS : Tok} {nTSERVED nTFAILED : Nat} {odq0 anq0 odq1 anq1 odq2 anq2 odq3 anq3 odq4 anq4 odq5 anq5 odq6 anq6 odq7 anq7 odq8 anq8 odq9 anq9 odq10 anq10 odq11 anq11 odq12 anq12 odq13 anq13 odq14 anq14 odq15 anq15 odq16 anq16 odq17 anq17 odq18 anq18 odq19 anq19 odq20 anq20 odq21 anq21 odq22 anq22 odq23 anq23 odq24 anq24 odq25 anq25 odq26 anq26 odq27 anq27 odq28 anq28 odq29 anq29 odq30 anq30 odq31 anq31 odq32 anq32 odq33 anq33 odq34 anq34 odq35 anq35 odq36 anq36 odq37 anq37 odq38 anq38 odq39 anq39 odq40 anq40 odq41 anq41 odq42 anq42 odq43 anq43 odq44 anq44 odq45 anq45 odY anY odTSERVED odTFAILED odNRow anNRow odNPlaying anNPlaying : Option Addr} {slq0 slq1 slq2 slq3 slq4 slq5 slq6 slq7 slq8 slq9 slq10 slq11 slq12 slq13 slq14 slq15 slq16 slq17 slq18 slq19 slq20 slq21 slq22 slq23 slq24 slq25 slq26 slq27 slq28 slq29 slq30 slq31 slq32 slq33 slq34 slq35 slq36 slq37 slq38 slq39 slq40 slq41 slq42 slq43 slq44 slq45 slY slTSERVED slTFAILED slNRow slNPlaying : Array (Option Value)} {ocq0 kVq0 dcq0 pmq0 cdq0 ctq0 ocq1 kVq1 dcq1 pmq1 cdq1 ctq1 ocq2 kVq2 dcq2 pmq2 cdq2 ctq2 ocq3 kVq3 dcq3 pmq3 cdq3 ctq3 ocq4 kVq4 dcq4 pmq4 cdq4 ctq4 ocq5 kVq5 dcq5 pmq5 cdq5 ctq5 ocq6 kVq6 dcq6 pmq6 cdq6 ctq6 ocq7 kVq7 dcq7 pmq7 cdq7 ctq7 ocq8 kVq8 dcq8 pmq8 cdq8 ctq8 ocq9 kVq9 dcq9 pmq9 cdq9 ctq9 ocq10 kVq10 dcq10 pmq10 cdq10 ctq10 ocq11 kVq11 dcq11 pmq11 cdq11 ctq11 ocq12 kVq12 dcq12 pmq12 cdq12 ctq12 ocq13 kVq13 dcq13 pmq13 cdq13 ctq13 ocq14 kVq14 dcq14 pmq14 cdq14 ctq14 ocq15 kVq15 dcq15 pmq15 cdq15 ctq15 ocq16 kVq16 dcq16 pmq16 cdq16 ctq16 ocq17 kVq17 dcq17 pmq17 cdq17 ctq17 ocq18 kVq18 dcq18 pmq18 cdq18 ctq18 ocq19 kVq19 dcq19 pmq19 cdq19 ctq19 ocq20 kVq20 dcq20 pmq20 cdq20 ctq20 ocq21 kVq21 dcq21 pmq21 cdq21 ctq21 ocq22 kVq22 dcq22 pmq22 cdq22 ctq22 ocq23 kVq23 dcq23 pmq23 cdq23 ctq23 ocq24 kVq24 dcq24 pmq24 cdq24 ctq24 ocq25 kVq25 dcq25 pmq25 cdq25 ctq25 ocq26 kVq26 dcq26 pmq26 cdq26 ctq26 ocq27 kVq27 dcq27 pmq27 cdq27 ctq27 ocq28 kVq28 dcq28 pmq28 cdq28 ctq28 ocq29 kVq29 dcq29 pmq29 cdq29 ctq29 ocq30 kVq30 dcq30 pmq30 cdq30 ctq30 ocq31 kVq31 dcq31 pmq31 cdq31 ctq31 ocq32 kVq32 dcq32 pmq32 cdq32 ctq32 ocq33 kVq33 dcq33 pmq33 cdq33 ctq33 ocq34 kVq34 dcq34 pmq34 cdq34 ctq34 ocq35 kVq35 dcq35 pmq35 cdq35 ctq35 ocq36 kVq36 dcq36 pmq36 cdq36 ctq36 ocq37 kVq37 dcq37 pmq37 cdq37 ctq37 ocq38 kVq38 dcq38 pmq38 cdq38 ctq38 ocq39 kVq39 dcq39 pmq39 cdq39 ctq39 ocq40 kVq40 dcq40 pmq40 cdq40 ctq40 ocq41 kVq41 dcq41 pmq41 cdq41 ctq41 ocq42 kVq42 dcq42 pmq42 cdq42 ctq42 ocq43 kVq43 dcq43 pmq43 cdq43 ctq43 ocq44 kVq44 dcq44 pmq44 cdq44 ctq44 ocq45 kVq45 dcq45 pmq45 cdq45 ctq45 ocY kVY dcY pmY cdY ctY ocNRow dcNRow pmNRow cdNRow ctNRow ocNPlaying dcNPlaying pmNPlaying cdNPlaying ctNPlaying kVNPlaying : Value}
    (X : K.In h) (G : h.Ns mainGlobals mg) (LL : PySem.W.LooseAre lv mg h) (hLMOST_COUNT : (("MOST_COUNT" : Str), PySem.W.WData.int 1000000000000) ∈ lv) (hLMOST_TIME : (("MOST_TIME" : Str), PySem.W.WData.int 1000000000000000000000000000000) ∈ lv) (hfa : mg "law" = some (.ref fa))
    (gTSERVED : PySem.W.nsIn K mainGlobals "SERVED" = some (some (.ref aTSERVED)))
    (lTSERVED : K.lookup aTSERVED = some ⟨.type "tuple", odTSERVED, .seq #[.str "served" tkTSERVED0] nTSERVED, slTSERVED⟩)
    (gTFAILED : PySem.W.nsIn K mainGlobals "FAILED" = some (some (.ref aTFAILED)))
    (lTFAILED : K.lookup aTFAILED = some ⟨.type "tuple", odTFAILED, .seq #[.str "failed" tkTFAILED0] nTFAILED, slTFAILED⟩)
    (aq0 : PySem.W.nsIn K mainGlobals "_wall" = some (some (.ref fq0)))
    (lq0 : K.lookup fq0 = some ⟨ocq0, odq0, .func (PySem.W.fnOf "_wall" "_wall" (defArgs st__wall) (defBody st__wall) (defScope st__wall) .none kVq0 dcq0 pmq0 anq0 cdq0 ctq0), slq0⟩)
    (cq0 : PySem.W.codeIn K cdq0 "_wall" = true)
    (kq0 : PySem.W.keepIn K (.ref fq0) = true)
    (aq1 : PySem.W.nsIn K mainGlobals "is_integer" = some (some (.ref fq1)))
    (lq1 : K.lookup fq1 = some ⟨ocq1, odq1, .func (PySem.W.fnOf "is_integer" "is_integer" (defArgs st_is_integer) (defBody st_is_integer) (defScope st_is_integer) .none kVq1 dcq1 pmq1 anq1 cdq1 ctq1), slq1⟩)
    (cq1 : PySem.W.codeIn K cdq1 "is_integer" = true)
    (kq1 : PySem.W.keepIn K (.ref fq1) = true)
    (aq2 : PySem.W.nsIn K mainGlobals "is_at_least" = some (some (.ref fq2)))
    (lq2 : K.lookup fq2 = some ⟨ocq2, odq2, .func (PySem.W.fnOf "is_at_least" "is_at_least" (defArgs st_is_at_least) (defBody st_is_at_least) (defScope st_is_at_least) .none kVq2 dcq2 pmq2 anq2 cdq2 ctq2), slq2⟩)
    (cq2 : PySem.W.codeIn K cdq2 "is_at_least" = true)
    (kq2 : PySem.W.keepIn K (.ref fq2) = true)
    (aq3 : PySem.W.nsIn K mainGlobals "is_within" = some (some (.ref fq3)))
    (lq3 : K.lookup fq3 = some ⟨ocq3, odq3, .func (PySem.W.fnOf "is_within" "is_within" (defArgs st_is_within) (defBody st_is_within) (defScope st_is_within) .none kVq3 dcq3 pmq3 anq3 cdq3 ctq3), slq3⟩)
    (cq3 : PySem.W.codeIn K cdq3 "is_within" = true)
    (kq3 : PySem.W.keepIn K (.ref fq3) = true)
    (aq4 : PySem.W.nsIn K mainGlobals "is_breaker" = some (some (.ref fq4)))
    (lq4 : K.lookup fq4 = some ⟨ocq4, odq4, .func (PySem.W.fnOf "is_breaker" "is_breaker" (defArgs st_is_breaker) (defBody st_is_breaker) (defScope st_is_breaker) .none kVq4 dcq4 pmq4 anq4 cdq4 ctq4), slq4⟩)
    (cq4 : PySem.W.codeIn K cdq4 "is_breaker" = true)
    (kq4 : PySem.W.keepIn K (.ref fq4) = true)
    (aq5 : PySem.W.nsIn K mainGlobals "check_breakers" = some (some (.ref fq5)))
    (lq5 : K.lookup fq5 = some ⟨ocq5, odq5, .func (PySem.W.fnOf "check_breakers" "check_breakers" (defArgs st_check_breakers) (defBody st_check_breakers) (defScope st_check_breakers) .none kVq5 dcq5 pmq5 anq5 cdq5 ctq5), slq5⟩)
    (cq5 : PySem.W.codeIn K cdq5 "check_breakers" = true)
    (kq5 : PySem.W.keepIn K (.ref fq5) = true)
    (aq6 : PySem.W.nsIn K mainGlobals "check_step" = some (some (.ref fq6)))
    (lq6 : K.lookup fq6 = some ⟨ocq6, odq6, .func (PySem.W.fnOf "check_step" "check_step" (defArgs st_check_step) (defBody st_check_step) (defScope st_check_step) .none kVq6 dcq6 pmq6 anq6 cdq6 ctq6), slq6⟩)
    (cq6 : PySem.W.codeIn K cdq6 "check_step" = true)
    (kq6 : PySem.W.keepIn K (.ref fq6) = true)
    (aq7 : PySem.W.nsIn K mainGlobals "request_time" = some (some (.ref fq7)))
    (lq7 : K.lookup fq7 = some ⟨ocq7, odq7, .func (PySem.W.fnOf "request_time" "request_time" (defArgs st_request_time) (defBody st_request_time) (defScope st_request_time) .none kVq7 dcq7 pmq7 anq7 cdq7 ctq7), slq7⟩)
    (cq7 : PySem.W.codeIn K cdq7 "request_time" = true)
    (kq7 : PySem.W.keepIn K (.ref fq7) = true)
    (aq8 : PySem.W.nsIn K mainGlobals "closed_states" = some (some (.ref fq8)))
    (lq8 : K.lookup fq8 = some ⟨ocq8, odq8, .func (PySem.W.fnOf "closed_states" "closed_states" (defArgs st_closed_states) (defBody st_closed_states) (defScope st_closed_states) .none kVq8 dcq8 pmq8 anq8 cdq8 ctq8), slq8⟩)
    (cq8 : PySem.W.codeIn K cdq8 "closed_states" = true)
    (kq8 : PySem.W.keepIn K (.ref fq8) = true)
    (aq9 : PySem.W.nsIn K mainGlobals "passes" = some (some (.ref fq9)))
    (lq9 : K.lookup fq9 = some ⟨ocq9, odq9, .func (PySem.W.fnOf "passes" "passes" (defArgs st_passes) (defBody st_passes) (defScope st_passes) .none kVq9 dcq9 pmq9 anq9 cdq9 ctq9), slq9⟩)
    (cq9 : PySem.W.codeIn K cdq9 "passes" = true)
    (kq9 : PySem.W.keepIn K (.ref fq9) = true)
    (aq10 : PySem.W.nsIn K mainGlobals "state_behind" = some (some (.ref fq10)))
    (lq10 : K.lookup fq10 = some ⟨ocq10, odq10, .func (PySem.W.fnOf "state_behind" "state_behind" (defArgs st_state_behind) (defBody st_state_behind) (defScope st_state_behind) .none kVq10 dcq10 pmq10 anq10 cdq10 ctq10), slq10⟩)
    (cq10 : PySem.W.codeIn K cdq10 "state_behind" = true)
    (kq10 : PySem.W.keepIn K (.ref fq10) = true)
    (aq11 : PySem.W.nsIn K mainGlobals "sent" = some (some (.ref fq11)))
    (lq11 : K.lookup fq11 = some ⟨ocq11, odq11, .func (PySem.W.fnOf "sent" "sent" (defArgs st_sent) (defBody st_sent) (defScope st_sent) .none kVq11 dcq11 pmq11 anq11 cdq11 ctq11), slq11⟩)
    (cq11 : PySem.W.codeIn K cdq11 "sent" = true)
    (kq11 : PySem.W.keepIn K (.ref fq11) = true)
    (aq12 : PySem.W.nsIn K mainGlobals "is_word" = some (some (.ref fq12)))
    (lq12 : K.lookup fq12 = some ⟨ocq12, odq12, .func (PySem.W.fnOf "is_word" "is_word" (defArgs st_is_word) (defBody st_is_word) (defScope st_is_word) .none kVq12 dcq12 pmq12 anq12 cdq12 ctq12), slq12⟩)
    (cq12 : PySem.W.codeIn K cdq12 "is_word" = true)
    (kq12 : PySem.W.keepIn K (.ref fq12) = true)
    (aq13 : PySem.W.nsIn K mainGlobals "check_words" = some (some (.ref fq13)))
    (lq13 : K.lookup fq13 = some ⟨ocq13, odq13, .func (PySem.W.fnOf "check_words" "check_words" (defArgs st_check_words) (defBody st_check_words) (defScope st_check_words) .none kVq13 dcq13 pmq13 anq13 cdq13 ctq13), slq13⟩)
    (cq13 : PySem.W.codeIn K cdq13 "check_words" = true)
    (kq13 : PySem.W.keepIn K (.ref fq13) = true)
    (aq14 : PySem.W.nsIn K mainGlobals "played" = some (some (.ref fq14)))
    (lq14 : K.lookup fq14 = some ⟨ocq14, odq14, .func (PySem.W.fnOf "played" "played" (defArgs st_played) (defBody st_played) (defScope st_played) .none kVq14 dcq14 pmq14 anq14 cdq14 ctq14), slq14⟩)
    (cq14 : PySem.W.codeIn K cdq14 "played" = true)
    (kq14 : PySem.W.keepIn K (.ref fq14) = true)
    (aq15 : PySem.W.nsIn K mainGlobals "replay" = some (some (.ref fq15)))
    (lq15 : K.lookup fq15 = some ⟨ocq15, odq15, .func (PySem.W.fnOf "replay" "replay" (defArgs st_replay) (defBody st_replay) (defScope st_replay) .none kVq15 dcq15 pmq15 anq15 cdq15 ctq15), slq15⟩)
    (cq15 : PySem.W.codeIn K cdq15 "replay" = true)
    (kq15 : PySem.W.keepIn K (.ref fq15) = true)
    (aq16 : PySem.W.nsIn K mainGlobals "outcomes" = some (some (.ref fq16)))
    (lq16 : K.lookup fq16 = some ⟨ocq16, odq16, .func (PySem.W.fnOf "outcomes" "outcomes" (defArgs st_outcomes) (defBody st_outcomes) (defScope st_outcomes) .none kVq16 dcq16 pmq16 anq16 cdq16 ctq16), slq16⟩)
    (cq16 : PySem.W.codeIn K cdq16 "outcomes" = true)
    (kq16 : PySem.W.keepIn K (.ref fq16) = true)
    (aq17 : PySem.W.nsIn K mainGlobals "_law_cell_at" = some (some (.ref fq17)))
    (lq17 : K.lookup fq17 = some ⟨ocq17, odq17, .func (PySem.W.fnOf "_law_cell_at" "_law_cell_at" (defArgs st__law_cell_at) (defBody st__law_cell_at) (defScope st__law_cell_at) .none kVq17 dcq17 pmq17 anq17 cdq17 ctq17), slq17⟩)
    (cq17 : PySem.W.codeIn K cdq17 "_law_cell_at" = true)
    (kq17 : PySem.W.keepIn K (.ref fq17) = true)
    (aq18 : PySem.W.nsIn K mainGlobals "_law_source_of" = some (some (.ref fq18)))
    (lq18 : K.lookup fq18 = some ⟨ocq18, odq18, .func (PySem.W.fnOf "_law_source_of" "_law_source_of" (defArgs st__law_source_of) (defBody st__law_source_of) (defScope st__law_source_of) .none kVq18 dcq18 pmq18 anq18 cdq18 ctq18), slq18⟩)
    (cq18 : PySem.W.codeIn K cdq18 "_law_source_of" = true)
    (kq18 : PySem.W.keepIn K (.ref fq18) = true)
    (aq19 : PySem.W.nsIn K mainGlobals "_law_draw" = some (some (.ref fq19)))
    (lq19 : K.lookup fq19 = some ⟨ocq19, odq19, .func (PySem.W.fnOf "_law_draw" "_law_draw" (defArgs st__law_draw) (defBody st__law_draw) (defScope st__law_draw) .none kVq19 dcq19 pmq19 anq19 cdq19 ctq19), slq19⟩)
    (cq19 : PySem.W.codeIn K cdq19 "_law_draw" = true)
    (kq19 : PySem.W.keepIn K (.ref fq19) = true)
    (aq20 : PySem.W.nsIn K mainGlobals "_law_choice" = some (some (.ref fq20)))
    (lq20 : K.lookup fq20 = some ⟨ocq20, odq20, .func (PySem.W.fnOf "_law_choice" "_law_choice" (defArgs st__law_choice) (defBody st__law_choice) (defScope st__law_choice) .none kVq20 dcq20 pmq20 anq20 cdq20 ctq20), slq20⟩)
    (cq20 : PySem.W.codeIn K cdq20 "_law_choice" = true)
    (kq20 : PySem.W.keepIn K (.ref fq20) = true)
    (aq21 : PySem.W.nsIn K mainGlobals "_law_specs" = some (some (.ref fq21)))
    (lq21 : K.lookup fq21 = some ⟨ocq21, odq21, .func (PySem.W.fnOf "_law_specs" "_law_specs" (defArgs st__law_specs) (defBody st__law_specs) (defScope st__law_specs) .none kVq21 dcq21 pmq21 anq21 cdq21 ctq21), slq21⟩)
    (cq21 : PySem.W.codeIn K cdq21 "_law_specs" = true)
    (kq21 : PySem.W.keepIn K (.ref fq21) = true)
    (aq22 : PySem.W.nsIn K mainGlobals "_law_words" = some (some (.ref fq22)))
    (lq22 : K.lookup fq22 = some ⟨ocq22, odq22, .func (PySem.W.fnOf "_law_words" "_law_words" (defArgs st__law_words) (defBody st__law_words) (defScope st__law_words) .none kVq22 dcq22 pmq22 anq22 cdq22 ctq22), slq22⟩)
    (cq22 : PySem.W.codeIn K cdq22 "_law_words" = true)
    (kq22 : PySem.W.keepIn K (.ref fq22) = true)
    (aq23 : PySem.W.nsIn K mainGlobals "_law_is_shut" = some (some (.ref fq23)))
    (lq23 : K.lookup fq23 = some ⟨ocq23, odq23, .func (PySem.W.fnOf "_law_is_shut" "_law_is_shut" (defArgs st__law_is_shut) (defBody st__law_is_shut) (defScope st__law_is_shut) .none kVq23 dcq23 pmq23 anq23 cdq23 ctq23), slq23⟩)
    (cq23 : PySem.W.codeIn K cdq23 "_law_is_shut" = true)
    (kq23 : PySem.W.keepIn K (.ref fq23) = true)
    (aq24 : PySem.W.nsIn K mainGlobals "_law_behind" = some (some (.ref fq24)))
    (lq24 : K.lookup fq24 = some ⟨ocq24, odq24, .func (PySem.W.fnOf "_law_behind" "_law_behind" (defArgs st__law_behind) (defBody st__law_behind) (defScope st__law_behind) .none kVq24 dcq24 pmq24 anq24 cdq24 ctq24), slq24⟩)
    (cq24 : PySem.W.codeIn K cdq24 "_law_behind" = true)
    (kq24 : PySem.W.keepIn K (.ref fq24) = true)
    (aq25 : PySem.W.nsIn K mainGlobals "_law_due" = some (some (.ref fq25)))
    (lq25 : K.lookup fq25 = some ⟨ocq25, odq25, .func (PySem.W.fnOf "_law_due" "_law_due" (defArgs st__law_due) (defBody st__law_due) (defScope st__law_due) .none kVq25 dcq25 pmq25 anq25 cdq25 ctq25), slq25⟩)
    (cq25 : PySem.W.codeIn K cdq25 "_law_due" = true)
    (kq25 : PySem.W.keepIn K (.ref fq25) = true)
    (aq26 : PySem.W.nsIn K mainGlobals "_law_shown" = some (some (.ref fq26)))
    (lq26 : K.lookup fq26 = some ⟨ocq26, odq26, .func (PySem.W.fnOf "_law_shown" "_law_shown" (defArgs st__law_shown) (defBody st__law_shown) (defScope st__law_shown) .none kVq26 dcq26 pmq26 anq26 cdq26 ctq26), slq26⟩)
    (cq26 : PySem.W.codeIn K cdq26 "_law_shown" = true)
    (kq26 : PySem.W.keepIn K (.ref fq26) = true)
    (aq27 : PySem.W.nsIn K mainGlobals "_law_three_right" = some (some (.ref fq27)))
    (lq27 : K.lookup fq27 = some ⟨ocq27, odq27, .func (PySem.W.fnOf "_law_three_right" "_law_three_right" (defArgs st__law_three_right) (defBody st__law_three_right) (defScope st__law_three_right) .none kVq27 dcq27 pmq27 anq27 cdq27 ctq27), slq27⟩)
    (cq27 : PySem.W.codeIn K cdq27 "_law_three_right" = true)
    (kq27 : PySem.W.keepIn K (.ref fq27) = true)
    (aq28 : PySem.W.nsIn K mainGlobals "_law_logs_right" = some (some (.ref fq28)))
    (lq28 : K.lookup fq28 = some ⟨ocq28, odq28, .func (PySem.W.fnOf "_law_logs_right" "_law_logs_right" (defArgs st__law_logs_right) (defBody st__law_logs_right) (defScope st__law_logs_right) .none kVq28 dcq28 pmq28 anq28 cdq28 ctq28), slq28⟩)
    (cq28 : PySem.W.codeIn K cdq28 "_law_logs_right" = true)
    (kq28 : PySem.W.keepIn K (.ref fq28) = true)
    (aq29 : PySem.W.nsIn K mainGlobals "_law_long" = some (some (.ref fq29)))
    (lq29 : K.lookup fq29 = some ⟨ocq29, odq29, .func (PySem.W.fnOf "_law_long" "_law_long" (defArgs st__law_long) (defBody st__law_long) (defScope st__law_long) .none kVq29 dcq29 pmq29 anq29 cdq29 ctq29), slq29⟩)
    (cq29 : PySem.W.codeIn K cdq29 "_law_long" = true)
    (kq29 : PySem.W.keepIn K (.ref fq29) = true)
    (gcRow : PySem.W.nsIn K mainGlobals "Row" = some (some (.ref CRow)))
    (gRow0 : PySem.W.plainGet K CRow Str.empty = true)
    (gRow1 : PySem.W.hasDictIn K CRow = true)
    (gRow2 : PySem.W.plainOver K CRow = true)
    (gRow3 : PySem.W.findIn K (.ref CRow) "__setattr__" = some (some (.builtin "object.__setattr__")))
    (gRow4 : PySem.W.makesIn K CRow = true)
    (gRow5 : PySem.W.keepIn K (.ref CRow) = true)
    (gRow6 : PySem.W.isClsIn K CRow = true)
    (gRow7 : PySem.W.typeIn K (.ref CRow) = some (.type "type"))
    (gRow8 : PySem.W.findIn K (.ref CRow) "__class__" = some (some (.builtin "object.__class__")))
    (gRow9 : PySem.W.mroIn K CRow (.type "object") = some true)
    (gRow10 : PySem.W.selfFirst K CRow = true)
    (gRow11 : PySem.W.findIn K (.ref CRow) "__ne__" = some (some (.builtin "object.__ne__")))
    (gO1 : PySem.W.specialIn K (.builtin "object.__class__") "__get__" = some (some (.builtin "getset_descriptor.__get__")))
    (gO2 : PySem.W.takesIn K (.builtin "object.__class__") = some true)
    (nfRow_breakers : PySem.W.findIn K (.ref CRow) "breakers" = some none)
    (nfRow_step : PySem.W.findIn K (.ref CRow) "step" = some none)
    (nfRow_phase : PySem.W.findIn K (.ref CRow) "phase" = some none)
    (aNRow : PySem.W.findIn K (.ref CRow) "__init__" = some (some (.ref aIRow)))
    (iNRow : PySem.W.isFn K (.ref aIRow) = true)
    (lNRow : K.lookup aIRow = some ⟨ocNRow, odNRow, .func (PySem.W.fnOf "__init__" "Row.__init__" (defArgs st_Row_init) (defBody st_Row_init) (defScope st_Row_init) .none (.ref aDRow) dcNRow pmNRow anNRow cdNRow ctNRow), slNRow⟩)
    (cNRow : PySem.W.codeIn K cdNRow "Row.__init__" = true)
    (kNRow : PySem.W.keepIn K (.ref aIRow) = true)
    (dRow : PySem.W.nsIn K aDRow "phase" = some (some (.int 0 tkRow)))
    (aq30 : PySem.W.findIn K (.ref CRow) "breaker_list" = some (some (.ref fq30)))
    (iq30 : PySem.W.isFn K (.ref fq30) = true)
    (nq30 : PySem.W.fnIn K fq30 = true)
    (lq30 : K.lookup fq30 = some ⟨ocq30, odq30, .func (PySem.W.fnOf "breaker_list" "Row.breaker_list" (defArgs st_Row_breaker_list) (defBody st_Row_breaker_list) (defScope st_Row_breaker_list) .none kVq30 dcq30 pmq30 anq30 cdq30 ctq30), slq30⟩)
    (cq30 : PySem.W.codeIn K cdq30 "Row.breaker_list" = true)
    (kq30 : PySem.W.keepIn K (.ref fq30) = true)
    (aq31 : PySem.W.findIn K (.ref CRow) "step_length" = some (some (.ref fq31)))
    (iq31 : PySem.W.isFn K (.ref fq31) = true)
    (nq31 : PySem.W.fnIn K fq31 = true)
    (lq31 : K.lookup fq31 = some ⟨ocq31, odq31, .func (PySem.W.fnOf "step_length" "Row.step_length" (defArgs st_Row_step_length) (defBody st_Row_step_length) (defScope st_Row_step_length) .none kVq31 dcq31 pmq31 anq31 cdq31 ctq31), slq31⟩)
    (cq31 : PySem.W.codeIn K cdq31 "Row.step_length" = true)
    (kq31 : PySem.W.keepIn K (.ref fq31) = true)
    (aq32 : PySem.W.findIn K (.ref CRow) "phase_time" = some (some (.ref fq32)))
    (iq32 : PySem.W.isFn K (.ref fq32) = true)
    (nq32 : PySem.W.fnIn K fq32 = true)
    (lq32 : K.lookup fq32 = some ⟨ocq32, odq32, .func (PySem.W.fnOf "phase_time" "Row.phase_time" (defArgs st_Row_phase_time) (defBody st_Row_phase_time) (defScope st_Row_phase_time) .none kVq32 dcq32 pmq32 anq32 cdq32 ctq32), slq32⟩)
    (cq32 : PySem.W.codeIn K cdq32 "Row.phase_time" = true)
    (kq32 : PySem.W.keepIn K (.ref fq32) = true)
    (aq33 : PySem.W.findIn K (.ref CRow) "__len__" = some (some (.ref fq33)))
    (iq33 : PySem.W.isFn K (.ref fq33) = true)
    (nq33 : PySem.W.fnIn K fq33 = true)
    (lq33 : K.lookup fq33 = some ⟨ocq33, odq33, .func (PySem.W.fnOf "__len__" "Row.__len__" (defArgs st_Row_len) (defBody st_Row_len) (defScope st_Row_len) .none kVq33 dcq33 pmq33 anq33 cdq33 ctq33), slq33⟩)
    (cq33 : PySem.W.codeIn K cdq33 "Row.__len__" = true)
    (kq33 : PySem.W.keepIn K (.ref fq33) = true)
    (aq34 : PySem.W.findIn K (.ref CRow) "__getitem__" = some (some (.ref fq34)))
    (iq34 : PySem.W.isFn K (.ref fq34) = true)
    (nq34 : PySem.W.fnIn K fq34 = true)
    (lq34 : K.lookup fq34 = some ⟨ocq34, odq34, .func (PySem.W.fnOf "__getitem__" "Row.__getitem__" (defArgs st_Row_getitem) (defBody st_Row_getitem) (defScope st_Row_getitem) .none kVq34 dcq34 pmq34 anq34 cdq34 ctq34), slq34⟩)
    (cq34 : PySem.W.codeIn K cdq34 "Row.__getitem__" = true)
    (kq34 : PySem.W.keepIn K (.ref fq34) = true)
    (aq35 : PySem.W.findIn K (.ref CRow) "__contains__" = some (some (.ref fq35)))
    (iq35 : PySem.W.isFn K (.ref fq35) = true)
    (nq35 : PySem.W.fnIn K fq35 = true)
    (lq35 : K.lookup fq35 = some ⟨ocq35, odq35, .func (PySem.W.fnOf "__contains__" "Row.__contains__" (defArgs st_Row_contains) (defBody st_Row_contains) (defScope st_Row_contains) .none kVq35 dcq35 pmq35 anq35 cdq35 ctq35), slq35⟩)
    (cq35 : PySem.W.codeIn K cdq35 "Row.__contains__" = true)
    (kq35 : PySem.W.keepIn K (.ref fq35) = true)
    (aq36 : PySem.W.findIn K (.ref CRow) "__add__" = some (some (.ref fq36)))
    (iq36 : PySem.W.isFn K (.ref fq36) = true)
    (nq36 : PySem.W.fnIn K fq36 = true)
    (lq36 : K.lookup fq36 = some ⟨ocq36, odq36, .func (PySem.W.fnOf "__add__" "Row.__add__" (defArgs st_Row_add) (defBody st_Row_add) (defScope st_Row_add) .none kVq36 dcq36 pmq36 anq36 cdq36 ctq36), slq36⟩)
    (cq36 : PySem.W.codeIn K cdq36 "Row.__add__" = true)
    (kq36 : PySem.W.keepIn K (.ref fq36) = true)
    (aq37 : PySem.W.findIn K (.ref CRow) "__eq__" = some (some (.ref fq37)))
    (iq37 : PySem.W.isFn K (.ref fq37) = true)
    (nq37 : PySem.W.fnIn K fq37 = true)
    (lq37 : K.lookup fq37 = some ⟨ocq37, odq37, .func (PySem.W.fnOf "__eq__" "Row.__eq__" (defArgs st_Row_eq) (defBody st_Row_eq) (defScope st_Row_eq) .none kVq37 dcq37 pmq37 anq37 cdq37 ctq37), slq37⟩)
    (cq37 : PySem.W.codeIn K cdq37 "Row.__eq__" = true)
    (kq37 : PySem.W.keepIn K (.ref fq37) = true)
    (gcPlaying : PySem.W.nsIn K mainGlobals "Playing" = some (some (.ref CPlaying)))
    (gPlaying0 : PySem.W.plainGet K CPlaying Str.empty = true)
    (gPlaying1 : PySem.W.hasDictIn K CPlaying = true)
    (gPlaying2 : PySem.W.plainOver K CPlaying = true)
    (gPlaying3 : PySem.W.findIn K (.ref CPlaying) "__setattr__" = some (some (.builtin "object.__setattr__")))
    (gPlaying4 : PySem.W.makesIn K CPlaying = true)
    (gPlaying5 : PySem.W.keepIn K (.ref CPlaying) = true)
    (gPlaying6 : PySem.W.isClsIn K CPlaying = true)
    (gPlaying7 : PySem.W.typeIn K (.ref CPlaying) = some (.type "type"))
    (gPlaying8 : PySem.W.findIn K (.ref CPlaying) "__class__" = some (some (.builtin "object.__class__")))
    (gPlaying9 : PySem.W.mroIn K CPlaying (.type "object") = some true)
    (gPlaying10 : PySem.W.selfFirst K CPlaying = true)
    (gPlaying11 : PySem.W.findIn K (.ref CPlaying) "__ne__" = some (some (.builtin "object.__ne__")))
    (nfPlaying_row : PySem.W.findIn K (.ref CPlaying) "row" = some none)
    (nfPlaying_words : PySem.W.findIn K (.ref CPlaying) "words" = some none)
    (nfPlaying_history : PySem.W.findIn K (.ref CPlaying) "history" = some none)
    (aNPlaying : PySem.W.findIn K (.ref CPlaying) "__init__" = some (some (.ref aIPlaying)))
    (iNPlaying : PySem.W.isFn K (.ref aIPlaying) = true)
    (lNPlaying : K.lookup aIPlaying = some ⟨ocNPlaying, odNPlaying, .func (PySem.W.fnOf "__init__" "Playing.__init__" (defArgs st_Playing_init) (defBody st_Playing_init) (defScope st_Playing_init) .none kVNPlaying dcNPlaying pmNPlaying anNPlaying cdNPlaying ctNPlaying), slNPlaying⟩)
    (cNPlaying : PySem.W.codeIn K cdNPlaying "Playing.__init__" = true)
    (kNPlaying : PySem.W.keepIn K (.ref aIPlaying) = true)
    (aq38 : PySem.W.findIn K (.ref CPlaying) "base_row" = some (some (.ref fq38)))
    (iq38 : PySem.W.isFn K (.ref fq38) = true)
    (nq38 : PySem.W.fnIn K fq38 = true)
    (lq38 : K.lookup fq38 = some ⟨ocq38, odq38, .func (PySem.W.fnOf "base_row" "Playing.base_row" (defArgs st_Playing_base_row) (defBody st_Playing_base_row) (defScope st_Playing_base_row) .none kVq38 dcq38 pmq38 anq38 cdq38 ctq38), slq38⟩)
    (cq38 : PySem.W.codeIn K cdq38 "Playing.base_row" = true)
    (kq38 : PySem.W.keepIn K (.ref fq38) = true)
    (aq39 : PySem.W.findIn K (.ref CPlaying) "next_request" = some (some (.ref fq39)))
    (iq39 : PySem.W.isFn K (.ref fq39) = true)
    (nq39 : PySem.W.fnIn K fq39 = true)
    (lq39 : K.lookup fq39 = some ⟨ocq39, odq39, .func (PySem.W.fnOf "next_request" "Playing.next_request" (defArgs st_Playing_next_request) (defBody st_Playing_next_request) (defScope st_Playing_next_request) .none kVq39 dcq39 pmq39 anq39 cdq39 ctq39), slq39⟩)
    (cq39 : PySem.W.codeIn K cdq39 "Playing.next_request" = true)
    (kq39 : PySem.W.keepIn K (.ref fq39) = true)
    (aq40 : PySem.W.findIn K (.ref CPlaying) "request" = some (some (.ref fq40)))
    (iq40 : PySem.W.isFn K (.ref fq40) = true)
    (nq40 : PySem.W.fnIn K fq40 = true)
    (lq40 : K.lookup fq40 = some ⟨ocq40, odq40, .func (PySem.W.fnOf "request" "Playing.request" (defArgs st_Playing_request) (defBody st_Playing_request) (defScope st_Playing_request) .none kVq40 dcq40 pmq40 anq40 cdq40 ctq40), slq40⟩)
    (cq40 : PySem.W.codeIn K cdq40 "Playing.request" = true)
    (kq40 : PySem.W.keepIn K (.ref fq40) = true)
    (aq41 : PySem.W.findIn K (.ref CPlaying) "state_list" = some (some (.ref fq41)))
    (iq41 : PySem.W.isFn K (.ref fq41) = true)
    (nq41 : PySem.W.fnIn K fq41 = true)
    (lq41 : K.lookup fq41 = some ⟨ocq41, odq41, .func (PySem.W.fnOf "state_list" "Playing.state_list" (defArgs st_Playing_state_list) (defBody st_Playing_state_list) (defScope st_Playing_state_list) .none kVq41 dcq41 pmq41 anq41 cdq41 ctq41), slq41⟩)
    (cq41 : PySem.W.codeIn K cdq41 "Playing.state_list" = true)
    (kq41 : PySem.W.keepIn K (.ref fq41) = true)
    (aq42 : PySem.W.findIn K (.ref CPlaying) "is_whole" = some (some (.ref fq42)))
    (iq42 : PySem.W.isFn K (.ref fq42) = true)
    (nq42 : PySem.W.fnIn K fq42 = true)
    (lq42 : K.lookup fq42 = some ⟨ocq42, odq42, .func (PySem.W.fnOf "is_whole" "Playing.is_whole" (defArgs st_Playing_is_whole) (defBody st_Playing_is_whole) (defScope st_Playing_is_whole) .none kVq42 dcq42 pmq42 anq42 cdq42 ctq42), slq42⟩)
    (cq42 : PySem.W.codeIn K cdq42 "Playing.is_whole" = true)
    (kq42 : PySem.W.keepIn K (.ref fq42) = true)
    (aq43 : PySem.W.findIn K (.ref CPlaying) "log" = some (some (.ref fq43)))
    (iq43 : PySem.W.isFn K (.ref fq43) = true)
    (nq43 : PySem.W.fnIn K fq43 = true)
    (lq43 : K.lookup fq43 = some ⟨ocq43, odq43, .func (PySem.W.fnOf "log" "Playing.log" (defArgs st_Playing_log) (defBody st_Playing_log) (defScope st_Playing_log) .none kVq43 dcq43 pmq43 anq43 cdq43 ctq43), slq43⟩)
    (cq43 : PySem.W.codeIn K cdq43 "Playing.log" = true)
    (kq43 : PySem.W.keepIn K (.ref fq43) = true)
    (aq44 : PySem.W.findIn K (.ref CPlaying) "undo" = some (some (.ref fq44)))
    (iq44 : PySem.W.isFn K (.ref fq44) = true)
    (nq44 : PySem.W.fnIn K fq44 = true)
    (lq44 : K.lookup fq44 = some ⟨ocq44, odq44, .func (PySem.W.fnOf "undo" "Playing.undo" (defArgs st_Playing_undo) (defBody st_Playing_undo) (defScope st_Playing_undo) .none kVq44 dcq44 pmq44 anq44 cdq44 ctq44), slq44⟩)
    (cq44 : PySem.W.codeIn K cdq44 "Playing.undo" = true)
    (kq44 : PySem.W.keepIn K (.ref fq44) = true)
    (aq45 : PySem.W.findIn K (.ref CPlaying) "__eq__" = some (some (.ref fq45)))
    (iq45 : PySem.W.isFn K (.ref fq45) = true)
    (nq45 : PySem.W.fnIn K fq45 = true)
    (lq45 : K.lookup fq45 = some ⟨ocq45, odq45, .func (PySem.W.fnOf "__eq__" "Playing.__eq__" (defArgs st_Playing_eq) (defBody st_Playing_eq) (defScope st_Playing_eq) .none kVq45 dcq45 pmq45 anq45 cdq45 ctq45), slq45⟩)
    (cq45 : PySem.W.codeIn K cdq45 "Playing.__eq__" = true)
    (kq45 : PySem.W.keepIn K (.ref fq45) = true)
    (moRow_Playing : PySem.W.mroIn K CRow (.ref CPlaying) = some false)
    (moPlaying_Row : PySem.W.mroIn K CPlaying (.ref CRow) = some false)
    (gNMOST_BREAKERS : PySem.W.nsIn K mainGlobals "MOST_BREAKERS" = some (some (.int 12 tNMOST_BREAKERS)))
    (gNMOST_REQUESTS : PySem.W.nsIn K mainGlobals "MOST_REQUESTS" = some (some (.int 10000 tNMOST_REQUESTS)))
    (aY : PySem.W.nsIn K mainGlobals "law" = some (some (.ref aLaw)))
    (lY : K.lookup aLaw = some ⟨ocY, odY, .func (PySem.W.fnOf "law" "law" (defArgs st_law) (defBody st_law) (defScope st_law) .none kVY dcY pmY anY cdY ctY), slY⟩)
    (cY : PySem.W.codeIn K cdY "law" = true)
    (kY : PySem.W.keepIn K (.ref aLaw) = true)
    (z_bool : PySem.W.nsIn K mainGlobals "bool" = some none)
    (z_enumerate : PySem.W.nsIn K mainGlobals "enumerate" = some none)
    (z_int : PySem.W.nsIn K mainGlobals "int" = some none)
    (z_isinstance : PySem.W.nsIn K mainGlobals "isinstance" = some none)
    (z_len : PySem.W.nsIn K mainGlobals "len" = some none)
    (z_list : PySem.W.nsIn K mainGlobals "list" = some none)
    (z_range : PySem.W.nsIn K mainGlobals "range" = some none)
    (z_str : PySem.W.nsIn K mainGlobals "str" = some none)
    (z_sum : PySem.W.nsIn K mainGlobals "sum" = some none)
    (z_tuple : PySem.W.nsIn K mainGlobals "tuple" = some none)
    (z_zip : PySem.W.nsIn K mainGlobals "zip" = some none) :
    ∃ fd : FuncData, (∀ (s : Shared) (v : Value), BindsTo s fd ⟨[v], []⟩ [("_law_script", v)]) ∧ ∀ base : Heap, K.In base → base.Ns mainGlobals mg → FnOk P w K mg base CX0 12 fa fd ["_law_script"] (spLaw K) := by
  have e := hfa.symm.trans (PySem.W.mg_of X G aY)
  cases e
  obtain ⟨vMOST_COUNT, hvMOST_COUNT, rMOST_COUNT⟩ := LL.val _ hLMOST_COUNT
  obtain ⟨tMOST_COUNT, rfl, -⟩ := PySem.W.readsW_int_inv rMOST_COUNT
  obtain ⟨vMOST_TIME, hvMOST_TIME, rMOST_TIME⟩ := LL.val _ hLMOST_TIME
  obtain ⟨tMOST_TIME, rfl, -⟩ := PySem.W.readsW_int_inv rMOST_TIME
  have T : LX K mg ⟨fq0, fq1, fq2, fq3, fq4, fq5, fq6, fq7, fq8, fq9, fq10, fq11, fq12, fq13, fq14, fq15, fq16, fq17, fq18, fq19, fq20, fq21, fq22, fq23, fq24, fq25, fq26, fq27, fq28, fq29, CRow, aIRow, fq30, fq31, fq32, fq33, fq34, fq35, fq36, fq37, CPlaying, aIPlaying, fq38, fq39, fq40, fq41, fq42, fq43, fq44, fq45⟩ := ⟨PySem.W.mg_none_of X G z_bool,
    PySem.W.mg_none_of X G z_enumerate,
    PySem.W.mg_none_of X G z_int,
    PySem.W.mg_none_of X G z_isinstance,
    PySem.W.mg_none_of X G z_len,
    PySem.W.mg_none_of X G z_list,
    PySem.W.mg_none_of X G z_range,
    PySem.W.mg_none_of X G z_str,
    PySem.W.mg_none_of X G z_sum,
    PySem.W.mg_none_of X G z_tuple,
    PySem.W.mg_none_of X G z_zip,
    ⟨_, PySem.W.mg_of X G gNMOST_BREAKERS⟩,
    ⟨_, hvMOST_COUNT⟩,
    ⟨_, hvMOST_TIME⟩,
    ⟨_, PySem.W.mg_of X G gNMOST_REQUESTS⟩,
    ⟨_, PySem.W.mg_of X G gTSERVED, fun _ => .inr ⟨_, _, _, lTSERVED, rfl, rfl, (by show 1 ≤ sizeLine; decide), .cons ⟨_, rfl⟩ (.nil)⟩⟩,
    ⟨_, PySem.W.mg_of X G gTFAILED, fun _ => .inr ⟨_, _, _, lTFAILED, rfl, rfl, (by show 1 ≤ sizeLine; decide), .cons ⟨_, rfl⟩ (.nil)⟩⟩,
    mk_dfn X G aq0 lq0 cq0 kq0 bn_q0,
    mk_dfn X G aq1 lq1 cq1 kq1 bn_q1,
    mk_dfn X G aq2 lq2 cq2 kq2 bn_q2,
    mk_dfn X G aq3 lq3 cq3 kq3 bn_q3,
    mk_dfn X G aq4 lq4 cq4 kq4 bn_q4,
    mk_dfn X G aq5 lq5 cq5 kq5 bn_q5,
    mk_dfn X G aq6 lq6 cq6 kq6 bn_q6,
    mk_dfn X G aq7 lq7 cq7 kq7 bn_q7,
    mk_dfn X G aq8 lq8 cq8 kq8 bn_q8,
    mk_dfn X G aq9 lq9 cq9 kq9 bn_q9,
    mk_dfn X G aq10 lq10 cq10 kq10 bn_q10,
    mk_dfn X G aq11 lq11 cq11 kq11 bn_q11,
    mk_dfn X G aq12 lq12 cq12 kq12 bn_q12,
    mk_dfn X G aq13 lq13 cq13 kq13 bn_q13,
    mk_dfn X G aq14 lq14 cq14 kq14 bn_q14,
    mk_dfn X G aq15 lq15 cq15 kq15 bn_q15,
    mk_dfn X G aq16 lq16 cq16 kq16 bn_q16,
    mk_dfn X G aq17 lq17 cq17 kq17 bn_q17,
    mk_dfn X G aq18 lq18 cq18 kq18 bn_q18,
    mk_dfn X G aq19 lq19 cq19 kq19 bn_q19,
    mk_dfn X G aq20 lq20 cq20 kq20 bn_q20,
    mk_dfn X G aq21 lq21 cq21 kq21 bn_q21,
    mk_dfn X G aq22 lq22 cq22 kq22 bn_q22,
    mk_dfn X G aq23 lq23 cq23 kq23 bn_q23,
    mk_dfn X G aq24 lq24 cq24 kq24 bn_q24,
    mk_dfn X G aq25 lq25 cq25 kq25 bn_q25,
    mk_dfn X G aq26 lq26 cq26 kq26 bn_q26,
    mk_dfn X G aq27 lq27 cq27 kq27 bn_q27,
    mk_dfn X G aq28 lq28 cq28 kq28 bn_q28,
    mk_dfn X G aq29 lq29 cq29 kq29 bn_q29,
    PySem.W.mg_of X G gcRow,
    ⟨⟨gRow0, gRow1, gRow2, gRow3⟩, gRow6, gRow7, gRow8, gO1, gO2, gRow9, gRow10, gRow11⟩,
    ⟨gRow4, aNRow, iNRow, gRow5⟩,
    nfRow_breakers,
    nfRow_step,
    nfRow_phase,
    ⟨_, ⟨⟨ocNRow, odNRow, .none, .ref aDRow, dcNRow, pmNRow, anNRow, cdNRow, ctNRow, slNRow, rfl, lNRow, cNRow, .inl ⟨rfl, rfl⟩, .inr ⟨aDRow, rfl, fun q hq => by rw [List.mem_singleton.mp hq]; exact ⟨_, dRow, _, rfl⟩⟩⟩, kNRow⟩⟩,
    mk_mth aq30 iq30 nq30 lq30 cq30 kq30 bn_q30,
    mk_mth aq31 iq31 nq31 lq31 cq31 kq31 bn_q31,
    mk_mth aq32 iq32 nq32 lq32 cq32 kq32 bn_q32,
    mk_mth aq33 iq33 nq33 lq33 cq33 kq33 bn_q33,
    mk_mth aq34 iq34 nq34 lq34 cq34 kq34 bn_q34,
    mk_mth aq35 iq35 nq35 lq35 cq35 kq35 bn_q35,
    mk_mth aq36 iq36 nq36 lq36 cq36 kq36 bn_q36,
    mk_mth aq37 iq37 nq37 lq37 cq37 kq37 bn_q37,
    PySem.W.mg_of X G gcPlaying,
    ⟨⟨gPlaying0, gPlaying1, gPlaying2, gPlaying3⟩, gPlaying6, gPlaying7, gPlaying8, gO1, gO2, gPlaying9, gPlaying10, gPlaying11⟩,
    ⟨gPlaying4, aNPlaying, iNPlaying, gPlaying5⟩,
    nfPlaying_row,
    nfPlaying_words,
    nfPlaying_history,
    ⟨_, fun_mk lNPlaying cNPlaying kNPlaying, (fun_mk lNPlaying cNPlaying kNPlaying).binds bn_NPlaying⟩,
    mk_mth aq38 iq38 nq38 lq38 cq38 kq38 bn_q38,
    mk_mth aq39 iq39 nq39 lq39 cq39 kq39 bn_q39,
    mk_mth aq40 iq40 nq40 lq40 cq40 kq40 bn_q40,
    mk_mth aq41 iq41 nq41 lq41 cq41 kq41 bn_q41,
    mk_mth aq42 iq42 nq42 lq42 cq42 kq42 bn_q42,
    mk_mth aq43 iq43 nq43 lq43 cq43 kq43 bn_q43,
    mk_mth aq44 iq44 nq44 lq44 cq44 kq44 bn_q44,
    mk_mth aq45 iq45 nq45 lq45 cq45 kq45 bn_q45,
    moRow_Playing,
    moPlaying_Row⟩
  exact ⟨_, fun s v => .of_eq rfl, fun base _ _ => ok_law (fun_mk lY cY kY) T⟩
/-- as the hand layer's end, with what the loose names hold -/
theorem walk_loose {l : PySem.W.OpenLaw} {q p : Program} {lv : List (Str × PySem.W.WData)} {loose : List Str} {YP : World → Heap → Prop} {d : DefRec} {K : Params → PySem.W.Frag} (hn : l.most = some 63) (hd : d.params.defaults = []) (hY : ∀ (w : World) (h : Heap), YP w h → (K w.params).In h)
    (F : ∀ (w : World) (mg : Str → Option Value) (fa : Addr) (h : Heap), (K w.params).In h → h.Ns mainGlobals mg → PySem.W.LooseAre lv mg h → mg d.name = some (.ref fa) → ∃ fd : FuncData, (∀ (s : Shared) (u : Value), BindsTo s fd ⟨[u], []⟩ [("_law_script", u)]) ∧ ∀ base : Heap, (K w.params).In base → base.Ns mainGlobals mg → FnOk l.prog w (K w.params) mg base CX0 12 fa fd ["_law_script"] (spLaw (K w.params))) :
    PySem.W.WalkO q loose (PySem.W.XL p lv) YP l.row.toRowW d [] (fun f vs => PySem.call f vs) := Att.attach_call hn hd fun w _ s₁ mg mb fa _ _ _ _ a vs ns G Y _ _ _ hmg hobj hints hlen hg => by
  obtain ⟨fd, hb, hF⟩ := F w mg fa s₁.heap (hY w s₁.heap Y) G.T.g G.X.2 hmg
  exact law_call (hY w s₁.heap Y) G.T.g G.T.b G.T.builtins G.T.nolimit hg hobj hints (Nat.le_trans hlen (by decide)) ⟨rfl, by decide, by decide⟩ hF hb (fun H _ hS => ⟨a, ns, rfl, hS, hlen, fun _ => rfl⟩) fun _ _ _ z => z

end Toy
open PySem PySem.W PyProof.Rows
set_option maxRecDepth 100000 in
set_option maxHeartbeats 0 in
theorem PySem.Challenge.cw_breakerrow_k56_playings_of_rows_kept_apa_holds : PySem.Challenge.rw_breakerrow_k56_playings_of_rows_kept_apa.Holds := by
  w_on; o_law; k_head; (case hw => w_witness2)
  k_fill
  refine Toy.walk_loose (l := PySem.Challenge.rw_breakerrow_k56_playings_of_rows_kept_apa) rfl rfl (fun w h Y => PySem.W.kIn_of Y) ?F
  intro w mg fa h KX G LL hmg
  refine' Toy.all_mk KX G LL (by first | exact .head _ | exact .tail _ (.head _) | exact .tail _ (.tail _ (.head _)) | exact .tail _ (.tail _ (.tail _ (.head _))) | exact .tail _ (.tail _ (.tail _ (.tail _ (.head _)))) | exact .tail _ (.tail _ (.tail _ (.tail _ (.tail _ (.head _))))) | exact .tail _ (.tail _ (.tail _ (.tail _ (.tail _ (.tail _ (.head _)))))) | exact .tail _ (.tail _ (.tail _ (.tail _ (.tail _ (.tail _ (.tail _ (.head _))))))) | exact .tail _ (.tail _ (.tail _ (.tail _ (.tail _ (.tail _ (.tail _ (.tail _ (.head _)))))))) | exact .tail _ (.tail _ (.tail _ (.tail _ (.tail _ (.tail _ (.tail _ (.tail _ (.tail _ (.head _)))))))))) (by first | exact .head _ | exact .tail _ (.head _) | exact .tail _ (.tail _ (.head _)) | exact .tail _ (.tail _ (.tail _ (.head _))) | exact .tail _ (.tail _ (.tail _ (.tail _ (.head _)))) | exact .tail _ (.tail _ (.tail _ (.tail _ (.tail _ (.head _))))) | exact .tail _ (.tail _ (.tail _ (.tail _ (.tail _ (.tail _ (.head _)))))) | exact .tail _ (.tail _ (.tail _ (.tail _ (.tail _ (.tail _ (.tail _ (.head _))))))) | exact .tail _ (.tail _ (.tail _ (.tail _ (.tail _ (.tail _ (.tail _ (.tail _ (.head _)))))))) | exact .tail _ (.tail _ (.tail _ (.tail _ (.tail _ (.tail _ (.tail _ (.tail _ (.tail _ (.head _)))))))))) hmg ?gTSERVED ?lTSERVED ?gTFAILED ?lTFAILED ?aq0 ?lq0 ?cq0 ?kq0 ?aq1 ?lq1 ?cq1 ?kq1 ?aq2 ?lq2 ?cq2 ?kq2 ?aq3 ?lq3 ?cq3 ?kq3 ?aq4 ?lq4 ?cq4 ?kq4 ?aq5 ?lq5 ?cq5 ?kq5 ?aq6 ?lq6 ?cq6 ?kq6 ?aq7 ?lq7 ?cq7 ?kq7 ?aq8 ?lq8 ?cq8 ?kq8 ?aq9 ?lq9 ?cq9 ?kq9 ?aq10 ?lq10 ?cq10 ?kq10 ?aq11 ?lq11 ?cq11 ?kq11 ?aq12 ?lq12 ?cq12 ?kq12 ?aq13 ?lq13 ?cq13 ?kq13 ?aq14 ?lq14 ?cq14 ?kq14 ?aq15 ?lq15 ?cq15 ?kq15 ?aq16 ?lq16 ?cq16 ?kq16 ?aq17 ?lq17 ?cq17 ?kq17 ?aq18 ?lq18 ?cq18 ?kq18 ?aq19 ?lq19 ?cq19 ?kq19 ?aq20 ?lq20 ?cq20 ?kq20 ?aq21 ?lq21 ?cq21 ?kq21 ?aq22 ?lq22 ?cq22 ?kq22 ?aq23 ?lq23 ?cq23 ?kq23 ?aq24 ?lq24 ?cq24 ?kq24 ?aq25 ?lq25 ?cq25 ?kq25 ?aq26 ?lq26 ?cq26 ?kq26 ?aq27 ?lq27 ?cq27 ?kq27 ?aq28 ?lq28 ?cq28 ?kq28 ?aq29 ?lq29 ?cq29 ?kq29 ?gcRow ?gRow0 ?gRow1 ?gRow2 ?gRow3 ?gRow4 ?gRow5 ?gRow6 ?gRow7 ?gRow8 ?gRow9 ?gRow10 ?gRow11 ?gO1 ?gO2 ?nfRow_breakers ?nfRow_step ?nfRow_phase ?aNRow ?iNRow ?lNRow ?cNRow ?kNRow ?dRow ?aq30 ?iq30 ?nq30 ?lq30 ?cq30 ?kq30 ?aq31 ?iq31 ?nq31 ?lq31 ?cq31 ?kq31 ?aq32 ?iq32 ?nq32 ?lq32 ?cq32 ?kq32 ?aq33 ?iq33 ?nq33 ?lq33 ?cq33 ?kq33 ?aq34 ?iq34 ?nq34 ?lq34 ?cq34 ?kq34 ?aq35 ?iq35 ?nq35 ?lq35 ?cq35 ?kq35 ?aq36 ?iq36 ?nq36 ?lq36 ?cq36 ?kq36 ?aq37 ?iq37 ?nq37 ?lq37 ?cq37 ?kq37 ?gcPlaying ?gPlaying0 ?gPlaying1 ?gPlaying2 ?gPlaying3 ?gPlaying4 ?gPlaying5 ?gPlaying6 ?gPlaying7 ?gPlaying8 ?gPlaying9 ?gPlaying10 ?gPlaying11 ?nfPlaying_row ?nfPlaying_words ?nfPlaying_history ?aNPlaying ?iNPlaying ?lNPlaying ?cNPlaying ?kNPlaying ?aq38 ?iq38 ?nq38 ?lq38 ?cq38 ?kq38 ?aq39 ?iq39 ?nq39 ?lq39 ?cq39 ?kq39 ?aq40 ?iq40 ?nq40 ?lq40 ?cq40 ?kq40 ?aq41 ?iq41 ?nq41 ?lq41 ?cq41 ?kq41 ?aq42 ?iq42 ?nq42 ?lq42 ?cq42 ?kq42 ?aq43 ?iq43 ?nq43 ?lq43 ?cq43 ?kq43 ?aq44 ?iq44 ?nq44 ?lq44 ?cq44 ?kq44 ?aq45 ?iq45 ?nq45 ?lq45 ?cq45 ?kq45 ?moRow_Playing ?moPlaying_Row ?gNMOST_BREAKERS ?gNMOST_REQUESTS ?aY ?lY ?cY ?kY ?z_bool ?z_enumerate ?z_int ?z_isinstance ?z_len ?z_list ?z_range ?z_str ?z_sum ?z_tuple ?z_zip
  (case gTSERVED => k_is)
  (case lTSERVED => k_is)
  (case gTFAILED => k_is)
  (case lTFAILED => k_is)
  (case aq0 => k_is)
  (case lq0 => k_is)
  (case cq0 => k_is)
  (case kq0 => k_is)
  (case aq1 => k_is)
  (case lq1 => k_is)
  (case cq1 => k_is)
  (case kq1 => k_is)
  (case aq2 => k_is)
  (case lq2 => k_is)
  (case cq2 => k_is)
  (case kq2 => k_is)
  (case aq3 => k_is)
  (case lq3 => k_is)
  (case cq3 => k_is)
  (case kq3 => k_is)
  (case aq4 => k_is)
  (case lq4 => k_is)
  (case cq4 => k_is)
  (case kq4 => k_is)
  (case aq5 => k_is)
  (case lq5 => k_is)
  (case cq5 => k_is)
  (case kq5 => k_is)
  (case aq6 => k_is)
  (case lq6 => k_is)
  (case cq6 => k_is)
  (case kq6 => k_is)
  (case aq7 => k_is)
  (case lq7 => k_is)
  (case cq7 => k_is)
  (case kq7 => k_is)
  (case aq8 => k_is)
  (case lq8 => k_is)
  (case cq8 => k_is)
  (case kq8 => k_is)
  (case aq9 => k_is)
  (case lq9 => k_is)
  (case cq9 => k_is)
  (case kq9 => k_is)
  (case aq10 => k_is)
  (case lq10 => k_is)
  (case cq10 => k_is)
  (case kq10 => k_is)
  (case aq11 => k_is)
  (case lq11 => k_is)
  (case cq11 => k_is)
  (case kq11 => k_is)
  (case aq12 => k_is)
  (case lq12 => k_is)
  (case cq12 => k_is)
  (case kq12 => k_is)
  (case aq13 => k_is)
  (case lq13 => k_is)
  (case cq13 => k_is)
  (case kq13 => k_is)
  (case aq14 => k_is)
  (case lq14 => k_is)
  (case cq14 => k_is)
  (case kq14 => k_is)
  (case aq15 => k_is)
  (case lq15 => k_is)
  (case cq15 => k_is)
  (case kq15 => k_is)
  (case aq16 => k_is)
  (case lq16 => k_is)
  (case cq16 => k_is)
  (case kq16 => k_is)
  (case aq17 => k_is)
  (case lq17 => k_is)
  (case cq17 => k_is)
  (case kq17 => k_is)
  (case aq18 => k_is)
  (case lq18 => k_is)
  (case cq18 => k_is)
  (case kq18 => k_is)
  (case aq19 => k_is)
  (case lq19 => k_is)
  (case cq19 => k_is)
  (case kq19 => k_is)
  (case aq20 => k_is)
  (case lq20 => k_is)
  (case cq20 => k_is)
  (case kq20 => k_is)
  (case aq21 => k_is)
  (case lq21 => k_is)
  (case cq21 => k_is)
  (case kq21 => k_is)
  (case aq22 => k_is)
  (case lq22 => k_is)
  (case cq22 => k_is)
  (case kq22 => k_is)
  (case aq23 => k_is)
  (case lq23 => k_is)
  (case cq23 => k_is)
  (case kq23 => k_is)
  (case aq24 => k_is)
  (case lq24 => k_is)
  (case cq24 => k_is)
  (case kq24 => k_is)
  (case aq25 => k_is)
  (case lq25 => k_is)
  (case cq25 => k_is)
  (case kq25 => k_is)
  (case aq26 => k_is)
  (case lq26 => k_is)
  (case cq26 => k_is)
  (case kq26 => k_is)
  (case aq27 => k_is)
  (case lq27 => k_is)
  (case cq27 => k_is)
  (case kq27 => k_is)
  (case aq28 => k_is)
  (case lq28 => k_is)
  (case cq28 => k_is)
  (case kq28 => k_is)
  (case aq29 => k_is)
  (case lq29 => k_is)
  (case cq29 => k_is)
  (case kq29 => k_is)
  (case gcRow => k_is)
  (case gRow0 => k_is)
  (case gRow1 => k_is)
  (case gRow2 => k_is)
  (case gRow3 => k_is)
  (case gRow4 => k_is)
  (case gRow5 => k_is)
  (case gRow6 => k_is)
  (case gRow7 => k_is)
  (case gRow8 => k_is)
  (case gRow9 => k_is)
  (case gRow10 => k_is)
  (case gRow11 => k_is)
  (case gO1 => k_is)
  (case gO2 => k_is)
  (case nfRow_breakers => k_is)
  (case nfRow_step => k_is)
  (case nfRow_phase => k_is)
  (case aNRow => k_is)
  (case iNRow => k_is)
  (case lNRow => k_is)
  (case cNRow => k_is)
  (case kNRow => k_is)
  (case dRow => k_is)
  (case aq30 => k_is)
  (case iq30 => k_is)
  (case nq30 => k_is)
  (case lq30 => k_is)
  (case cq30 => k_is)
  (case kq30 => k_is)
  (case aq31 => k_is)
  (case iq31 => k_is)
  (case nq31 => k_is)
  (case lq31 => k_is)
  (case cq31 => k_is)
  (case kq31 => k_is)
  (case aq32 => k_is)
  (case iq32 => k_is)
  (case nq32 => k_is)
  (case lq32 => k_is)
  (case cq32 => k_is)
  (case kq32 => k_is)
  (case aq33 => k_is)
  (case iq33 => k_is)
  (case nq33 => k_is)
  (case lq33 => k_is)
  (case cq33 => k_is)
  (case kq33 => k_is)
  (case aq34 => k_is)
  (case iq34 => k_is)
  (case nq34 => k_is)
  (case lq34 => k_is)
  (case cq34 => k_is)
  (case kq34 => k_is)
  (case aq35 => k_is)
  (case iq35 => k_is)
  (case nq35 => k_is)
  (case lq35 => k_is)
  (case cq35 => k_is)
  (case kq35 => k_is)
  (case aq36 => k_is)
  (case iq36 => k_is)
  (case nq36 => k_is)
  (case lq36 => k_is)
  (case cq36 => k_is)
  (case kq36 => k_is)
  (case aq37 => k_is)
  (case iq37 => k_is)
  (case nq37 => k_is)
  (case lq37 => k_is)
  (case cq37 => k_is)
  (case kq37 => k_is)
  (case gcPlaying => k_is)
  (case gPlaying0 => k_is)
  (case gPlaying1 => k_is)
  (case gPlaying2 => k_is)
  (case gPlaying3 => k_is)
  (case gPlaying4 => k_is)
  (case gPlaying5 => k_is)
  (case gPlaying6 => k_is)
  (case gPlaying7 => k_is)
  (case gPlaying8 => k_is)
  (case gPlaying9 => k_is)
  (case gPlaying10 => k_is)
  (case gPlaying11 => k_is)
  (case nfPlaying_row => k_is)
  (case nfPlaying_words => k_is)
  (case nfPlaying_history => k_is)
  (case aNPlaying => k_is)
  (case iNPlaying => k_is)
  (case lNPlaying => k_is)
  (case cNPlaying => k_is)
  (case kNPlaying => k_is)
  (case aq38 => k_is)
  (case iq38 => k_is)
  (case nq38 => k_is)
  (case lq38 => k_is)
  (case cq38 => k_is)
  (case kq38 => k_is)
  (case aq39 => k_is)
  (case iq39 => k_is)
  (case nq39 => k_is)
  (case lq39 => k_is)
  (case cq39 => k_is)
  (case kq39 => k_is)
  (case aq40 => k_is)
  (case iq40 => k_is)
  (case nq40 => k_is)
  (case lq40 => k_is)
  (case cq40 => k_is)
  (case kq40 => k_is)
  (case aq41 => k_is)
  (case iq41 => k_is)
  (case nq41 => k_is)
  (case lq41 => k_is)
  (case cq41 => k_is)
  (case kq41 => k_is)
  (case aq42 => k_is)
  (case iq42 => k_is)
  (case nq42 => k_is)
  (case lq42 => k_is)
  (case cq42 => k_is)
  (case kq42 => k_is)
  (case aq43 => k_is)
  (case iq43 => k_is)
  (case nq43 => k_is)
  (case lq43 => k_is)
  (case cq43 => k_is)
  (case kq43 => k_is)
  (case aq44 => k_is)
  (case iq44 => k_is)
  (case nq44 => k_is)
  (case lq44 => k_is)
  (case cq44 => k_is)
  (case kq44 => k_is)
  (case aq45 => k_is)
  (case iq45 => k_is)
  (case nq45 => k_is)
  (case lq45 => k_is)
  (case cq45 => k_is)
  (case kq45 => k_is)
  (case moRow_Playing => k_is)
  (case moPlaying_Row => k_is)
  (case gNMOST_BREAKERS => k_is)
  (case gNMOST_REQUESTS => k_is)
  (case aY => k_is)
  (case lY => k_is)
  (case cY => k_is)
  (case kY => k_is)
  (case z_bool => k_is)
  (case z_enumerate => k_is)
  (case z_int => k_is)
  (case z_isinstance => k_is)
  (case z_len => k_is)
  (case z_list => k_is)
  (case z_range => k_is)
  (case z_str => k_is)
  (case z_sum => k_is)
  (case z_tuple => k_is)
  (case z_zip => k_is)
