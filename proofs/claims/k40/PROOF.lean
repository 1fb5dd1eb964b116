import PyProof.Rows.All
import Wide.All
import OpenK.AllK
import Wide.FinOn
import HandS.ForMost
import HandS.IsInst
import HandS.Wide
import HandS.Style
import HandS.Defaults
import HandS.MakeKwOnly
import HandS.Zip
import HandS.SortRule
import HandS.TupAny
import HandS.Lambda
import KE.GoesEnum
import HandS.Flow
import HandS.Codes
import HandS.WideBits
import HandS.OwnEq
import HandS.TryOnly
import HandS.TupLe
import HandS.SetFor
import KE.DataMinMax
import HandS.Conv
import KE.DataFind
import PyProof.Rows.CallKwBuiltin
import PyProof.LongRange
import PySem.Challenge.RW_breakerrow_k40_lowerings_and_raises_trie
set_option Elab.async false
set_option linter.all false
set_option maxRecDepth 100000
set_option maxHeartbeats 4000000
namespace Own
open PySem PySem.Spec PyProof.Rows L2
open Builtin

section
variable {X : Cx} {CX : CXT} {k : Nat} {f C : Addr} {fd : FuncData} {ps : List Str} {sp : Sp} {E : XK}

theorem rr {p : Addr} : L2.RelV (.ref p) (.ref p) := rfl
/-- a promise used under any frame below the body -/
theorem run_at {A : Around} {pins : List (Addr × Obj)} {σ : L2.St} {H : Hp} {s : Shared} {Q : VK} {us : List Value} {vs : List V} (F : FnOk X.prog X.w X.K X.mg X.base CX k f fd ps sp) (hr : Room k A) (hA : A.frames = X.A.frames)
    (hb : Binds X.K fd ps []) (hx : Passes CX X E) (I : Inv X pins σ H s) (r : Vals vs us) (h : sp vs H Q E) : wpAny (model X.prog X.w) A (call (.ref f) us) (EP X pins σ Q) X.xe s := by
  have hl : us.length = ps.length := by rw [← r.length]; exact F.len _ _ _ _ h
  have e0 : Env0 X.prog X.w X.K X.mg X.base A X.stack s H := by
    have e := I.env0
    exact ⟨by rw [hA]; exact e.frames, e.mod, e.bs, e.bsz, e.funs, e.frf, e.hok, e.bare⟩
  have hB : BindsTo s fd ⟨us, []⟩ (ps.zip us) := by
    have := hb s us I.kIn (by rw [List.append_nil]; exact hl)
    rwa [List.append_nil] at this
  refine wpAny_call (codeAny_mono (F.run A X.stack s H ⟨us, []⟩ us vs Q E hr e0 hB r h) fun r s' hq => ?_)
  cases r with
  | error e => exact hx pins σ H s e s' I hq
  | ok fl =>
    cases fl with
    | ret u => exact I.after hq
    | next => exact False.elim hq
    | brk => exact False.elim hq
    | cont => exact False.elim hq

theorem inst_of {pins : List (Addr × Obj)} {σ : L2.St} {H : Hp} {s : Shared} {p dx : Addr} {fs : List (Str × V)} (I : Inv X pins σ H s) (e : H p = some (.ins C dx fs)) : ∃ od, PySem.W.InstAt s.heap p (PySem.W.instObj C dx) C od := by
  obtain ⟨mA, O, _⟩ := ins_get I.hok e
  obtain ⟨od, J, _⟩ := O.look
  exact ⟨_, J⟩

/-- a bool is wanted of the method -/
def BlQ (Q : VK) (g : Bool → Bool) : VK := fun v H' => ∃ b, v = .bl b ∧ Q (.bl (g b)) H'
def rOwnIn (C : Addr) (sp : Sp) (E : XK) (g : Bool → Bool) : R2 := fun x y H Q => ∃ p dx fs, y = .ref p ∧ H p = some (.ins C dx fs) ∧ sp [.ref p, x] H (BlQ Q g) E
theorem op_own_in (F : FnOk X.prog X.w X.K X.mg X.base CX k f fd ps sp) (hr : Room k X.A) (hs : PySem.W.findIn X.K (.ref C) "__contains__" = some (some (.ref f))) (hf : PySem.W.isFn X.K (.ref f) = true) (hb : Binds X.K fd ps []) (hx : Passes CX X E) :
    OpR X (compareOp .In) (rOwnIn C sp E id) := by
  intro pins s σ H x y v u Q I rx ry h
  obtain ⟨p, dx, fs, rfl, hp, q⟩ := h
  cases ry
  obtain ⟨od, J⟩ := inst_of I hp
  obtain ⟨m, hF⟩ := I.fr
  refine PySem.W.in_K hF I.ok.mod.kin J hs hf (thn (run_at F hr rfl hb hx I (.cons rr (.cons rx .nil)) q) fun r s' hh => ?_)
  obtain ⟨z, H', I', rz, b, ez, q'⟩ := hh
  subst ez
  cases rz
  exact wpAny_truthy_bool ⟨.bl b, H', I', rfl, q'⟩
theorem op_own_notin (F : FnOk X.prog X.w X.K X.mg X.base CX k f fd ps sp) (hr : Room k X.A) (hs : PySem.W.findIn X.K (.ref C) "__contains__" = some (some (.ref f))) (hf : PySem.W.isFn X.K (.ref f) = true) (hb : Binds X.K fd ps []) (hx : Passes CX X E) :
    OpR X (compareOp .NotIn) (rOwnIn C sp E not) := by
  intro pins s σ H x y v u Q I rx ry h
  obtain ⟨p, dx, fs, rfl, hp, q⟩ := h
  cases ry
  obtain ⟨od, J⟩ := inst_of I hp
  obtain ⟨m, hF⟩ := I.fr
  refine PySem.W.notIn_K hF I.ok.mod.kin J hs hf (thn (run_at F hr rfl hb hx I (.cons rr (.cons rx .nil)) q) fun r s' hh => ?_)
  obtain ⟨z, H', I', rz, b, ez, q'⟩ := hh
  subst ez
  cases rz
  exact wpAny_truthy_bool ⟨.bl (!b), H', I', rfl, q'⟩
/-- len(o) -/
def rOwnLen (C : Addr) (sp : Sp) (E : XK) : List V → Hp → VK → Prop := fun xs H Q => ∃ p dx fs, xs = [.ref p] ∧ H p = some (.ins C dx fs) ∧ sp [.ref p] H (fun v H' => ∃ n : Int, v = .int n ∧ 0 ≤ n ∧ n < 2 ^ 63 ∧ Q (.int n) H') E
theorem call_own_len (F : FnOk X.prog X.w X.K X.mg X.base CX k f fd ps sp) (hr : Room (k + 1) X.A) (hs : PySem.W.findIn X.K (.ref C) "__len__" = some (some (.ref f))) (hf : PySem.W.isFn X.K (.ref f) = true) (hb : Binds X.K fd ps []) (hx : Passes CX X E) :
    CallR X (.builtin "len") (rOwnLen C sp E) := by
  intro pins s σ H xs us Q I r h
  obtain ⟨p, dx, fs, rfl, hp, q⟩ := h
  obtain ⟨u, rfl, ru⟩ := vals1 r
  cases ru
  obtain ⟨od, J⟩ := inst_of I hp
  obtain ⟨m, hF⟩ := I.fr
  refine PySem.W.len_K hF I.ok.mod.kin J hs hf (thn (run_at F hr.in1 rfl hb hx I (.cons rr .nil) q) fun r s' hh => ?_)
  obtain ⟨z, H', I', rz, n, ez, h0, h1, q'⟩ := hh
  subst ez
  obtain ⟨t, rfl⟩ := rz
  exact ⟨⟨h0, h1⟩, ⟨.int n, H', I'.tok _, ⟨_, rfl⟩, q'⟩⟩
/-- o + p, both of the class -/
def rOwnAdd (C : Addr) (sp : Sp) (E : XK) : R2 := fun x y H Q => ∃ p dx fs q dy gs, x = .ref p ∧ H p = some (.ins C dx fs) ∧ y = .ref q ∧ H q = some (.ins C dy gs) ∧ sp [.ref p, .ref q] H (fun v H' => (∃ a, v = .ref a) ∧ Q v H') E
theorem op_own_add (F : FnOk X.prog X.w X.K X.mg X.base CX k f fd ps sp) (hr : Room k X.A) (hc : PySem.W.selfFirst X.K C = true) (hs : PySem.W.findIn X.K (.ref C) "__add__" = some (some (.ref f))) (hf : PySem.W.isFn X.K (.ref f) = true) (hb : Binds X.K fd ps []) (hx : Passes CX X E) :
    OpR X (binaryOp .Add) (rOwnAdd C sp E) := by
  intro pins s σ H x y v u Q I rx ry h
  obtain ⟨p, dx, fs, q, dy, gs, rfl, hp, rfl, hq, hh⟩ := h
  cases rx
  cases ry
  obtain ⟨od, J⟩ := inst_of I hp
  obtain ⟨od', J'⟩ := inst_of I hq
  obtain ⟨m, hF⟩ := I.fr
  refine PySem.W.binop_K hF I.ok.mod.kin J J'.type hc hs hf (thn (run_at F hr rfl hb hx I (.cons rr (.cons rr .nil)) hh) fun r s' hh => ?_)
  obtain ⟨z, H', I', rz, ⟨a, ez⟩, q'⟩ := hh
  subst ez
  cases rz
  exact ⟨.ref a, H', I', rfl, q'⟩
/-- o[i] -/
def rOwnIx (C : Addr) (sp : Sp) (E : XK) : R2 := fun x y H Q => ∃ p dx fs, x = .ref p ∧ H p = some (.ins C dx fs) ∧ sp [.ref p, y] H Q E
theorem pe_own_ix {a b : Expr} {ta tb : TE} {pos : Pos} (F : FnOk X.prog X.w X.K X.mg X.base CX k f fd ps sp) (hr : Room (k + 1) X.A) (hs : PySem.W.findIn X.K (.ref C) "__getitem__" = some (some (.ref f))) (hfn : PySem.W.fnIn X.K f = true) (hf : PySem.W.isFn X.K (.ref f) = true)
    (hb : Binds X.K fd ps []) (hx : Passes CX X E) (ha : PE X a ta) (hb' : PE X b tb) (hsl : ∀ o i, subscripted b true o i = runValue (.builtin "lifetime.subscript" ⟨[o, i], []⟩) := by exact fun _ _ => rfl) :
    PE X (.Subscript a b pos) (tOp (rOwnIx C sp E) ta tb) := by
  refine ⟨fun pins s σ H Q I h => ?_⟩
  refine Subscript_ (binT ha hb' I h fun v u s2 x y H2 I2 rx ry q => ?_)
  obtain ⟨p, dx, fs, rfl, hp, q⟩ := q
  cases rx
  obtain ⟨od, J⟩ := inst_of I2 hp
  obtain ⟨m, hF⟩ := I2.fr
  exact PySem.W.sub_K hF I2.ok.mod.kin J hs hfn hf (run_at F hr.in1 rfl hb hx I2 (.cons rr (.cons ry .nil)) q) (hsl _ _)

/-! ### own == and the != that comes with it -/
theorem sub_ty {K : PySem.W.Frag} {C : Addr} {T : String} {l : List String} (e : fastBuiltinMro T = some (l.map Value.type)) : PySem.W.subIn K (.type T) (.ref C) = some false := by
  show (fastBuiltinMro T).map (·.contains (.ref C)) = some false
  rw [e]
  have : ∀ l : List String, (l.map Value.type).contains (Value.ref C) = false := by
    intro l
    induction l with
    | nil => rfl
    | cons a r ih =>
      rw [List.map_cons, List.contains_cons, ih]
      rfl
  rw [Option.map_some, this]
/-- a value's type, not one below the class C -/
inductive TyN (H : Hp) (C : Addr) : V → Value → Prop where
  | non : TyN H C .non (.type "NoneType")
  | bl (x : Bool) : TyN H C (.bl x) (.type "bool")
  | int (i : Int) : TyN H C (.int i) (.type "int")
  | str (x : Str) : TyN H C (.str x) (.type "str")
  | lst {a : Addr} {xs : List V} (e : H a = some (.lst xs)) : TyN H C (.ref a) (.type "list")
  | tup {a : Addr} {xs : List V} (e : H a = some (.tup xs)) : TyN H C (.ref a) (.type "tuple")
  | ins {a dx : Addr} {fs : List (Str × V)} (e : H a = some (.ins C dx fs)) : TyN H C (.ref a) (.ref C)
theorem TyN.notFirst {K : PySem.W.Frag} {H : Hp} {x : V} {t : Value} (h : TyN H C x t) : PySem.W.notFirst K C t = true := by
  cases h with
  | non => exact Bool.or_eq_true_iff.mpr (.inr (beq_iff_eq.mpr (sub_ty (l := ["NoneType", "object"]) (by decide +kernel))))
  | bl _ => exact Bool.or_eq_true_iff.mpr (.inr (beq_iff_eq.mpr (sub_ty (l := ["bool", "int", "object"]) (by decide +kernel))))
  | int _ => exact Bool.or_eq_true_iff.mpr (.inr (beq_iff_eq.mpr (sub_ty (l := ["int", "object"]) (by decide +kernel))))
  | str _ => exact Bool.or_eq_true_iff.mpr (.inr (beq_iff_eq.mpr (sub_ty (l := ["str", "object"]) (by decide +kernel))))
  | lst _ => exact Bool.or_eq_true_iff.mpr (.inr (beq_iff_eq.mpr (sub_ty (l := ["list", "object"]) (by decide +kernel))))
  | tup _ => exact Bool.or_eq_true_iff.mpr (.inr (beq_iff_eq.mpr (sub_ty (l := ["tuple", "object"]) (by decide +kernel))))
  | ins _ => exact Bool.or_eq_true_iff.mpr (.inl (by simp))
theorem looks_obj {M : Model} {h : Heap} {a : Addr} {o : Obj} (e : h.get? a = some o) : PySem.W.Looks M h (typeOf (.ref a)) o.cls := fun A Q E s kp q => PySem.wpAny_typeOf_ref (kp _ _ e) q
theorem TyN.looks {M : Model} {pins : List (Addr × Obj)} {σ : L2.St} {H : Hp} {s : Shared} {x : V} {u t : Value} (I : Inv X pins σ H s) (r : RelV x u) (h : TyN H C x t) : PySem.W.Looks M s.heap (typeOf u) t := by
  cases h with
  | non => cases r; exact PySem.W.Looks.of_pure rfl
  | bl _ => cases r; exact PySem.W.Looks.of_pure rfl
  | int _ => obtain ⟨_, rfl⟩ := r; exact PySem.W.Looks.of_pure rfl
  | str _ => obtain ⟨_, rfl⟩ := r; exact PySem.W.Looks.of_pure rfl
  | @lst a xs e =>
    cases r
    obtain ⟨_, _, n, _, h1⟩ := (show ObjOk X.prog X.w H s.heap a (.lst xs) from I.hok a _ e)
    exact looks_obj h1
  | @tup a xs e =>
    cases r
    obtain ⟨_, _, _, o, h1, h2, _⟩ := (show ObjOk X.prog X.w H s.heap a (.tup xs) from I.hok a _ e)
    have := looks_obj (M := M) h1
    rw [h2] at this
    exact this
  | ins e =>
    cases r
    obtain ⟨od, J⟩ := inst_of I e
    exact J.type
def rOwnEq (C : Addr) (sp : Sp) (E : XK) (g : Bool → Bool) : R2 := fun x y H Q => ∃ p dx fs t, x = .ref p ∧ H p = some (.ins C dx fs) ∧ TyN H C y t ∧ sp [.ref p, y] H (BlQ Q g) E
theorem op_own_eq (F : FnOk X.prog X.w X.K X.mg X.base CX k f fd ps sp) (hr : Room k X.A) (hs : PySem.W.findIn X.K (.ref C) "__eq__" = some (some (.ref f))) (hf : PySem.W.isFn X.K (.ref f) = true) (hb : Binds X.K fd ps []) (hx : Passes CX X E) :
    OpR X (compareOp .Eq) (rOwnEq C sp E id) := by
  intro pins s σ H x y v u Q I rx ry h
  obtain ⟨p, dx, fs, t, rfl, hp, ty, q⟩ := h
  cases rx
  obtain ⟨od, J⟩ := inst_of I hp
  obtain ⟨m, hF⟩ := I.fr
  show wpAny (model X.prog X.w) X.A (richCompare .Eq (.ref p) u) (EP X pins σ Q) X.xe s
  refine PySem.W.cmp_K (op := .Eq) hr.units0 hF I.ok.mod.kin J (ty.looks I ry) ty.notFirst hs hf (thn (run_at F hr rfl hb hx I (.cons rr (.cons ry .nil)) q) fun r s' hh => ?_)
  obtain ⟨z, H', I', rz, b, ez, q'⟩ := hh
  subst ez
  cases rz
  exact ⟨.bl b, H', I', rfl, q'⟩
section
variable {prog : Program} {w : World} {A : Around} {E' : Value → Shared → Prop} {s : Shared} {K : PySem.W.Frag} {x : Addr} {ox : Obj} {od : Option Obj} {b : Value}
theorem objNe_entry (hX : K.In s.heap) (I : PySem.W.InstAt s.heap x ox C od) (hs : PySem.W.findIn K (.ref C) "__eq__" = some (some (.ref f))) (hf : PySem.W.isFn K (.ref f) = true) (hu : A.units < cLine) {Q : Fin → Shared → Prop}
    (hcall : wpAny (model prog w) A (call (.ref f) [.ref x, b]) (fun v s' => ∃ k, v = .bool k ∧ Q (.done (.ret (.bool (!k)))) s') E' s) :
    wpAny (model prog w) A (Builtin.«object.__ne__» ⟨[.ref x, b], []⟩) Q E' s := by
  unfold Builtin.«object.__ne__»
  repeat (first
    | with_reducible refine wpAny_cRoomFor hu ?_
    | (refine wpAny_bind (m := callSpecialIfBound? (.ref x) (Str.ofString "__eq__") [b])
        (PySem.W.ifBound_K hX I hs hf (wpAny_mono hcall (fun r s' hr => by
          obtain ⟨k, rfl, hq⟩ := hr
          repeat (first | exact hq | exact wpAny_pure hq | exact wpAny_truthy_bool hq | (refine wpAny_bind (m := truthy (.bool _)) (wpAny_truthy_bool ?_)) | wp_step)) fun _ _ e => e)))
    | wp_step)
theorem call_objNe (hX : K.In s.heap) (I : PySem.W.InstAt s.heap x ox C od) (hm : PySem.W.mroIn K C (.type "object") = some true) (hs : PySem.W.findIn K (.ref C) "__eq__" = some (some (.ref f))) (hf : PySem.W.isFn K (.ref f) = true) (hu : A.units + 1 < cLine) {Q : Value → Shared → Prop}
    (hcall : wpAny (model prog w) A.in1 (call (.ref f) [.ref x, b]) (fun v s' => ∃ k, v = .bool k ∧ Q (.bool (!k)) s') E' s) :
    wpAny (model prog w) A (call (.builtin "object.__ne__") [.ref x, b]) Q E' s :=
  wpAny_call (codeAny_call_builtin PySem.F.cmp_object.ne.plain PySem.F.cmpEntry_ne (PySem.W.check_slot PySem.F.cmpKind_ne PySem.F.cmpSplit_ne (I.type.andThen (PySem.W.looks_mroIn hX hm)) (PySem.F.cmpArgs_ne _ _)
    (objNe_entry (A := A.in1) hX I hs hf hu (wpAny_mono hcall (fun v s' hv => by
      obtain ⟨k, e, hq⟩ := hv
      exact ⟨k, e, hq⟩) fun _ _ e => e))))
theorem ifBound_objNe {M : Model} {args : List Value} {Q : Option Value → Shared → Prop} (hX : K.In s.heap) (I : PySem.W.InstAt s.heap x ox C od) (hs : PySem.W.findIn K (.ref C) "__ne__" = some (some (.builtin "object.__ne__")))
    (h : wpAny M A (call (.builtin "object.__ne__") (.ref x :: args)) (fun v => Q (some v)) E' s) : wpAny M A (callSpecialIfBound? (.ref x) "__ne__" args) Q E' s := by
  simp only [callSpecialIfBound?, bindSpecialIfBound?]
  refine wpAny_holding (wpAny_bind (wpAny_bind (wpAny_bind (I.type.here ((PySem.W.looks_findIn hX hs).here ?_)))))
  refine wpAny_bind (wpAny_askSetting (wpAny_ite ?_))
  have fin : wpAny M A (call (.builtin "object.__ne__") ([.ref x] ++ args) >>= fun v => pure (some v)) Q E' s := wpAny_bind (wpAny_mono h (fun v s' h' => wpAny_pure h') fun _ _ h' => h')
  split
  · exact wpAny_bind (wpAny_of_eq (PySem.F.cmp_object.ne.bind _) (wpAny_pure (by exact fin)))
  · exact wpAny_tryCatch (wpAny_bind (wpAny_of_eq (PySem.F.cmp_object.ne.bind _) (wpAny_pure (by exact fin))))
theorem rc_ne {tb : Value} {Q : Value → Shared → Prop} (hu : A.units + 1 < cLine) (hX : K.In s.heap) (I : PySem.W.InstAt s.heap x ox C od) (hb : PySem.W.Looks (model prog w) s.heap (typeOf b) tb) (hn : PySem.W.notFirst K C tb = true)
    (hm : PySem.W.mroIn K C (.type "object") = some true) (hne : PySem.W.findIn K (.ref C) "__ne__" = some (some (.builtin "object.__ne__"))) (hs : PySem.W.findIn K (.ref C) "__eq__" = some (some (.ref f))) (hf : PySem.W.isFn K (.ref f) = true)
    (hcall : wpAny (model prog w) A.in1 (call (.ref f) [.ref x, b]) (fun v s' => ∃ k, v = .bool k ∧ Q (.bool (!k)) s') E' s) : wpAny (model prog w) A (richCompare .NotEq (.ref x) b) Q E' s := by
  have one : wpAny (model prog w) A (tryCompare (.ref x) "__ne__" b) (fun r s' => ∃ v, r = some v ∧ Q v s') E' s := by
    unfold tryCompare
    refine wpAny_bind (ifBound_objNe hX I hne (call_objNe hX I hm hs hf hu (wpAny_mono hcall (fun v s' hv => ?_) fun _ _ e => e)))
    obtain ⟨k, rfl, hq⟩ := hv
    exact ⟨k, rfl, wpAny_pure ⟨_, rfl, hq⟩⟩
  unfold richCompare
  simp only [oneThing_ref, cmpInfo_NotEq]
  refine wpAny_holding (wpAny_bind (wpAny_cRoomFor (Nat.lt_of_succ_lt hu) ?_))
  refine wpAny_bind (I.type.here (wpAny_bind (hb.here ?_)))
  split
  · rename_i q
    have e : PySem.W.subIn K tb (.ref C) = some false := by
      rcases Bool.or_eq_true_iff.mp hn with e | e
      · rw [beq_iff_eq.mp e] at q; simp at q
      · exact beq_iff_eq.mp e
    refine wpAny_bind ((PySem.W.looks_subIn hX e).here ?_)
    simp only [Bool.false_eq_true, if_false]
    refine wpAny_bind (wpAny_mono one (fun r s' z => ?_) fun _ _ e => e)
    obtain ⟨v, rfl, hq⟩ := z
    exact wpAny_pure hq
  · refine wpAny_bind (wpAny_pure ?_)
    simp only [Bool.false_eq_true, if_false]
    refine wpAny_bind (wpAny_mono one (fun r s' z => ?_) fun _ _ e => e)
    obtain ⟨v, rfl, hq⟩ := z
    exact wpAny_pure hq
end
theorem op_own_ne (F : FnOk X.prog X.w X.K X.mg X.base CX k f fd ps sp) (hr : Room (k + 1) X.A) (hm : PySem.W.mroIn X.K C (.type "object") = some true) (hne : PySem.W.findIn X.K (.ref C) "__ne__" = some (some (.builtin "object.__ne__")))
    (hs : PySem.W.findIn X.K (.ref C) "__eq__" = some (some (.ref f))) (hf : PySem.W.isFn X.K (.ref f) = true) (hb : Binds X.K fd ps []) (hx : Passes CX X E) :
    OpR X (compareOp .NotEq) (rOwnEq C sp E not) := by
  intro pins s σ H x y v u Q I rx ry h
  obtain ⟨p, dx, fs, t, rfl, hp, ty, q⟩ := h
  cases rx
  obtain ⟨od, J⟩ := inst_of I hp
  show wpAny (model X.prog X.w) X.A (richCompare .NotEq (.ref p) u) (EP X pins σ Q) X.xe s
  refine rc_ne (hu_of hr) I.kIn J (ty.looks I ry) ty.notFirst hm hne hs hf (thn (run_at F hr.in1 rfl hb hx I (.cons rr (.cons ry .nil)) q) fun r s' hh => ?_)
  obtain ⟨z, H', I', rz, b, ez, q'⟩ := hh
  subst ez
  cases rz
  exact ⟨b, rfl, .bl (!b), H', I', rfl, q'⟩
end
end Own

namespace Toy
open PySem L2 Own
/-! ### the text by places -/
def top (i : Nat) : Stmt := PySem.Challenge.pw_breakerrow_k40_lowerings_and_raises_trie.main.body.getD i (.Pass ⟨0, 0, 0, 0⟩)
abbrev st__wall : Stmt := top 0
abbrev st_InvalidRow_init : Stmt := inClass (top 3) 0
abbrev st_InvalidIndex_init : Stmt := inClass (top 4) 0
abbrev st_InvalidBound_init : Stmt := inClass (top 5) 0
abbrev st_LimitExceeded_init : Stmt := inClass (top 6) 0
abbrev st_is_integer : Stmt := top 8
abbrev st_is_at_least : Stmt := top 9
abbrev st_is_within : Stmt := top 10
abbrev st_steps_to : Stmt := top 11
abbrev st_rounded_up : Stmt := top 12
abbrev st_Row_init : Stmt := inClass (top 17) 0
abbrev st_Row_breaker_list : Stmt := inClass (top 17) 1
abbrev st_Row_step_length : Stmt := inClass (top 17) 2
abbrev st_Row_phase_time : Stmt := inClass (top 17) 3
abbrev st_Row_len : Stmt := inClass (top 17) 4
abbrev st_Row_getitem : Stmt := inClass (top 17) 5
abbrev st_Row_iter : Stmt := inClass (top 17) 6
abbrev st_Row_contains : Stmt := inClass (top 17) 7
abbrev st_Row_add : Stmt := inClass (top 17) 8
abbrev st_Row_eq : Stmt := inClass (top 17) 9
abbrev st_is_breaker : Stmt := top 18
abbrev st_check_breakers : Stmt := top 19
abbrev st_check_step : Stmt := top 20
abbrev st_periods : Stmt := top 21
abbrev st_row_period : Stmt := top 22
abbrev st_check_index : Stmt := top 25
abbrev st_period_behind : Stmt := top 26
abbrev st_harmful_lowerings : Stmt := top 27
abbrev st_best_raise : Stmt := top 28
abbrev st__law_source_of : Stmt := top 30
abbrev st__law_next : Stmt := top 31
abbrev st__law_one : Stmt := top 32
abbrev st__law_cell_at : Stmt := top 33
abbrev st__law_specs : Stmt := top 34
abbrev st__law_period : Stmt := top 35
abbrev st__law_ranges : Stmt := top 36
abbrev st_law : Stmt := top 37
/-- a def of the top -/
structure Dfn (K : PySem.W.Frag) (mg : Str → Option Value) (x : Str) (st : Stmt) (f : Addr) (ps : List Str) : Prop where
  ex : ∃ fd, Fun K x x st f fd ∧ Binds K fd ps []
  g : mg x = some (.ref f)
structure Mth (K : PySem.W.Frag) (C : Addr) (m q : Str) (st : Stmt) (f : Addr) (ps : List Str) : Prop where
  ex : ∃ fd, Fun K m q st f fd ∧ Binds K fd ps []
  at_ : PySem.W.findIn K (.ref C) m = some (some (.ref f))
  fn : PySem.W.isFn K (.ref f) = true
  fk : PySem.W.fnIn K f = true
/-- a def that is called by its name, with its promise -/
structure Cal (P : Program) (w : World) (K : PySem.W.Frag) (mg : Str → Option Value) (base : Heap) (x : Str) (k : Nat) (f : Addr) (ps : List Str) (sp : Sp) : Prop where
  ex : ∃ fd, FnOk P w K mg base CX0 k f fd ps sp ∧ Binds K fd ps []
  g : mg x = some (.ref f)
  kp : PySem.W.keepIn K (.ref f) = true
theorem Dfn.cal {P : Program} {w : World} {K : PySem.W.Frag} {mg : Str → Option Value} {base : Heap} {x : Str} {st : Stmt} {f : Addr} {ps : List Str} {k : Nat} {sp : Sp} (D : Dfn K mg x st f ps) (h : ∀ fd, Fun K x x st f fd → FnOk P w K mg base CX0 k f fd ps sp) : Cal P w K mg base x k f ps sp := by
  obtain ⟨fd, F, b⟩ := D.ex
  exact ⟨⟨fd, h fd F, b⟩, D.g, F.kp⟩
theorem pe_c {X : Cx} {x : Str} {k : Nat} {f : Addr} {ps : List Str} {sp : Sp} {t : TA} {e : Expr} {es : List Expr} {p pos : Pos} (c : Cal X.prog X.w X.K X.mg X.base x k f ps sp) (hr : Room k X.A) (hg : Gl X x)
    (ha : PA X (e :: es) t) (hdb : (x == ("__debug__" : Str)) = false := by decide) (he : starEach (e :: es) X.env = (false, eval e X.env) :: starEach es X.env := by rfl) (hpl : (backTo pos (starEach es X.env)).any (·.1) = false := by rfl) :
    PE X (.Call (.Name x p) (e :: es) [] pos) (tCall sp [] E0 t) := by
  obtain ⟨fd, F, b⟩ := c.ex
  exact pe_call F hr hg c.g c.kp b .nil pass0 ha hdb he hpl
/-- a method with its promise -/
structure Met (P : Program) (w : World) (K : PySem.W.Frag) (mg : Str → Option Value) (base : Heap) (C : Addr) (m : Str) (k : Nat) (f : Addr) (ps : List Str) (sp : Sp) : Prop where
  ex : ∃ fd, FnOk P w K mg base CX0 k f fd ps sp ∧ Binds K fd ps []
  me : Meth K C m f
  fk : PySem.W.fnIn K f = true
theorem Mth.met {P : Program} {w : World} {K : PySem.W.Frag} {mg : Str → Option Value} {base : Heap} {C : Addr} {m q : Str} {st : Stmt} {f : Addr} {ps : List Str} {k : Nat} {sp : Sp} (D : Mth K C m q st f ps) (h : ∀ fd, Fun K m q st f fd → FnOk P w K mg base CX0 k f fd ps sp) : Met P w K mg base C m k f ps sp := by
  obtain ⟨fd, F, b⟩ := D.ex
  exact ⟨⟨fd, h fd F, b⟩, ⟨D.at_, D.fn, F.kp⟩, D.fk⟩

/-! ### values of plain kinds -/
inductive Kd (H : Hp) : V → String → Prop where
  | non : Kd H .non "NoneType"
  | bl (b : Bool) : Kd H (.bl b) "bool"
  | int (i : Int) : Kd H (.int i) "int"
  | str (x : Str) : Kd H (.str x) "str"
  | lst {a : Addr} {xs : List V} (e : H a = some (.lst xs)) : Kd H (.ref a) "list"
  | tup {a : Addr} {xs : List V} (e : H a = some (.tup xs)) : Kd H (.ref a) "tuple"
  | dK {a : Addr} {xs : List (Key × V)} (e : H a = some (.dK xs)) : Kd H (.ref a) "dict"
theorem Kd.ty {K : PySem.W.Frag} {H : Hp} {v : V} {n : String} (h : Kd H v n) : TyX K H v (.type n) := by
  cases h with
  | non => exact .base .non
  | bl b => exact .base (.bl b)
  | int i => exact .base (.int i)
  | str x => exact .base (.str x)
  | lst e => exact .base (.lst e)
  | tup e => exact .base (.tup e)
  | dK e => exact .base (.dK e)
def isI : V → Bool
  | .int _ => true
  | _ => false
def toI : V → Int
  | .int i => i
  | _ => 0
theorem Kd.kit {K : PySem.W.Frag} {H : Hp} {v : V} {n : String} (h : Kd H v n) (c : String) (b : Bool) (hc : c = "int" ∧ b = (n == "int" || n == "bool") ∨ c ≠ "int" ∧ c ∈ ["bool", "list", "tuple"] ∧ b = (n == c)) : PySem.W.kitOne K (.type n) (.type c) = some b := by
  rcases hc with ⟨rfl, rfl⟩ | ⟨_, hc, rfl⟩
  · cases h <;> exact kit_ty (by decide +kernel)
  · simp only [List.mem_cons, List.mem_nil_iff, or_false] at hc
    rcases hc with rfl | rfl | rfl <;> cases h <;> exact kit_ty (by decide +kernel)
theorem Kd.same {H H' : Hp} {v : V} {n : String} (h : Kd H v n) (s : ∀ b o, v = .ref b → H b = some o → H' b = some o) : Kd H' v n := by
  cases h with
  | non => exact .non
  | bl b => exact .bl b
  | int i => exact .int i
  | str x => exact .str x
  | lst e => exact .lst (s _ _ rfl e)
  | tup e => exact .tup (s _ _ rfl e)
  | dK e => exact .dK (s _ _ rfl e)
/-- all but what stands at a is kept -/
def Kp (a : Addr) (H H' : Hp) : Prop := ∀ b o, b ≠ a → H b = some o → H' b = some o
theorem Kp.refl {a : Addr} {H : Hp} : Kp a H H := fun _ _ _ h => h
theorem Kp.trans {a : Addr} {H H1 H2 : Hp} (h : Kp a H H1) (h' : Kp a H1 H2) : Kp a H H2 := fun b o n e => h' b o n (h b o n e)
theorem Kp.of {a : Addr} {H H' : Hp} (s : Same H H') : Kp a H H' := fun b o _ e => s b o e
theorem Kp.upd {a : Addr} {H : Hp} {o : HO} : Kp a H (upd H a o) := fun b _ n e => by rw [upd_ne n]; exact e
theorem Same.upd {H : Hp} {p : Addr} {o : HO} (h : H p = none) : Same H (L2.upd H p o) := fun b u e => by rw [upd_ne (ne_of_none e h)]; exact e
theorem Kp.free {a b : Addr} {H H' : Hp} {o : HO} (k : Kp a H H') (ha : H a = some o) (h : H' b = none) (n : b ≠ a) : H b = none := by
  cases q : H b with
  | none => rfl
  | some u => rw [k b u n q] at h; cases h

/-! ### the promises of the small defs -/
def spIsInt : Sp := fun vs H Q _ => ∃ v n, vs = [v] ∧ Kd H v n ∧ Q (.bl (isI v)) H
def spAtL : Sp := fun vs H Q _ => ∃ v n l, vs = [v, .int l] ∧ Kd H v n ∧ Q (.bl (isI v && decide (l ≤ toI v))) H
def spWithin : Sp := fun vs H Q _ => ∃ v n l m, vs = [v, .int l, .int m] ∧ Kd H v n ∧ Q (.bl (isI v && (decide (l ≤ toI v) && decide (toI v ≤ m)))) H
/-- how many steps -/
def stepsUp (d s : Int) : Int := if -(-d / s) > 0 then -(-d / s) else 0
def spSteps : Sp := fun vs H Q _ => ∃ d s, vs = [.int d, .int s] ∧ 0 < s ∧ s.natAbs.log2 < 9000 ∧ Q (.int (stepsUp d s)) H

/-- what is no list is kept -/
def NL (H H' : Hp) : Prop := ∀ b o, H b = some o → (∀ xs, o ≠ .lst xs) → H' b = some o
theorem NL.refl {H : Hp} : NL H H := fun _ _ h _ => h
theorem NL.trans {H H1 H2 : Hp} (a : NL H H1) (b : NL H1 H2) : NL H H2 := fun c o h n => b c o (a c o h n) n
theorem NL.of {H H' : Hp} (s : Same H H') : NL H H' := fun b o e _ => s b o e
theorem Kp.nl {a : Addr} {H H' : Hp} {xs : List V} (k : Kp a H H') (h : H a = some (.lst xs)) : NL H H' := fun b o e n => k b o (fun z => by subst z; rw [h] at e; exact n xs (Option.some.inj e).symm) e
theorem NL.upd {H : Hp} {p : Addr} {xs : List V} {o : HO} (h : H p = some (.lst xs)) : NL H (L2.upd H p o) := Kp.nl Kp.upd h
theorem pe_gI {X : Cx} {x : Str} {i : Int} {t : Tok} {pos : Pos} (hm : X.mg x = some (.int i t)) (hg : Gl X x := by rfl) (hd : (x == ("__debug__" : Str)) = false := by decide) : PE X (.Name x pos) (tC (.int i)) := pe_glob hg hm ⟨t, rfl⟩ hd
@[irreducible] def PB (n : Nat) : Int := 2 ^ n
theorem PB_succ (n : Nat) : PB (n + 1) = PB n + PB n := by
  unfold PB
  rw [Int.pow_succ]
  omega
theorem PB_pos (n : Nat) : 1 ≤ PB n := by
  unfold PB
  have : (0 : Int) < 2 ^ n := Int.pow_pos (by decide)
  omega
theorem PB_le {n m : Nat} (h : n ≤ m) : PB n ≤ PB m := by
  induction m with
  | zero => rw [Nat.le_zero.mp h]; exact Int.le_refl _
  | succ m ih =>
    by_cases e : n = m + 1
    · rw [e]; exact Int.le_refl _
    · have h1 := ih (by omega)
      have h2 := PB_succ m
      have h3 := PB_pos m
      omega
theorem PB_abs {i : Int} {n : Nat} (h0 : 0 ≤ i) (h : i ≤ PB n) : i.natAbs < 2 ^ (n + 1) := by
  unfold PB at h
  have e : (2 : Nat) ^ (n + 1) = 2 ^ n * 2 := Nat.pow_succ 2 n
  have e2 : ((2 ^ n : Nat) : Int) = 2 ^ n := by rw [Int.natCast_pow]; rfl
  rw [← e2] at h
  have : 0 < 2 ^ n := Nat.pow_pos (by decide)
  rw [e]
  generalize 2 ^ n = w at *
  omega
theorem PB_of {i : Int} {n : Nat} (h : i.natAbs < 2 ^ n) : i ≤ PB n := by
  unfold PB
  have e2 : ((2 ^ n : Nat) : Int) = 2 ^ n := by rw [Int.natCast_pow]; rfl
  rw [← e2]
  generalize 2 ^ n = w at *
  omega
def BB : Int := PB 5000
theorem BB0 : 0 ≤ BB := by
  have := PB_pos 5000
  unfold BB
  omega
theorem bb_lt {i : Int} (h0 : 0 ≤ i) (h : i ≤ BB + BB) : i.natAbs < 2 ^ 5002 := PB_abs h0 (by rw [PB_succ]; exact h)
theorem mulBB {i j : Int} (i0 : 0 ≤ i) (i1 : i ≤ BB + BB) (j0 : 0 ≤ j) (j1 : j ≤ BB + BB) : CMulW i j := wide_mul (bb_lt i0 i1) (bb_lt j0 j1) (by decide) (by decide) (by decide)
theorem BB1 : 1 ≤ BB := PB_pos 5000
theorem divBB {j : Int} (j0 : 1 ≤ j) (j1 : j ≤ BB) : j.natAbs.log2 < 9000 := (wide_div (i := 0) (by omega : 0 < j) (bb_lt (by omega) (by have := BB0; omega)) (by decide) (by decide)).2
theorem small2 {n : Nat} (h : n ≤ 100000) : n ≤ sizeLine := Nat.le_trans h (by decide)
theorem small1 {n : Nat} (h : n ≤ 100000) : n < sizeLine := Nat.lt_of_le_of_lt h (by decide)
theorem tYes_of {σ : L2.St} {H : Hp} {A B : Hp → Prop} (h : A H) : tYes σ H (fun b H3 => if b = true then A H3 else B H3) := by
  show if true = true then A H else B H
  rw [if_pos rfl]
  exact h
theorem cut_init (xs : List V) : cutV xs none (some (-1)) = xs.take (xs.length - 1) := by
  show (xs.drop 0).take ((if (-1 : Int) < 0 then ((-1 : Int) + (xs.length : Int)).toNat else min (-1 : Int).toNat xs.length) - 0) = _
  rw [if_pos (by decide), List.drop_zero]
  congr 1
  omega
theorem cut_last (xs : List V) : cutV xs (some (-1)) none = xs.drop (xs.length - 1) := by
  show (xs.drop (if (-1 : Int) < 0 then ((-1 : Int) + (xs.length : Int)).toNat else min (-1 : Int).toNat xs.length)).take (xs.length - (if (-1 : Int) < 0 then ((-1 : Int) + (xs.length : Int)).toNat else min (-1 : Int).toNat xs.length)) = _
  rw [if_pos (by decide)]
  have e : ((-1 : Int) + (xs.length : Int)).toNat = xs.length - 1 := by omega
  rw [e]
  refine List.take_of_length_le ?_
  rw [List.length_drop]
  exact Nat.le_refl _
theorem none_of {H H' : Hp} {l : Addr} (s : Same H H') (h : H' l = none) : H l = none := by
  cases q : H l with
  | none => rfl
  | some o => rw [s _ _ q] at h; cases h
theorem for_enum {K : PySem.W.Frag} {a : Addr} {xs : List V} {g : TG} {tb : TS} {D : Ends} {σ : L2.St} {H : Hp} (Pv : Nat → L2.St → Hp → Prop) (h0 : Pv 0 σ H) (hl : ∀ i σ H, i ≤ xs.length → Pv i σ H → SqL K H a xs)
    (hs : ∀ i x T σ H, xs[i]? = some x → Pv i σ H → H T = none → g (.ref T) σ (upd H T (.tup [.int (i : Nat), x])) fun σ2 H2 => tb { D with nx := Pv (i + 1), ct := Pv (i + 1), bk := D.nx } σ2 H2) (hd : ∀ σ H, Pv xs.length σ H → D.nx σ H) :
    ∃ W : Nat → Nat → L2.St → Hp → Prop, (∃ m, W 0 m σ H) ∧ ∀ i m σ H, W i m σ H →
      ((Ite K a).stop i H ∧ D.nx σ H) ∨ ((Ite K a).go i H ∧ ∃ N : L2.St → Hp → Prop, (∀ σ' H', N σ' H' → ∃ m', m' < m ∧ W (i + 1) m' σ' H') ∧ ∀ x H', (Ite K a).yld i H x H' → g x σ H' fun σ2 H2 => tb { D with nx := N, ct := N, bk := D.nx } σ2 H2) := by
  refine ⟨fun i m σ H => m = xs.length - i ∧ i ≤ xs.length ∧ Pv i σ H, ⟨xs.length, by simp, Nat.zero_le _, h0⟩, ?_⟩
  rintro i m σ H ⟨rfl, hi, p⟩
  have q := hl i σ H hi p
  by_cases hlt : i < xs.length
  · refine .inr ⟨⟨xs, xs[i], q, by simp [hlt]⟩, Pv (i + 1), fun σ' H' p' => ⟨xs.length - (i + 1), by omega, rfl, hlt, p'⟩, fun x H' y => ?_⟩
    obtain ⟨T, x', rfl, hT, rfl, hx⟩ := y
    exact hs i x' T σ H (hx xs q) p hT
  · have e : i = xs.length := by omega
    subst e
    exact .inl ⟨⟨xs, q, Nat.le_refl _⟩, hd σ H p⟩
theorem pe_callN0 {X : Cx} {CX : CXT} {k : Nat} {f : Addr} {fd : FuncData} {ps ks : List Str} {sp : Sp} {E : XK} {x : Str} {p pos : Pos} {kws : List Keyword} {tk : TA} {g : List Value → List Value → List Value} {gV : List V → List V → List V}
    (F : FnOk X.prog X.w X.K X.mg X.base CX k f fd ps sp) (hr : Room k X.A) (hg : Gl X x) (hm : X.mg x = some (.ref f)) (hk : PySem.W.keepIn X.K (.ref f) = true) (hb : KBn X.K fd ps 0 ks g gV) (hx : Passes CX X E) (hkw : PK X kws tk)
    (hall : (backToKw pos (keywordEach kws X.env)).all (·.1.isSome) = true := by rfl) (hks : (backToKw pos (keywordEach kws X.env)).filterMap (·.1) = ks := by rfl) (hdb : (x == ("__debug__" : Str)) = false := by decide)
    (hpl : ((backTo pos (starEach [] X.env)).any (·.1) || (backToKw pos (keywordEach kws X.env)).any (·.1.isNone)) = false := by rfl) :
    PE X (.Call (.Name x p) [] kws pos) (tCallN 0 ks.length sp gV E tNil tk) := by
  refine ⟨fun pins s σ H Q I h => ?_⟩
  refine wpAny_Call_Name_kw (ld_glob I hg hm ?_ hdb)
  refine PySem.W.callWith_KW0 (h₀ := X.base) I.ok.mod.kin hk hall ?_ hpl
  refine thn (hkw.run pos pins s σ H _ I h) fun ws s2 ⟨zs, H2, I2, rz, l1, l2, q2⟩ => ⟨I2.kIn, ?_⟩
  rw [hks]
  exact run_fnN F hr hb hx I2 .nil rz rfl l2 q2
section
variable {X : Cx} {C : Addr} {k : Nat} {f : Addr} {ps : List Str} {sp : Sp}
theorem Met.op_in (c : Met X.prog X.w X.K X.mg X.base C "__contains__" k f ps sp) (hr : Room k X.A) : OpR X (compareOp .In) (rOwnIn C sp E0 _root_.id) := by
  obtain ⟨fd, F, b⟩ := c.ex
  exact op_own_in F hr c.me.at_ c.me.fn b pass0
theorem Met.op_notin (c : Met X.prog X.w X.K X.mg X.base C "__contains__" k f ps sp) (hr : Room k X.A) : OpR X (compareOp .NotIn) (rOwnIn C sp E0 Bool.not) := by
  obtain ⟨fd, F, b⟩ := c.ex
  exact op_own_notin F hr c.me.at_ c.me.fn b pass0
theorem Met.c_len (c : Met X.prog X.w X.K X.mg X.base C "__len__" k f ps sp) (hr : Room (k + 1) X.A) : CallR X (.builtin "len") (rOwnLen C sp E0) := by
  obtain ⟨fd, F, b⟩ := c.ex
  exact call_own_len F hr c.me.at_ c.me.fn b pass0
theorem Met.op_add (c : Met X.prog X.w X.K X.mg X.base C "__add__" k f ps sp) (hr : Room k X.A) (hc : PySem.W.selfFirst X.K C = true) : OpR X (binaryOp .Add) (rOwnAdd C sp E0) := by
  obtain ⟨fd, F, b⟩ := c.ex
  exact op_own_add F hr hc c.me.at_ c.me.fn b pass0
theorem Met.op_eq (c : Met X.prog X.w X.K X.mg X.base C "__eq__" k f ps sp) (hr : Room k X.A) : OpR X (compareOp .Eq) (rOwnEq C sp E0 _root_.id) := by
  obtain ⟨fd, F, b⟩ := c.ex
  exact op_own_eq F hr c.me.at_ c.me.fn b pass0
theorem Met.op_ne (c : Met X.prog X.w X.K X.mg X.base C "__eq__" k f ps sp) (hr : Room (k + 1) X.A) (hm : PySem.W.mroIn X.K C (.type "object") = some true) (hne : PySem.W.findIn X.K (.ref C) "__ne__" = some (some (.builtin "object.__ne__"))) : OpR X (compareOp .NotEq) (rOwnEq C sp E0 Bool.not) := by
  obtain ⟨fd, F, b⟩ := c.ex
  exact op_own_ne F hr hm hne c.me.at_ c.me.fn b pass0
theorem Met.p_ix {a b : Expr} {ta tb : TE} {pos : Pos} (c : Met X.prog X.w X.K X.mg X.base C "__getitem__" k f ps sp) (hr : Room (k + 1) X.A) (ha : PE X a ta) (hb' : PE X b tb) (hsl : ∀ o i, subscripted b true o i = runValue (.builtin "lifetime.subscript" ⟨[o, i], []⟩) := by exact fun _ _ => rfl) :
    PE X (.Subscript a b pos) (tOp (rOwnIx C sp E0) ta tb) := by
  obtain ⟨fd, F, bb⟩ := c.ex
  exact pe_own_ix F hr c.me.at_ c.fk c.me.fn bb pass0 ha hb' hsl
end
theorem Met.p_m0 {X : Cx} {C : Addr} {k : Nat} {f : Addr} {ps : List Str} {sp : Sp} {m : Str} {o : Expr} {ta : TE} {apos pos : Pos} {pl : Sem Bool} (c : Met X.prog X.w X.K X.mg X.base C m k f ps sp) (cl : Cls X.K C) (hr : Room k X.A) (he : PE X o ta)
    (ht : eval (.Call (.Attribute o m apos) [] [] pos) X.env = (do
      let ov ← eval o X.env
      standAt apos.atName
      let (f, first) ← holding [ov] (getMethod ov m pl)
      callWith pos f first (backTo pos (starEach [] X.env)) (backToKw pos (keywordEach [] X.env))) := by rfl) :
    PE X (.Call (.Attribute o m apos) [] [] pos) (tMeth C m sp [] E0 ta tNil) := by
  obtain ⟨fd, F, b⟩ := c.ex
  exact pe_meth0 he cl c.me F hr b .nil pass0 ht
/-! ### a class of the text -/
structure CF (K : PySem.W.Frag) (C : Addr) : Prop where
  cl : Cls K C
  cls : PySem.W.isClsIn K C = true
  ty : PySem.W.typeIn K (.ref C) = some (.type "type")
  oc : PySem.W.findIn K (.ref C) "__class__" = some (some (.builtin "object.__class__"))
  og : PySem.W.specialIn K (.builtin "object.__class__") "__get__" = some (some (.builtin "getset_descriptor.__get__"))
  ot : PySem.W.takesIn K (.builtin "object.__class__") = some true
  om : PySem.W.mroIn K C (.type "object") = some true
  sf : PySem.W.selfFirst K C = true
  ne : PySem.W.findIn K (.ref C) "__ne__" = some (some (.builtin "object.__ne__"))
theorem CF.kitT {K : PySem.W.Frag} {C : Addr} (M : CF K C) {H : Hp} {v : V} {n : String} (h : Kd H v n) : PySem.W.kitOne K (.type n) (.ref C) = some false := by
  have e1 : ((PySem.W.clsIn K C).isSome && PySem.W.typeIn K (.ref C) == some (.type "type")) = true := by
    have h2 : (PySem.W.clsIn K C).isSome = true := M.cls
    rw [h2, M.ty] <;> rfl
  have e2 : PySem.W.subIn K (.type n) (.ref C) = some false := by
    cases h with
    | non => exact sub_ty (l := ["NoneType", "object"]) (by decide +kernel)
    | bl _ => exact sub_ty (l := ["bool", "int", "object"]) (by decide +kernel)
    | int _ => exact sub_ty (l := ["int", "object"]) (by decide +kernel)
    | str _ => exact sub_ty (l := ["str", "object"]) (by decide +kernel)
    | lst _ => exact sub_ty (l := ["list", "object"]) (by decide +kernel)
    | tup _ => exact sub_ty (l := ["tuple", "object"]) (by decide +kernel)
    | dK _ => exact sub_ty (l := ["dict", "object"]) (by decide +kernel)
  show (if (Value.type n == Value.ref C) = true then some true else PySem.W.kitCls K (.type n) (.ref C)) = some false
  rw [if_neg (by intro z; cases z)]
  show (if ((PySem.W.clsIn K C).isSome && PySem.W.typeIn K (.ref C) == some (.type "type")) = true then PySem.W.subIn K (.type n) (.ref C) else none) = some false
  rw [if_pos e1, e2]
theorem CF.tyR {K : PySem.W.Frag} {C : Addr} (M : CF K C) {H : Hp} {p dx : Addr} {fs : List (Str × V)} (h : H p = some (.ins C dx fs)) : TyX K H (.ref p) (.ref C) := .base (.ins h M.cl M.oc M.og M.ot M.om)
theorem vals_rev {vs : List V} {us : List Value} (r : Vals vs us) : Vals vs.reverse us.reverse := by
  induction r with
  | nil => exact .nil
  | cons h t ih =>
    rw [List.reverse_cons, List.reverse_cons]
    exact ih.append (.cons h .nil)
/-- f(c = .., b = .., a = ..) of a def f(a, b, c) -/
theorem pe_kr {X : Cx} {k : Nat} {f : Addr} {sp : Sp} {x : Str} {ps : List Str} {st : Stmt} {kws : List Keyword} {tk : TA} {p pos : Pos} (D : Dfn X.K X.mg x st f ps) (h : ∀ fd, Fun X.K x x st f fd → FnOk X.prog X.w X.K X.mg X.base CX0 k f fd ps sp)
    (hbind : ∀ (kV doc pm : Value) (an : Option Addr) (cdv ct : Value) (us : List Value), us.length = ps.reverse.length → bindArgs (PySem.W.fnOf x x (defArgs st) (defBody st) (defScope st) .none kV doc pm an cdv ct) ⟨[], ps.reverse.zip us⟩ = pure (ps.zip us.reverse))
    (hr : Room k X.A) (hg : Gl X x) (hkw : PK X kws tk) (hall : (backToKw pos (keywordEach kws X.env)).all (·.1.isSome) = true := by rfl) (hks : (backToKw pos (keywordEach kws X.env)).filterMap (·.1) = ps.reverse := by rfl) (hdb : (x == ("__debug__" : Str)) = false := by decide)
    (hpl : ((backTo pos (starEach [] X.env)).any (·.1) || (backToKw pos (keywordEach kws X.env)).any (·.1.isNone)) = false := by rfl) :
    PE X (.Call (.Name x p) [] kws pos) (tCallN 0 ps.reverse.length sp (fun us ws => us ++ ws.reverse) E0 tNil tk) := by
  obtain ⟨fd, F, _⟩ := D.ex
  have hb : KBn X.K fd ps 0 ps.reverse (fun us ws => us ++ ws.reverse) (fun us ws => us ++ ws.reverse) := by
    refine ⟨fun s us ws hX h1 h2 => ?_, fun r1 r2 => r1.append (vals_rev r2)⟩
    obtain ⟨oc, od, kV, doc, pm, an, cdv, ct, osl, rfl, lk, hcd⟩ := F.ex
    match us, h1 with
    | [], _ => exact .of_eq (hbind kV doc pm an cdv ct ws h2)
  exact pe_callN0 (h fd F) hr hg D.g F.kp hb pass0 hkw hall hks hdb hpl
/-- where the defs and classes of the text stand -/
structure LA where
  f__wall : Addr
  f_is_integer : Addr
  f_is_at_least : Addr
  f_is_within : Addr
  f_steps_to : Addr
  f_rounded_up : Addr
  f_is_breaker : Addr
  f_check_breakers : Addr
  f_check_step : Addr
  f_periods : Addr
  f_row_period : Addr
  f_check_index : Addr
  f_period_behind : Addr
  f_harmful_lowerings : Addr
  f_best_raise : Addr
  f__law_source_of : Addr
  f__law_next : Addr
  f__law_one : Addr
  f__law_cell_at : Addr
  f__law_specs : Addr
  f__law_period : Addr
  f__law_ranges : Addr
  c_Row : Addr
  i_Row : Addr
  m_Row_breaker_list : Addr
  m_Row_step_length : Addr
  m_Row_phase_time : Addr
  m_Row_len : Addr
  m_Row_getitem : Addr
  m_Row_contains : Addr
  m_Row_add : Addr
  m_Row_eq : Addr
/-- what the text says of them -/
structure LX (K : PySem.W.Frag) (mg : Str → Option Value) (L : LA) : Prop where
  b_bool : mg "bool" = none
  b_enumerate : mg "enumerate" = none
  b_int : mg "int" = none
  b_isinstance : mg "isinstance" = none
  b_len : mg "len" = none
  b_list : mg "list" = none
  b_max : mg "max" = none
  b_min : mg "min" = none
  b_range : mg "range" = none
  b_tuple : mg "tuple" = none
  n_MOST_BREAKERS : ∃ t, mg "MOST_BREAKERS" = some (.int 12 t)
  n_MOST_COUNT : ∃ t, mg "MOST_COUNT" = some (.int 1000000000000 t)
  n_MOST_TIME : ∃ t, mg "MOST_TIME" = some (.int 1000000000000000000000000000000 t)
  n_MOST_PERIODS : ∃ t, mg "MOST_PERIODS" = some (.int 2000 t)
  d__wall : Dfn K mg "_wall" st__wall L.f__wall ["k"]
  d_is_integer : Dfn K mg "is_integer" st_is_integer L.f_is_integer ["value"]
  d_is_at_least : Dfn K mg "is_at_least" st_is_at_least L.f_is_at_least ["value", "least"]
  d_is_within : Dfn K mg "is_within" st_is_within L.f_is_within ["value", "least", "most"]
  d_steps_to : Dfn K mg "steps_to" st_steps_to L.f_steps_to ["distance", "step"]
  d_rounded_up : Dfn K mg "rounded_up" st_rounded_up L.f_rounded_up ["value", "unit"]
  d_is_breaker : Dfn K mg "is_breaker" st_is_breaker L.f_is_breaker ["value"]
  d_check_breakers : Dfn K mg "check_breakers" st_check_breakers L.f_check_breakers ["breakers", "part"]
  d_check_step : Dfn K mg "check_step" st_check_step L.f_check_step ["step"]
  d_periods : Dfn K mg "periods" st_periods L.f_periods ["row"]
  d_row_period : Dfn K mg "row_period" st_row_period L.f_row_period ["row"]
  d_check_index : Dfn K mg "check_index" st_check_index L.f_check_index ["row", "index"]
  d_period_behind : Dfn K mg "period_behind" st_period_behind L.f_period_behind ["period", "breakers"]
  d_harmful_lowerings : Dfn K mg "harmful_lowerings" st_harmful_lowerings L.f_harmful_lowerings ["row", "index"]
  d_best_raise : Dfn K mg "best_raise" st_best_raise L.f_best_raise ["row", "index", "most"]
  d__law_source_of : Dfn K mg "_law_source_of" st__law_source_of L.f__law_source_of ["_law_cell"]
  d__law_next : Dfn K mg "_law_next" st__law_next L.f__law_next ["_law_source", "_law_many"]
  d__law_one : Dfn K mg "_law_one" st__law_one L.f__law_one ["_law_source", "_law_options"]
  d__law_cell_at : Dfn K mg "_law_cell_at" st__law_cell_at L.f__law_cell_at ["_law_script", "_law_k"]
  d__law_specs : Dfn K mg "_law_specs" st__law_specs L.f__law_specs ["_law_source", "_law_high", "_law_wide", "_law_many"]
  d__law_period : Dfn K mg "_law_period" st__law_period L.f__law_period ["_law_waits", "_law_step"]
  d__law_ranges : Dfn K mg "_law_ranges" st__law_ranges L.f__law_ranges ["_law_some"]
  gc_Row : mg "Row" = some (.ref L.c_Row)
  cf_Row : CF K L.c_Row
  mk_Row : Mk K L.c_Row L.i_Row
  nf_Row_breakers : NoAttr K L.c_Row "breakers"
  nf_Row_step : NoAttr K L.c_Row "step"
  nf_Row_phase : NoAttr K L.c_Row "phase"
  in_Row : ∃ fd, FunD K "__init__" "Row.__init__" (defArgs st_Row_init) (defBody st_Row_init) (defScope st_Row_init) [] [("phase", .int 0)] L.i_Row fd
  mm_Row_breaker_list : Mth K L.c_Row "breaker_list" "Row.breaker_list" st_Row_breaker_list L.m_Row_breaker_list ["self"]
  mm_Row_step_length : Mth K L.c_Row "step_length" "Row.step_length" st_Row_step_length L.m_Row_step_length ["self"]
  mm_Row_phase_time : Mth K L.c_Row "phase_time" "Row.phase_time" st_Row_phase_time L.m_Row_phase_time ["self"]
  mm_Row_len : Mth K L.c_Row "__len__" "Row.__len__" st_Row_len L.m_Row_len ["self"]
  mm_Row_getitem : Mth K L.c_Row "__getitem__" "Row.__getitem__" st_Row_getitem L.m_Row_getitem ["self", "at"]
  mm_Row_contains : Mth K L.c_Row "__contains__" "Row.__contains__" st_Row_contains L.m_Row_contains ["self", "x"]
  mm_Row_add : Mth K L.c_Row "__add__" "Row.__add__" st_Row_add L.m_Row_add ["self", "other"]
  mm_Row_eq : Mth K L.c_Row "__eq__" "Row.__eq__" st_Row_eq L.m_Row_eq ["self", "other"]

/-- a comprehension over zip of two lists -/
theorem lc_zip {K : PySem.W.Frag} {a b : Addr} {xs ys : List V} {g : TG} {tt : TT} {te : TE} {vs : List Nat} {σ : L2.St} {H1 : Hp} {D : Addr} {Qd : Hp → Prop} (hlen : ys.length ≤ xs.length) (Pv : Nat → Hp → Prop) (h0 : Pv 0 (upd H1 D (.lst []))) (hl : ∀ i H, Pv i H → SqL K H a xs ∧ SqL K H b ys)
    (hs : ∀ (i : Nat) (x y : V) (T : Addr) (H : Hp), xs[i]? = some x → ys[i]? = some y → Pv i H → H T = none → g (.ref T) (wipe σ vs) (upd H T (.tup [x, y])) fun σ2 H2 => wipe σ2 vs = wipe σ vs ∧ tt σ2 H2 fun b H3 =>
      if b = true then te σ2 H3 fun y H4 => ∃ acc, H4 D = some (.lst acc) ∧ acc.length < sizeLine ∧ Pv (i + 1) (upd H4 D (.lst (acc ++ [y]))) else Pv (i + 1) H3) (hd : ∀ H, Pv ys.length H → Qd H) :
    ∃ W : Nat → Nat → Hp → Prop, (∃ m, W 0 m (upd H1 D (.lst []))) ∧ ∀ i m H, W i m H → ((Itz K a b).stop i H ∧ Qd H) ∨ ((Itz K a b).go i H ∧ ∃ Nx : Hp → Prop, (∀ H', Nx H' → ∃ m', m' < m ∧ W (i + 1) m' H') ∧ ∀ x H', (Itz K a b).yld i H x H' → g x (wipe σ vs) H' fun σ2 H2 => wipe σ2 vs = wipe σ vs ∧ tt σ2 H2 fun b H3 =>
        if b = true then te σ2 H3 fun y H4 => ∃ acc, H4 D = some (.lst acc) ∧ acc.length < sizeLine ∧ Nx (upd H4 D (.lst (acc ++ [y]))) else Nx H3) := by
  refine ⟨fun i m H => m = ys.length - i ∧ i ≤ ys.length ∧ Pv i H, ⟨ys.length, by omega, Nat.zero_le _, h0⟩, ?_⟩
  rintro i m H ⟨rfl, hi, p⟩
  obtain ⟨qx, qy⟩ := hl i H p
  by_cases hlt : i < ys.length
  · have hx : xs[i]? = some xs[i] := List.getElem?_eq_getElem (by omega)
    have hy : ys[i]? = some ys[i] := List.getElem?_eq_getElem hlt
    refine .inr ⟨⟨xs, ys, _, _, qx, qy, hx, hy⟩, Pv (i + 1), fun H' p' => ⟨ys.length - (i + 1), by omega, rfl, hlt, p'⟩, fun v H' y => ?_⟩
    obtain ⟨T, x', y', rfl, hT, rfl, f1, f2⟩ := y
    exact hs i x' y' T H (f1 xs qx) (f2 ys qy) p hT
  · have e : i = ys.length := by omega
    subst e
    exact .inl ⟨⟨xs, ys, qx, qy, .inr (Nat.le_refl _)⟩, hd H p⟩
/-- an attribute inside a comprehension -/
theorem pe_fldK {X : Cx} {K : PySem.W.Frag} {e : Expr} {f : Str} {pos : Pos} {ta : TE} (hK : X.K = K) (he : PE X e ta) (hb : attributeBase e f X.env (eval e X.env) = eval e X.env) : PE X (.Attribute e f pos) (tFld K ta f) := by
  subst hK
  exact pe_fld he hb
theorem putF_len (f : Str) (v : V) (fs : List (Str × V)) {n : Nat} (h : fs.length ≤ n) : (putF f v fs).length ≤ n + 1 := Nat.le_trans (length_putF f v fs) (Nat.succ_le_succ h)
def spRup : Sp := fun vs H Q _ => ∃ v u : Int, vs = [.int v, .int u] ∧ 0 < u ∧ u.natAbs.log2 < 9000 ∧ CMulW (stepsUp v u) u ∧ Q (.int (stepsUp v u * u)) H
/-! ### the small defs -/
section
variable {P : Program} {w : World} {K : PySem.W.Frag} {mg : Str → Option Value} {base : Heap} {L : LA}
abbrev N_isinteger : List Str := ["value"]
theorem sc_isinteger : FnScope N_isinteger ["value"] (defScope st_is_integer) := ⟨rfl, rfl, rfl, by decide +kernel, rfl, by decide +kernel, by decide +kernel⟩
theorem fn_isinteger (T : LX K mg L) {fd : FuncData} (F : Fun K "is_integer" "is_integer" st_is_integer L.f_is_integer fd) : FnOk P w K mg base CX0 1 L.f_is_integer fd ["value"] (spIsInt) := by
  have nd := sc_isinteger.nd
  refine F.ok sc_isinteger (fun vs H Q E h => ?_) (fun cdv A outer S H vs Q E hr h => ?_)
  · obtain ⟨v, n, rfl, _⟩ := h
    rfl
  · obtain ⟨v, n, rfl, hv, k⟩ := h
    refine ⟨_, (pss_one (ps_ret (pe_and (pe_callB call_isi (by rfl) T.b_isinstance (by decide +kernel) (pa_cons (pv 0) (pa_cons (pe_bltn (by rfl) T.b_int (by decide +kernel : bootBuiltins "int" = some (.type "int")) (v := .ty "int") rfl) pa_nil))) (pe_one (pe_not (pe_callB call_isi (by rfl) T.b_isinstance (by decide +kernel) (pa_cons (pv 0) (pa_cons (pe_bltn (by rfl) T.b_bool (by decide +kernel : bootBuiltins "bool" = some (.type "bool")) (v := .ty "bool") rfl) pa_nil)))))))), ?_⟩
    refine ⟨_, rfl, v, .ty "int", _, _, _, rfl, .ty "int", hv.ty, hv.kit "int" _ (.inl ⟨rfl, rfl⟩), _, rfl, ?_⟩
    refine ite2 (fun c => ?_) (fun c => ?_)
    · refine ⟨_, rfl, v, .ty "bool", _, _, _, rfl, .ty "bool", hv.ty, hv.kit "bool" _ (.inr ⟨by decide, by decide, rfl⟩), _, rfl, ?_⟩
      cases hv <;> first | exact k | (exact absurd c (by decide))
    · cases hv <;> first | exact k | (exact absurd (by decide) c)
theorem ok_isinteger (T : LX K mg L) : Cal P w K mg base "is_integer" 1 L.f_is_integer ["value"] (spIsInt) := T.d_is_integer.cal fun fd F => fn_isinteger T F
abbrev N_isatleast : List Str := ["value", "least"]
theorem sc_isatleast : FnScope N_isatleast ["value", "least"] (defScope st_is_at_least) := ⟨rfl, rfl, rfl, by decide +kernel, rfl, by decide +kernel, by decide +kernel⟩
theorem fn_isatleast (T : LX K mg L) {fd : FuncData} (F : Fun K "is_at_least" "is_at_least" st_is_at_least L.f_is_at_least fd) : FnOk P w K mg base CX0 2 L.f_is_at_least fd ["value", "least"] (spAtL) := by
  have G_isinteger := ok_isinteger (P := P) (w := w) (base := base) T
  have nd := sc_isatleast.nd
  refine F.ok sc_isatleast (fun vs H Q E h => ?_) (fun cdv A outer S H vs Q E hr h => ?_)
  · obtain ⟨v, n, l, rfl, _⟩ := h
    rfl
  · obtain ⟨v, n, l, rfl, hv, k⟩ := h
    refine ⟨_, (pss_one (ps_ret (pe_and (pe_c G_isinteger (hr.mono (by decide)) rfl (pa_cons (pv 0) pa_nil)) (pe_one (pe_cmpR op_ge (pv 0) (pv 1) (nomark _)))))), ?_⟩
    refine ⟨_, rfl, v, n, rfl, hv, _, rfl, ?_⟩
    cases v with
    | int i => exact iteT ⟨_, rfl, _, rfl, _, _, rfl, rfl, k⟩
    | _ => exact iteF k
theorem ok_isatleast (T : LX K mg L) : Cal P w K mg base "is_at_least" 2 L.f_is_at_least ["value", "least"] (spAtL) := T.d_is_at_least.cal fun fd F => fn_isatleast T F
abbrev N_iswithin : List Str := ["value", "least", "most"]
theorem sc_iswithin : FnScope N_iswithin ["value", "least", "most"] (defScope st_is_within) := ⟨rfl, rfl, rfl, by decide +kernel, rfl, by decide +kernel, by decide +kernel⟩
theorem fn_iswithin (T : LX K mg L) {fd : FuncData} (F : Fun K "is_within" "is_within" st_is_within L.f_is_within fd) : FnOk P w K mg base CX0 2 L.f_is_within fd ["value", "least", "most"] (spWithin) := by
  have G_isinteger := ok_isinteger (P := P) (w := w) (base := base) T
  have nd := sc_iswithin.nd
  refine F.ok sc_iswithin (fun vs H Q E h => ?_) (fun cdv A outer S H vs Q E hr h => ?_)
  · obtain ⟨v, n, l, m, rfl, _⟩ := h
    rfl
  · obtain ⟨v, n, l, m, rfl, hv, k⟩ := h
    refine ⟨_, (pss_one (ps_ret (pe_and (pe_c G_isinteger (hr.mono (by decide)) rfl (pa_cons (pv 0) pa_nil)) (pe_one (pe_chain op_le op_le (pv 1) (pv 0) (pv 2)))))), ?_⟩
    refine ⟨_, rfl, v, n, rfl, hv, _, rfl, ?_⟩
    cases v with
    | int i =>
      refine iteT ⟨_, rfl, _, rfl, _, _, rfl, rfl, _, rfl, ?_⟩
      refine ite2 (fun c => ?_) (fun c => ?_)
      · refine ⟨_, rfl, _, _, rfl, rfl, ?_⟩
        have c' : decide (l ≤ i) = true := c
        have k' : Q (.bl (decide (l ≤ i) && decide (i ≤ m))) H := k
        rw [c', Bool.true_and] at k'
        exact k'
      · have c' : decide (l ≤ i) = false := by simpa using c
        have k' : Q (.bl (decide (l ≤ i) && decide (i ≤ m))) H := k
        rw [c', Bool.false_and] at k'
        exact k'
    | _ => exact iteF k
theorem ok_iswithin (T : LX K mg L) : Cal P w K mg base "is_within" 2 L.f_is_within ["value", "least", "most"] (spWithin) := T.d_is_within.cal fun fd F => fn_iswithin T F
abbrev N_stepsto : List Str := ["distance", "step"]
theorem sc_stepsto : FnScope N_stepsto ["distance", "step"] (defScope st_steps_to) := ⟨rfl, rfl, rfl, by decide +kernel, rfl, by decide +kernel, by decide +kernel⟩
theorem fn_stepsto (T : LX K mg L) {fd : FuncData} (F : Fun K "steps_to" "steps_to" st_steps_to L.f_steps_to fd) : FnOk P w K mg base CX0 1 L.f_steps_to fd ["distance", "step"] (spSteps) := by
  have nd := sc_stepsto.nd
  refine F.ok sc_stepsto (fun vs H Q E h => ?_) (fun cdv A outer S H vs Q E hr h => ?_)
  · obtain ⟨d, st, rfl, _⟩ := h
    rfl
  · obtain ⟨d, st, rfl, h0, h1, k⟩ := h
    refine ⟨_, (pss_one (ps_ret (pe_callB (call_max2 rfl) (by rfl) T.b_max (by decide +kernel) (pa_cons pe_int (pa_cons (pe_un un_neg (pe_op op_fdivW (pe_un un_neg (pv 0)) (pv 1))) pa_nil))))), ?_⟩
    exact ⟨_, rfl, _, rfl, _, rfl, _, _, rfl, rfl, ⟨h0, h1⟩, _, rfl, _, _, rfl, k⟩
theorem ok_stepsto (T : LX K mg L) : Cal P w K mg base "steps_to" 1 L.f_steps_to ["distance", "step"] (spSteps) := T.d_steps_to.cal fun fd F => fn_stepsto T F
abbrev N_roundedup : List Str := ["value", "unit"]
theorem sc_roundedup : FnScope N_roundedup ["value", "unit"] (defScope st_rounded_up) := ⟨rfl, rfl, rfl, by decide +kernel, rfl, by decide +kernel, by decide +kernel⟩
theorem fn_roundedup (T : LX K mg L) {fd : FuncData} (F : Fun K "rounded_up" "rounded_up" st_rounded_up L.f_rounded_up fd) : FnOk P w K mg base CX0 2 L.f_rounded_up fd ["value", "unit"] (spRup) := by
  have G_stepsto := ok_stepsto (P := P) (w := w) (base := base) T
  have nd := sc_roundedup.nd
  refine F.ok sc_roundedup (fun vs H Q E h => ?_) (fun cdv A outer S H vs Q E hr h => ?_)
  · obtain ⟨v, u, rfl, _⟩ := h
    rfl
  · obtain ⟨v, u, rfl, h0, h1, hm, k⟩ := h
    refine ⟨_, (pss_one (ps_ret (pe_op op_mulW (pe_c G_stepsto (hr.mono (by decide)) rfl (pa_cons (pv 0) (pa_cons (pv 1) pa_nil))) (pv 1)))), ?_⟩
    exact ⟨_, rfl, _, rfl, v, u, rfl, h0, h1, _, rfl, _, _, rfl, rfl, hm, k⟩
theorem ok_roundedup (T : LX K mg L) : Cal P w K mg base "rounded_up" 2 L.f_rounded_up ["value", "unit"] (spRup) := T.d_rounded_up.cal fun fd F => fn_roundedup T F
end
/-! ### trains as data -/
abbrev Trn := Int × Int × Option Int
def OkTr (t : Trn) : Prop := 0 ≤ t.1 ∧ 1 ≤ t.2.1 ∧ ∀ c, t.2.2 = some c → 1 ≤ c
/-- all times of the first are before the second -/
def Lt (t u : Trn) : Prop := ∃ c, t.2.2 = some c ∧ t.1 + (c - 1) * t.2.1 < u.1
def Srt (ts : List Trn) : Prop := (∀ t ∈ ts, OkTr t) ∧ ts.Pairwise Lt
def minO (n : Int) : Option Int → Int
  | none => n
  | some c => if c < n then c else n
/-- how many times of a train are before x -/
def nbT (t : Trn) (x : Int) : Int := minO (stepsUp (x - t.1) t.2.1) t.2.2
def NB : List Trn → Int → Int
  | [], _ => 0
  | t :: ts, x => nbT t x + NB ts x
def At : List Trn → Int → Option Int
  | [], _ => none
  | t :: ts, i => match t.2.2 with
    | none => some (t.1 + i * t.2.1)
    | some c => if i < c then some (t.1 + i * t.2.1) else At ts (i - c)
def addO (c : Int) : Option Int → Option Int
  | none => none
  | some n => some (c + n)
def Tot : List Trn → Option Int
  | [] => some 0
  | t :: ts => match t.2.2 with
    | none => none
    | some c => addO c (Tot ts)
/-- d / s, rounded up -/
def cl (d s : Int) : Int := -(-d / s)
theorem stepsUp_cl (d s : Int) : stepsUp d s = if cl d s > 0 then cl d s else 0 := rfl
theorem cl_sub (d s c : Int) (hs : 0 < s) : cl (d - c * s) s = cl d s - c := by
  unfold cl
  have e : -(d - c * s) = -d + c * s := by omega
  rw [e, Int.add_mul_ediv_right _ _ (show s ≠ 0 by omega)]
  omega
theorem cl_le {d s n : Int} (hs : 0 < s) : cl d s ≤ n ↔ d ≤ n * s := by
  unfold cl
  have h : -n ≤ -d / s ↔ -n * s ≤ -d := Int.le_ediv_iff_mul_le hs
  rw [Int.neg_mul] at h
  omega
theorem cl_gt {d s n : Int} (hs : 0 < s) : n < cl d s ↔ n * s < d := by
  have h := cl_le (d := d) (s := s) (n := n) hs
  omega
def subO (k : Option Int) (c : Int) : Option Int := match k with
  | none => none
  | some n => some (n - c)
/-- a train is its first c times, and the others -/
theorem nbT_split {s p c : Int} {k : Option Int} (hp : 0 < p) (hc : 0 ≤ c) (hk : ∀ n, k = some n → c ≤ n) (x : Int) : nbT (s, p, k) x = nbT (s, p, some c) x + nbT (s + c * p, p, subO k c) x := by
  have e : x - (s + c * p) = x - s - c * p := by omega
  show minO (stepsUp (x - s) p) k = minO (stepsUp (x - s) p) (some c) + minO (stepsUp (x - (s + c * p)) p) (subO k c)
  rw [e, stepsUp_cl, stepsUp_cl, cl_sub _ _ _ hp]
  cases k with
  | none =>
    show (if cl (x - s) p > 0 then cl (x - s) p else 0) = (if c < (if cl (x - s) p > 0 then cl (x - s) p else 0) then c else (if cl (x - s) p > 0 then cl (x - s) p else 0)) + (if cl (x - s) p - c > 0 then cl (x - s) p - c else 0)
    split <;> split <;> split <;> omega
  | some n =>
    have := hk n rfl
    show (if n < (if cl (x - s) p > 0 then cl (x - s) p else 0) then n else (if cl (x - s) p > 0 then cl (x - s) p else 0)) = (if c < (if cl (x - s) p > 0 then cl (x - s) p else 0) then c else (if cl (x - s) p > 0 then cl (x - s) p else 0)) + (if n - c < (if cl (x - s) p - c > 0 then cl (x - s) p - c else 0) then n - c else (if cl (x - s) p - c > 0 then cl (x - s) p - c else 0))
    split <;> split <;> split <;> split <;> (try split) <;> omega
/-- the step of a single time is nothing -/
theorem nbT_one {s p q : Int} (hp : 0 < p) (hq : 0 < q) (x : Int) : nbT (s, p, some 1) x = nbT (s, q, some 1) x := by
  have one : ∀ p : Int, 0 < p → nbT (s, p, some 1) x = if s < x then 1 else 0 := fun p hp => by
    show (if (1 : Int) < (if cl (x - s) p > 0 then cl (x - s) p else 0) then (1 : Int) else (if cl (x - s) p > 0 then cl (x - s) p else 0)) = _
    have h0 : 0 < cl (x - s) p ↔ 0 * p < x - s := cl_gt hp
    rw [Int.zero_mul] at h0
    split <;> split <;> split <;> omega
  rw [one p hp, one q hq]
theorem NB_app : ∀ (ts us : List Trn) (x : Int), NB (ts ++ us) x = NB ts x + NB us x
  | [], us, x => by show NB us x = 0 + NB us x; omega
  | t :: ts, us, x => by
    show nbT t x + NB (ts ++ us) x = nbT t x + NB ts x + NB us x
    rw [NB_app ts us x]
    omega
theorem addO_addO (a b : Int) (k : Option Int) : addO a (addO b k) = addO (a + b) k := by
  cases k with
  | none => rfl
  | some n => show some (a + (b + n)) = some (a + b + n); rw [Int.add_assoc]
theorem nbT_nn {t : Trn} (h : OkTr t) (x : Int) : 0 ≤ nbT t x := by
  obtain ⟨s, p, k⟩ := t
  show 0 ≤ minO (stepsUp (x - s) p) k
  rw [stepsUp_cl]
  cases k with
  | none => show 0 ≤ if cl (x - s) p > 0 then cl (x - s) p else 0; split <;> omega
  | some c =>
    have := h.2.2 c rfl
    show 0 ≤ if c < (if cl (x - s) p > 0 then cl (x - s) p else 0) then c else (if cl (x - s) p > 0 then cl (x - s) p else 0)
    split <;> (try split) <;> omega
theorem nbT_zero {t : Trn} (h : OkTr t) {x : Int} (hx : x ≤ t.1) : nbT t x = 0 := by
  obtain ⟨s, p, k⟩ := t
  have hp : 0 < p := by
    have h2 : 1 ≤ p := h.2.1
    omega
  have h1 : cl (x - s) p ≤ 0 := (cl_le hp).mpr (by
    have h2 : x ≤ s := hx
    omega)
  show minO (stepsUp (x - s) p) k = 0
  rw [stepsUp_cl, if_neg (by omega)]
  cases k with
  | none => rfl
  | some c =>
    have := h.2.2 c rfl
    show (if c < 0 then c else 0) = 0
    rw [if_neg (by omega)]
theorem nbT_all {t : Trn} (h : OkTr t) {x c : Int} (hc : t.2.2 = some c) (hx : t.1 + (c - 1) * t.2.1 < x) : nbT t x = c := by
  obtain ⟨s, p, k⟩ := t
  have hp : 0 < p := by
    have h2 : 1 ≤ p := h.2.1
    omega
  have h0 : k = some c := hc
  subst h0
  have h1 : c - 1 < cl (x - s) p := (cl_gt hp).mpr (by
    have h2 : s + (c - 1) * p < x := hx
    omega)
  have := h.2.2 c rfl
  show (if c < stepsUp (x - s) p then c else stepsUp (x - s) p) = c
  rw [stepsUp_cl]
  split <;> (try split at *) <;> omega
theorem NB_nn {ts : List Trn} (h : ∀ t ∈ ts, OkTr t) (x : Int) : 0 ≤ NB ts x := by
  induction ts with
  | nil => exact Int.le_refl _
  | cons t ts ih =>
    have h1 := nbT_nn (h t (List.mem_cons_self ..)) x
    have h2 := ih fun u hu => h u (List.mem_cons_of_mem _ hu)
    show 0 ≤ nbT t x + NB ts x
    omega
theorem NB_zero {ts : List Trn} (h : ∀ t ∈ ts, OkTr t) {x : Int} (hx : ∀ t ∈ ts, x ≤ t.1) : NB ts x = 0 := by
  induction ts with
  | nil => rfl
  | cons t ts ih =>
    show nbT t x + NB ts x = 0
    rw [nbT_zero (h t (List.mem_cons_self ..)) (hx t (List.mem_cons_self ..)), ih (fun u hu => h u (List.mem_cons_of_mem _ hu)) fun u hu => hx u (List.mem_cons_of_mem _ hu)]
    rfl
theorem Srt.tail {t : Trn} {ts : List Trn} (h : Srt (t :: ts)) : Srt ts := ⟨fun u hu => h.1 u (List.mem_cons_of_mem _ hu), (List.pairwise_cons.mp h.2).2⟩
theorem Srt.head {t : Trn} {ts : List Trn} (h : Srt (t :: ts)) : OkTr t := h.1 t (List.mem_cons_self ..)
theorem Srt.lt {t : Trn} {ts : List Trn} (h : Srt (t :: ts)) : ∀ u ∈ ts, Lt t u := (List.pairwise_cons.mp h.2).1
theorem lt_start {t u : Trn} (h : OkTr t) (l : Lt t u) : t.1 < u.1 := by
  obtain ⟨c, e, q⟩ := l
  have hc := h.2.2 c e
  have : 0 ≤ (c - 1) * t.2.1 := Int.mul_nonneg (by omega) (by have := h.2.1; omega)
  omega
/-! what is before x, and which time is the i-th -/
theorem nbT_le {t : Trn} {x c : Int} (e : t.2.2 = some c) : nbT t x ≤ c := by
  unfold nbT
  rw [e]
  show (if c < stepsUp (x - t.1) t.2.1 then c else stepsUp (x - t.1) t.2.1) ≤ c
  split <;> omega
/-- the times before x are those with an index below nbT -/
theorem nbT_lt {t : Trn} (h : OkTr t) {x i : Int} (i0 : 0 ≤ i) (hi : ∀ c, t.2.2 = some c → i < c) : i < nbT t x ↔ t.1 + i * t.2.1 < x := by
  obtain ⟨s, p, k⟩ := t
  have hp : 0 < p := by
    have h2 : 1 ≤ p := h.2.1
    omega
  have h1 : i < cl (x - s) p ↔ i * p < x - s := cl_gt hp
  have e : (s + i * p < x) ↔ i * p < x - s := by omega
  show i < minO (stepsUp (x - s) p) k ↔ s + i * p < x
  rw [stepsUp_cl, e, ← h1]
  cases k with
  | none =>
    show i < (if cl (x - s) p > 0 then cl (x - s) p else 0) ↔ _
    split <;> omega
  | some c =>
    have := hi c rfl
    show i < (if c < (if cl (x - s) p > 0 then cl (x - s) p else 0) then c else (if cl (x - s) p > 0 then cl (x - s) p else 0)) ↔ _
    split <;> (try split) <;> (try split at *) <;> omega
theorem At_lt : ∀ {ts : List Trn}, Srt ts → ∀ {i y : Int}, 0 ≤ i → At ts i = some y → ∀ x, i < NB ts x ↔ y < x
  | [], _, i, y, _, e, _ => by cases e
  | t :: ts, h, i, y, i0, e, x => by
    have ht := h.head
    have hs := h.tail
    have nn := NB_nn hs.1 x
    cases hk : t.2.2 with
    | none =>
      have e' : At (t :: ts) i = some (t.1 + i * t.2.1) := by
        show (match t.2.2 with | none => some (t.1 + i * t.2.1) | some c => if i < c then some (t.1 + i * t.2.1) else At ts (i - c)) = _
        rw [hk]
      rw [e'] at e
      have ey := Option.some.inj e
      subst ey
      have nt : ts = [] := by
        cases ts with
        | nil => rfl
        | cons u us =>
          obtain ⟨c, hc, _⟩ := h.lt u (List.mem_cons_self ..)
          rw [hk] at hc
          cases hc
      subst nt
      have := nbT_lt ht (x := x) i0 (fun c hc => by rw [hk] at hc; cases hc)
      show i < nbT t x + 0 ↔ _
      rw [Int.add_zero]
      exact this
    | some c =>
      have e' : At (t :: ts) i = if i < c then some (t.1 + i * t.2.1) else At ts (i - c) := by
        show (match t.2.2 with | none => some (t.1 + i * t.2.1) | some c => if i < c then some (t.1 + i * t.2.1) else At ts (i - c)) = _
        rw [hk]
      rw [e'] at e
      show i < nbT t x + NB ts x ↔ y < x
      by_cases hi : i < c
      · rw [if_pos hi] at e
        have ey := Option.some.inj e
        have h1 := nbT_lt ht (x := x) i0 (fun c' hc => by rw [hk] at hc; cases hc; exact hi)
        by_cases hl : t.1 + (c - 1) * t.2.1 < x
        · have h2 := nbT_all ht hk hl
          omega
        · have h3 : NB ts x = 0 := NB_zero hs.1 fun u hu => by
            obtain ⟨c', hc, q⟩ := h.lt u hu
            rw [hk] at hc
            cases hc
            omega
          omega
      · rw [if_neg hi] at e
        have ih := At_lt hs (i := i - c) (by omega) e x
        have h2 := nbT_le (x := x) hk
        by_cases hl : t.1 + (c - 1) * t.2.1 < x
        · have h3 := nbT_all ht hk hl
          omega
        · have h3 : NB ts x = 0 := NB_zero hs.1 fun u hu => by
            obtain ⟨c', hc, q⟩ := h.lt u hu
            rw [hk] at hc
            cases hc
            omega
          omega
theorem tot_nn : ∀ {ts : List Trn}, (∀ t ∈ ts, OkTr t) → ∀ n, Tot ts = some n → 0 ≤ n
  | [], _, n, e => by cases e; exact Int.le_refl _
  | t :: ts, h, n, e => by
    cases hk : t.2.2 with
    | none =>
      have e2 : Tot (t :: ts) = none := by
        show (match t.2.2 with | none => none | some c => addO c (Tot ts)) = _
        rw [hk]
      rw [e2] at e
      cases e
    | some c =>
      have e2 : Tot (t :: ts) = addO c (Tot ts) := by
        show (match t.2.2 with | none => none | some c => addO c (Tot ts)) = _
        rw [hk]
      rw [e2] at e
      cases ht : Tot ts with
      | none => rw [ht] at e; cases e
      | some m =>
        rw [ht] at e
        have z' : c + m = n := Option.some.inj e
        have := tot_nn (fun u hu => h u (List.mem_cons_of_mem _ hu)) m ht
        have := (h t (List.mem_cons_self ..)).2.2 c hk
        omega
theorem At_none : ∀ {ts : List Trn}, (∀ t ∈ ts, OkTr t) → ∀ {i : Int}, 0 ≤ i → (At ts i = none ↔ ∃ n, Tot ts = some n ∧ n ≤ i)
  | [], _, i, i0 => ⟨fun _ => ⟨0, rfl, i0⟩, fun _ => rfl⟩
  | t :: ts, h, i, i0 => by
    cases hk : t.2.2 with
    | none =>
      have e' : At (t :: ts) i = some (t.1 + i * t.2.1) := by
        show (match t.2.2 with | none => some (t.1 + i * t.2.1) | some c => if i < c then some (t.1 + i * t.2.1) else At ts (i - c)) = _
        rw [hk]
      have e2 : Tot (t :: ts) = none := by
        show (match t.2.2 with | none => none | some c => addO c (Tot ts)) = _
        rw [hk]
      rw [e', e2]
      exact ⟨fun z => (by cases z), fun ⟨n, z, _⟩ => (by cases z)⟩
    | some c =>
      have e' : At (t :: ts) i = if i < c then some (t.1 + i * t.2.1) else At ts (i - c) := by
        show (match t.2.2 with | none => some (t.1 + i * t.2.1) | some c => if i < c then some (t.1 + i * t.2.1) else At ts (i - c)) = _
        rw [hk]
      have e2 : Tot (t :: ts) = addO c (Tot ts) := by
        show (match t.2.2 with | none => none | some c => addO c (Tot ts)) = _
        rw [hk]
      have tn : ∀ n, Tot ts = some n → 0 ≤ n := tot_nn fun u hu => h u (List.mem_cons_of_mem _ hu)
      rw [e', e2]
      by_cases hi : i < c
      · rw [if_pos hi]
        refine ⟨fun z => (by cases z), fun ⟨n, z, hn⟩ => ?_⟩
        cases ht : Tot ts with
        | none => rw [ht] at z; cases z
        | some m =>
          rw [ht] at z
          have := tn m ht
          have z' : c + m = n := Option.some.inj z
          omega
      · rw [if_neg hi]
        have ih := At_none (ts := ts) (fun u hu => h u (List.mem_cons_of_mem _ hu)) (i := i - c) (by omega)
        rw [ih]
        constructor
        · rintro ⟨n, e, hn⟩
          exact ⟨c + n, by rw [e]; rfl, by omega⟩
        · rintro ⟨n, e, hn⟩
          cases ht : Tot ts with
          | none => rw [ht] at e; cases e
          | some m =>
            rw [ht] at e
            have z' : c + m = n := Option.some.inj e
            exact ⟨m, rfl, by omega⟩
theorem NB_tot : ∀ {ts : List Trn}, (∀ t ∈ ts, OkTr t) → ∀ {n : Int}, Tot ts = some n → ∀ x, NB ts x ≤ n
  | [], _, n, e, x => by cases e; exact Int.le_refl _
  | t :: ts, h, n, e, x => by
    cases hk : t.2.2 with
    | none =>
      have e2 : Tot (t :: ts) = none := by
        show (match t.2.2 with | none => none | some c => addO c (Tot ts)) = _
        rw [hk]
      rw [e2] at e
      cases e
    | some c =>
      have e2 : Tot (t :: ts) = addO c (Tot ts) := by
        show (match t.2.2 with | none => none | some c => addO c (Tot ts)) = _
        rw [hk]
      rw [e2] at e
      cases ht : Tot ts with
      | none => rw [ht] at e; cases e
      | some m =>
        rw [ht] at e
        have z' : c + m = n := Option.some.inj e
        have h1 := nbT_le (x := x) hk
        have h2 := NB_tot (fun u hu => h u (List.mem_cons_of_mem _ hu)) ht x
        show nbT t x + NB ts x ≤ n
        omega
theorem nbT_step {t : Trn} (h : OkTr t) (x : Int) : nbT t (x + 1) ≤ nbT t x + 1 := by
  obtain ⟨s, p, k⟩ := t
  have hp : 1 ≤ p := h.2.1
  have h1 : cl (x + 1 - s) p ≤ cl (x - s) p + 1 := by
    refine (cl_le (by omega)).mpr ?_
    have h2 : x - s ≤ cl (x - s) p * p := (cl_le (by omega)).mp (Int.le_refl _)
    rw [Int.add_mul, Int.one_mul]
    omega
  show minO (stepsUp (x + 1 - s) p) k ≤ minO (stepsUp (x - s) p) k + 1
  rw [stepsUp_cl, stepsUp_cl]
  cases k with
  | none =>
    show (if cl (x + 1 - s) p > 0 then cl (x + 1 - s) p else 0) ≤ (if cl (x - s) p > 0 then cl (x - s) p else 0) + 1
    split <;> split <;> omega
  | some c =>
    show (if c < (if cl (x + 1 - s) p > 0 then cl (x + 1 - s) p else 0) then c else (if cl (x + 1 - s) p > 0 then cl (x + 1 - s) p else 0)) ≤ (if c < (if cl (x - s) p > 0 then cl (x - s) p else 0) then c else (if cl (x - s) p > 0 then cl (x - s) p else 0)) + 1
    repeat' split
    all_goals omega
theorem NB_step : ∀ {ts : List Trn}, Srt ts → ∀ x, NB ts (x + 1) ≤ NB ts x + 1
  | [], _, x => by show (0 : Int) ≤ 0 + 1; omega
  | t :: ts, h, x => by
    have ht := h.head
    have hs := h.tail
    have st := nbT_step ht x
    show nbT t (x + 1) + NB ts (x + 1) ≤ nbT t x + NB ts x + 1
    cases hk : t.2.2 with
    | none =>
      have nt : ts = [] := by
        cases ts with
        | nil => rfl
        | cons u us =>
          obtain ⟨c, hc, _⟩ := h.lt u (List.mem_cons_self ..)
          rw [hk] at hc
          cases hc
      subst nt
      show nbT t (x + 1) + 0 ≤ nbT t x + 0 + 1
      omega
    | some c =>
      by_cases hl : t.1 + (c - 1) * t.2.1 < x
      · have h1 := nbT_all ht hk hl
        have h2 := nbT_all ht hk (show t.1 + (c - 1) * t.2.1 < x + 1 by omega)
        have h3 := NB_step hs x
        omega
      · have z : ∀ y, y ≤ x + 1 → NB ts y = 0 := fun y hy => NB_zero hs.1 fun u hu => by
          obtain ⟨c', hc, q⟩ := h.lt u hu
          rw [hk] at hc
          cases hc
          omega
        have h1 := z x (by omega)
        have h2 := z (x + 1) (Int.le_refl _)
        omega
/-- the i-th time is told by what is before x -/
theorem At_iff {ts : List Trn} (h : Srt ts) {i y : Int} (i0 : 0 ≤ i) : At ts i = some y ↔ NB ts y = i ∧ NB ts (y + 1) = i + 1 := by
  have one : ∀ {z}, At ts i = some z → NB ts z = i ∧ NB ts (z + 1) = i + 1 := fun {z} e => by
    have h1 := At_lt h i0 e z
    have h2 := At_lt h i0 e (z + 1)
    have h3 := NB_step h z
    omega
  refine ⟨one, fun ⟨e1, e2⟩ => ?_⟩
  cases q : At ts i with
  | none =>
    obtain ⟨n, e3, e4⟩ := (At_none h.1 i0).mp q
    have := NB_tot h.1 e3 (y + 1)
    omega
  | some w =>
    have h3 := At_lt h i0 q y
    have h4 := At_lt h i0 q (y + 1)
    congr 1
    omega
/-- trains with the same counts have the same times -/
theorem At_same {ts us : List Trn} (h : Srt ts) (h' : Srt us) (e : ∀ x, NB ts x = NB us x) {i : Int} (i0 : 0 ≤ i) : At ts i = At us i := by
  cases q : At ts i with
  | some y =>
    obtain ⟨e1, e2⟩ := (At_iff h i0).mp q
    exact ((At_iff h' i0).mpr ⟨by rw [← e]; exact e1, by rw [← e]; exact e2⟩).symm
  | none =>
    cases q2 : At us i with
    | none => rfl
    | some y =>
      obtain ⟨e1, e2⟩ := (At_iff h' i0).mp q2
      rw [(At_iff h i0).mpr ⟨by rw [e]; exact e1, by rw [e]; exact e2⟩] at q
      cases q
/-! ### rows in the heap -/
/-! ### breakers and rows -/
abbrev Tri := Int × Int × Int
def TriV (t : Tri) : List V := [.int t.1, .int t.2.1, .int t.2.2]
def BrAt (H : Hp) (x : V) (t : Tri) : Prop := ∃ a, x = .ref a ∧ H a = some (.tup (TriV t))
def OkT (t : Tri) : Prop := 1 ≤ t.1 ∧ t.1 ≤ 1000000000000 ∧ 1 ≤ t.2.1 ∧ t.2.1 ≤ 1000000000000000000000000000000 ∧ 1 ≤ t.2.2 ∧ t.2.2 ≤ 1000000000000
abbrev Brs (H : Hp) (xs : List V) (ts : List Tri) : Prop := Paired (BrAt H) xs ts
theorem BrAt.nl {H H' : Hp} (k : NL H H') {x : V} {t : Tri} (h : BrAt H x t) : BrAt H' x t := by
  obtain ⟨a, e, h⟩ := h
  exact ⟨a, e, k _ _ h fun _ z => nomatch z⟩
theorem Brs.nl {H H' : Hp} (k : NL H H') {xs : List V} {ts : List Tri} (h : Brs H xs ts) : Brs H' xs ts := L2.Paired.mapP h fun _ _ z => z.nl k
theorem Brs.len {H : Hp} : ∀ {xs : List V} {ts : List Tri}, Brs H xs ts → xs.length = ts.length
  | _, _, .nil => rfl
  | _, _, .cons _ t => congrArg Nat.succ (Brs.len t)
theorem Brs.get {H : Hp} : ∀ {xs : List V} {ts : List Tri} {i : Nat} {x : V}, Brs H xs ts → xs[i]? = some x → ∃ t, ts[i]? = some t ∧ BrAt H x t
  | _, _, _, _, .nil, e => by simp at e
  | _, _, 0, _, .cons r _, e => by simp at e; subst e; exact ⟨_, rfl, r⟩
  | _, _, i + 1, x, .cons _ t, e => by
    obtain ⟨u, h1, h2⟩ := Brs.get (i := i) (x := x) t (by simpa using e)
    exact ⟨u, by simpa using h1, h2⟩
theorem Brs.app {H : Hp} : ∀ {xs ys : List V} {ts us : List Tri}, Brs H xs ts → Brs H ys us → Brs H (xs ++ ys) (ts ++ us)
  | _, _, _, _, .nil, s => s
  | _, _, _, _, .cons r t, s => .cons r (Brs.app t s)
theorem Brs.rev {H : Hp} : ∀ {xs : List V} {ts : List Tri}, Brs H xs ts → Brs H xs.reverse ts.reverse
  | _, _, .nil => .nil
  | _, _, .cons r t => by
    rw [List.reverse_cons, List.reverse_cons]
    exact Brs.app (Brs.rev t) (.cons r .nil)
theorem Brs.take {H : Hp} : ∀ {xs : List V} {ts : List Tri} (n : Nat), Brs H xs ts → Brs H (xs.take n) (ts.take n)
  | _, _, 0, _ => .nil
  | _, _, _ + 1, .nil => .nil
  | _, _, n + 1, .cons r t => .cons r (Brs.take n t)
theorem Brs.drop {H : Hp} : ∀ {xs : List V} {ts : List Tri} (n : Nat), Brs H xs ts → Brs H (xs.drop n) (ts.drop n)
  | _, _, 0, r => r
  | _, _, _ + 1, .nil => .nil
  | _, _, n + 1, .cons _ t => Brs.drop n t
/-! the attributes of a row, as __init__ stores them -/
theorem k1 : ¬ (("breakers" : Str) = "step") := by decide +kernel
theorem k2 : ¬ (("breakers" : Str) = "phase") := by decide +kernel
theorem k3 : ¬ (("step" : Str) = "phase") := by decide +kernel
def rowF (T : Addr) (st ph : Int) : List (Str × V) := putF "phase" (.int ph) (putF "step" (.int st) (putF "breakers" (.ref T) []))
theorem rowF_b (T : Addr) (st ph : Int) : (rowF T st ph).lookup ("breakers" : Str) = some (.ref T) := by
  unfold rowF
  rw [lookup_putF, if_neg k2, lookup_putF, if_neg k1, lookup_putF, if_pos rfl]
theorem rowF_s (T : Addr) (st ph : Int) : (rowF T st ph).lookup ("step" : Str) = some (.int st) := by
  unfold rowF
  rw [lookup_putF, if_neg k3, lookup_putF, if_pos rfl]
theorem rowF_p (T : Addr) (st ph : Int) : (rowF T st ph).lookup ("phase" : Str) = some (.int ph) := by
  unfold rowF
  rw [lookup_putF, if_pos rfl]
theorem rowF_no (T : Addr) (st ph : Int) {m : Str} (h1 : ¬ m = "phase") (h2 : ¬ m = "step") (h3 : ¬ m = "breakers") : (rowF T st ph).lookup m = none := by
  unfold rowF
  rw [lookup_putF, if_neg h1, lookup_putF, if_neg h2, lookup_putF, if_neg h3]
  all_goals rfl
/-- a Row stands at p -/
structure RowAt (C : Addr) (H : Hp) (p T : Addr) (xs : List V) (ts : List Tri) (st ph : Int) : Prop where
  ob : ∃ dx, H p = some (.ins C dx (rowF T st ph))
  tp : H T = some (.tup xs)
  br : Brs H xs ts
  ok : ∀ t ∈ ts, OkT t
  ln : ts.length ≤ 12
  s0 : 1 ≤ st
  s1 : st ≤ 1000000000000000000000000000000
  p0 : 0 ≤ ph
  p1 : ph ≤ 1000000000000000000000000000000
theorem RowAt.nl {C : Addr} {H H' : Hp} {p T : Addr} {xs : List V} {ts : List Tri} {st ph : Int} (R : RowAt C H p T xs ts st ph) (k : NL H H') : RowAt C H' p T xs ts st ph := by
  obtain ⟨dx, h⟩ := R.ob
  exact ⟨⟨dx, k _ _ h fun _ z => nomatch z⟩, k _ _ R.tp fun _ z => (nomatch z), R.br.nl k, R.ok, R.ln, R.s0, R.s1, R.p0, R.p1⟩
/-! ### promises -/
def spIsBr : Sp := fun vs H Q _ => ∃ x t, vs = [x] ∧ BrAt H x t ∧ OkT t ∧ Q (.bl true) H
def spRChk : Sp := fun vs H Q _ => ∃ a xs ts pt, vs = [.ref a, .str pt] ∧ H a = some (.lst xs) ∧ Brs H xs ts ∧ (∀ t ∈ ts, OkT t) ∧ ts.length ≤ 12 ∧ ∀ H', Same H H' → Q .non H'
def spRStep : Sp := fun vs H Q _ => ∃ st : Int, vs = [.int st] ∧ 1 ≤ st ∧ st ≤ 1000000000000000000000000000000 ∧ Q .non H
def spRInit (C : Addr) : Sp := fun vs H Q _ => ∃ p a st ph xs ts dx, vs = [.ref p, .ref a, .int st, .int ph] ∧ H p = some (.ins C dx []) ∧ H a = some (.lst xs) ∧ Brs H xs ts ∧ (∀ t ∈ ts, OkT t) ∧ ts.length ≤ 12 ∧
  (1 ≤ st ∧ st ≤ 1000000000000000000000000000000 ∧ 0 ≤ ph ∧ ph ≤ 1000000000000000000000000000000) ∧ ∀ T H', RowAt C H' p T xs ts st ph → Kp p H H' → Q .non H'
def spRBl (C : Addr) : Sp := fun vs H Q _ => ∃ p T xs ts st ph, vs = [.ref p] ∧ RowAt C H p T xs ts st ph ∧ ∀ l H', H l = none → H' = upd H l (.lst xs) → Q (.ref l) H'
def spRSt (C : Addr) : Sp := fun vs H Q _ => ∃ p T xs ts st ph, vs = [.ref p] ∧ RowAt C H p T xs ts st ph ∧ Q (.int st) H
def spRPh (C : Addr) : Sp := fun vs H Q _ => ∃ p T xs ts st ph, vs = [.ref p] ∧ RowAt C H p T xs ts st ph ∧ Q (.int ph) H
def spRLen (C : Addr) : Sp := fun vs H Q _ => ∃ p T xs ts st ph, vs = [.ref p] ∧ RowAt C H p T xs ts st ph ∧ Q (.int xs.length) H
def spRGet (C : Addr) : Sp := fun vs H Q _ => ∃ p T xs ts st ph i x, vs = [.ref p, .int i] ∧ RowAt C H p T xs ts st ph ∧ 0 ≤ i ∧ atI xs i = some x ∧ i < xs.length ∧ Q x H
def spRCon (C : Addr) : Sp := fun vs H Q _ => ∃ p T xs ts st ph x n, vs = [.ref p, x] ∧ RowAt C H p T xs ts st ph ∧ Kd H x n ∧ Q (.bl (isI x && (decide (ph ≤ toI x) && decide ((toI x - ph) % st = 0)))) H
def spRRt (C : Addr) : Sp := fun vs H Q _ => ∃ p T xs ts st ph i, vs = [.ref p, .int i] ∧ RowAt C H p T xs ts st ph ∧ 0 ≤ i ∧ i ≤ BB ∧ Q (.int (ph + i * st)) H
def spRFr (C : Addr) : Sp := fun vs H Q _ => ∃ p T xs ts st ph i, vs = [.ref p, .int i] ∧ RowAt C H p T xs ts st ph ∧ 0 ≤ i ∧ Q (.int (stepsUp (i - ph) st)) H
theorem row_made {C : Addr} {H : Hp} {Q : Addr → Hp → Prop} {a : Addr} {st ph : Int} {xs : List V} {ts : List Tri} (ha : H a = some (.lst xs)) (hb : Brs H xs ts) (ho : ∀ t ∈ ts, OkT t) (hl : ts.length ≤ 12)
    (bd : 1 ≤ st ∧ st ≤ 1000000000000000000000000000000 ∧ 0 ≤ ph ∧ ph ≤ 1000000000000000000000000000000) (k : ∀ p T H', RowAt C H' p T xs ts st ph → Same H H' → H p = none → Q p H') :
    ∀ x dx, H x = none → H dx = none → dx ≠ x → spRInit C [.ref x, .ref a, .int st, .int ph] (upd (upd H dx (.own x)) x (.ins C dx [])) (fun v H3 => v = .non ∧ Q x H3) E0 := by
  intro x dx hx hd hne
  have s0 : Same H (upd (upd H dx (.own x)) x (.ins C dx [])) := fun b o e => by
    rw [upd_ne (ne_of_none e hx), upd_ne (ne_of_none e hd)]
    exact e
  refine ⟨x, a, st, ph, xs, ts, dx, rfl, upd_same, s0 _ _ ha, hb.nl (NL.of s0), ho, hl, bd, fun T H' R kp => ⟨rfl, k x T H' R (fun b o e => kp b o (ne_of_none e hx) (s0 b o e)) hx⟩⟩
abbrev RDat := List Tri × Int × Int
/-- what == is asked of -/
inductive EqOf (C : Addr) (H : Hp) (d : RDat) : V → Bool → Prop where
  | row {q U : Addr} {ys : List V} {us : List Tri} {st ph : Int} (R : RowAt C H q U ys us st ph) : EqOf C H d (.ref q) (decide (d = (us, st, ph)))
  | non : EqOf C H d .non false
  | lst {a : Addr} {xs : List V} (e : H a = some (.lst xs)) : EqOf C H d (.ref a) false
  | tup {a : Addr} {xs : List V} (e : H a = some (.tup xs)) : EqOf C H d (.ref a) false
theorem EqOf.nl {C : Addr} {H H' : Hp} {d : RDat} {v : V} {b : Bool} (h : EqOf C H d v b) (k : Same H H') : EqOf C H' d v b := by
  cases h with
  | row R => exact .row (R.nl (NL.of k))
  | non => exact .non
  | lst e => exact .lst (k _ _ e)
  | tup e => exact .tup (k _ _ e)
/-- breakers as data -/
def triD (t : Tri) : PyData := .tuple [.int t.1, .int t.2.1, .int t.2.2]
theorem Brs.dp {K : PySem.W.Frag} {H : Hp} : ∀ {xs : List V} {ts : List Tri}, Brs H xs ts → DpAll K H xs (ts.map triD)
  | _, _, .nil => .nil
  | _, _, .cons ⟨a, e, h⟩ t => by
    subst e
    exact .cons (.tup (SqT.of h) (.cons (.int _) (.cons (.int _) (.cons (.int _) .nil)))) (Brs.dp t)
theorem triD_eq (t u : Tri) : PyData.eqv (triD t) (triD u) = decide (t = u) := by
  obtain ⟨a, b, c⟩ := t
  obtain ⟨a', b', c'⟩ := u
  simp only [triD, PyData.eqv, PyData.eqvAll, Bool.and_true]
  rw [Bool.eq_iff_iff]
  simp [Prod.ext_iff]
theorem triDs_eq : ∀ ts us : List Tri, PyData.eqvAll (ts.map triD) (us.map triD) = decide (ts = us)
  | [], [] => by simp [PyData.eqvAll]
  | [], _ :: _ => by simp [PyData.eqvAll]
  | _ :: _, [] => by simp [PyData.eqvAll]
  | t :: ts, u :: us => by
    rw [List.map_cons, List.map_cons, PyData.eqvAll, triD_eq, triDs_eq ts us, Bool.eq_iff_iff]
    simp
theorem canAll : ∀ ts : List Tri, PyData.canLayAll0 (ts.map triD) = true
  | [] => by simp [PyData.canLayAll0]
  | t :: ts => by
    rw [List.map_cons, PyData.canLayAll0, canAll ts]
    simp [triD, PyData.canLay0, PyData.canLayAll0]
theorem depAll : ∀ ts : List Tri, PyData.depthAll (ts.map triD) ≤ 10
  | [] => by simp [PyData.depthAll]
  | t :: ts => by
    have := depAll ts
    rw [List.map_cons, PyData.depthAll]
    have h2 : (triD t).depth ≤ 10 := by simp [triD, PyData.depth, PyData.depthAll]
    omega
theorem shT (ts : List Tri) : SeqAt.shaped (.tuple (ts.map triD)) = true := by
  refine Bool.and_eq_true_iff.mpr ⟨?_, decide_eq_true ?_⟩
  · rw [PyData.canLay0]
    exact canAll ts
  · have := depAll ts
    rw [PyData.depth]
    omega

theorem wide200 {i j : Int} (h1 : i.natAbs < 2 ^ 200) (h2 : j.natAbs < 2 ^ 200) : CMulW i j := wide_mul h1 h2 (by decide) (by decide) (by decide)
theorem lt200 {i : Int} (h0 : 0 ≤ i) (h : i ≤ 1000000000000000000000000000000) : i.natAbs < 2 ^ 200 := Nat.lt_of_le_of_lt (show i.natAbs ≤ 1000000000000000000000000000000 by omega) (by decide)
theorem log200 {i : Int} (h0 : 1 ≤ i) (h : i ≤ 1000000000000000000000000000000) : i.natAbs.log2 < 9000 := (wide_div (by omega : 0 < i) (lt200 (by omega) h) (by decide) (by decide) (i := 0)).2
theorem st_bb {s : Int} (h : s ≤ 1000000000000000000000000000000) : s ≤ BB := Int.le_trans h (Int.le_trans (PB_of (n := 100) (by decide +kernel)) (PB_le (by decide)))
theorem k6_pos {P : Prop} {q : Prop} [Decidable P] [Decidable q] (h : P) (h' : q) : (decide P && decide q) = true := by rw [decide_eq_true h, decide_eq_true h']; rfl
section
variable {P : Program} {w : World} {K : PySem.W.Frag} {mg : Str → Option Value} {base : Heap} {L : LA}
abbrev N_isbreaker : List Str := ["value", "failures", "wait", "successes"]
theorem sc_isbreaker : FnScope N_isbreaker ["value"] (defScope st_is_breaker) := ⟨rfl, rfl, rfl, by decide +kernel, rfl, by decide +kernel, by decide +kernel⟩
theorem fn_isbreaker (T : LX K mg L) {fd : FuncData} (F : Fun K "is_breaker" "is_breaker" st_is_breaker L.f_is_breaker fd) : FnOk P w K mg base CX0 3 L.f_is_breaker fd ["value"] (spIsBr) := by
  have G_iswithin := ok_iswithin (P := P) (w := w) (base := base) T
  obtain ⟨tk_MOST_COUNT, c_MOST_COUNT⟩ := T.n_MOST_COUNT
  obtain ⟨tk_MOST_TIME, c_MOST_TIME⟩ := T.n_MOST_TIME
  have nd := sc_isbreaker.nd
  refine F.ok sc_isbreaker (fun vs H Q E h => ?_) (fun cdv A outer S H vs Q E hr h => ?_)
  · obtain ⟨x, t, rfl, _⟩ := h
    rfl
  · obtain ⟨x, t, rfl, ⟨a, rfl, ha⟩, ⟨h1, h2, h3, h4, h5, h6⟩, k⟩ := h
    refine ⟨_, (pss_cons (ps_if (PW.pt (pw_or (pt_not (pt_val (pe_callB call_isi (by rfl) T.b_isinstance (by decide +kernel) (pa_cons (pv 0) (pa_cons (pe_bltn (by rfl) T.b_tuple (by decide +kernel : bootBuiltins "tuple" = some (.type "tuple")) (v := .ty "tuple") rfl) pa_nil))))) (pw_or1 (pt_cmpR op_ne (pe_callB call_len_seq (by rfl) T.b_len PySem.boot_len (pa_cons (pv 0) pa_nil)) pe_int (nomark _))))) (pss_one (ps_ret pe_bl)) pss_nil)
       (pss_cons (ps_asg (pv 0) (pg_tup rfl (pgs_cons (pg_name (i := 1) nd rfl (Or.inl rfl)) (pgs_cons (pg_name (i := 2) nd rfl (Or.inl rfl)) (pgs_cons (pg_name (i := 3) nd rfl (Or.inl rfl)) pgs_nil)))))
       (pss_one (ps_ret (pe_and (pe_c G_iswithin (hr.mono (by decide)) rfl (pa_cons (pv 1) (pa_cons pe_int (pa_cons (pe_gI c_MOST_COUNT) pa_nil)))) (pe_and (pe_c G_iswithin (hr.mono (by decide)) rfl (pa_cons (pv 2) (pa_cons pe_int (pa_cons (pe_gI c_MOST_TIME) pa_nil)))) (pe_one (pe_c G_iswithin (hr.mono (by decide)) rfl (pa_cons (pv 3) (pa_cons pe_int (pa_cons (pe_gI c_MOST_COUNT) pa_nil))))))))))), ?_⟩
    refine ⟨_, rfl, _, .ty "tuple", _, _, _, rfl, .ty "tuple", (Kd.tup ha).ty, (Kd.tup ha).kit "tuple" _ (.inr ⟨by decide, by decide, rfl⟩), _, rfl, iteF ?_⟩
    refine ⟨_, rfl, a, _, rfl, .inr (SqT.of ha), rfl, _, rfl, iteF ?_⟩
    refine ⟨_, rfl, a, _, rfl, SqT.of ha, rfl, _, _, rfl, _, _, rfl, _, _, rfl, rfl, ?_⟩
    refine ⟨_, rfl, _, _, _, _, rfl, .int _, _, rfl, ?_⟩
    have e1 : (decide ((1 : Int) ≤ t.1) && decide (t.1 ≤ 1000000000000)) = true := k6_pos h1 h2
    have e2 : (decide ((1 : Int) ≤ t.2.1) && decide (t.2.1 ≤ 1000000000000000000000000000000)) = true := k6_pos h3 h4
    have e3 : (decide ((1 : Int) ≤ t.2.2) && decide (t.2.2 ≤ 1000000000000)) = true := k6_pos h5 h6
    show if (decide ((1 : Int) ≤ t.1) && decide (t.1 ≤ 1000000000000)) = true then _ else _
    rw [e1]
    refine iteT ?_
    refine ⟨_, rfl, _, _, _, _, rfl, .int _, _, rfl, ?_⟩
    show if (decide ((1 : Int) ≤ t.2.1) && decide (t.2.1 ≤ 1000000000000000000000000000000)) = true then _ else _
    rw [e2]
    refine iteT ?_
    refine ⟨_, rfl, _, _, _, _, rfl, .int _, ?_⟩
    show Q (.bl (decide ((1 : Int) ≤ t.2.2) && decide (t.2.2 ≤ 1000000000000))) H
    rw [e3]
    exact k
theorem ok_isbreaker (T : LX K mg L) : Cal P w K mg base "is_breaker" 3 L.f_is_breaker ["value"] (spIsBr) := T.d_is_breaker.cal fun fd F => fn_isbreaker T F
abbrev N_checkbreakers : List Str := ["breakers", "part", "at", "breaker"]
theorem sc_checkbreakers : FnScope N_checkbreakers ["breakers", "part"] (defScope st_check_breakers) := ⟨rfl, rfl, rfl, by decide +kernel, rfl, by decide +kernel, by decide +kernel⟩
theorem fn_checkbreakers (T : LX K mg L) {fd : FuncData} (F : Fun K "check_breakers" "check_breakers" st_check_breakers L.f_check_breakers fd) : FnOk P w K mg base CX0 4 L.f_check_breakers fd ["breakers", "part"] (spRChk) := by
  obtain ⟨tk_MOST_BREAKERS, c_MOST_BREAKERS⟩ := T.n_MOST_BREAKERS
  have G_isbreaker := ok_isbreaker (P := P) (w := w) (base := base) T
  have nd := sc_checkbreakers.nd
  refine F.ok sc_checkbreakers (fun vs H Q E h => ?_) (fun cdv A outer S H vs Q E hr h => ?_)
  · obtain ⟨a, xs, ts, pt, rfl, _⟩ := h
    rfl
  · obtain ⟨a, xs, ts, pt, rfl, ha, hb, ho, hl, k⟩ := h
    refine ⟨_, (pss_cons (ps_if (PW.pt (pw_or (pt_not (pt_val (pe_callB call_isi (by rfl) T.b_isinstance (by decide +kernel) (pa_cons (pv 0) (pa_cons (pe_bltn (by rfl) T.b_list (by decide +kernel : bootBuiltins "list" = some (.type "list")) (v := .ty "list") rfl) pa_nil))))) (pw_or1 (pt_cmpR op_gt (pe_callB call_len_seq (by rfl) T.b_len PySem.boot_len (pa_cons (pv 0) pa_nil)) (pe_gI c_MOST_BREAKERS) (nomark _))))) (pss_one (ps_never)) pss_nil)
       (pss_one (ps_for PassesOwn.never rfl (pi_enum (by rfl) T.b_enumerate (pa_cons (pv 0) pa_nil)) (pg_tup rfl (pgs_cons (pg_name (i := 2) nd rfl (Or.inl rfl)) (pgs_cons (pg_name (i := 3) nd rfl (Or.inl rfl)) pgs_nil))) (pss_one (ps_if (pt_not (pt_val (pe_c G_isbreaker (hr.mono (by decide)) rfl (pa_cons (pv 3) pa_nil)))) (pss_one (ps_never)) pss_nil))))), ?_⟩
    refine ⟨_, rfl, _, .ty "list", _, _, _, rfl, .ty "list", (Kd.lst ha).ty, (Kd.lst ha).kit "list" _ (.inr ⟨by decide, by decide, rfl⟩), _, rfl, iteF ?_⟩
    refine ⟨_, rfl, a, _, rfl, .inl (SqL.of ha), _, _, rfl, rfl, _, rfl, ?_⟩
    have hn : ¬ ((12 : Int) < (xs.length : Nat)) := by rw [hb.len]; omega
    rw [decide_eq_false hn]
    refine iteF ?_
    refine ⟨_, rfl, a, xs, rfl, SqL.of ha, for_enum (K := K) (a := a) (xs := xs) (fun i σ H2 => ∃ u v : Option V, σ = [some (.ref a), some (.str pt), u, v] ∧ Same H H2) ⟨none, none, rfl, Same.refl H⟩ (fun i σ H2 _ ⟨_, _, _, s2⟩ => SqL.of (s2 _ _ ha)) ?_ ?_⟩
    · rintro i x T' σ H2 hx ⟨u, v, rfl, s2⟩ hT
      obtain ⟨t, ht, hbr⟩ := hb.get hx
      have s3 : Same H (upd H2 T' (.tup [.int (i : Nat), x])) := s2.trans (Same.upd hT)
      refine ⟨T', _, rfl, SqT.of upd_same, rfl, _, _, rfl, _, _, rfl, rfl, ?_⟩
      refine ⟨_, rfl, x, t, rfl, hbr.nl (NL.of s3), ho t (List.mem_of_getElem? ht), _, rfl, iteF ?_⟩
      exact ⟨_, _, rfl, s3⟩
    · rintro σ H2 ⟨u, v, rfl, s2⟩
      exact k H2 s2
theorem ok_checkbreakers (T : LX K mg L) : Cal P w K mg base "check_breakers" 4 L.f_check_breakers ["breakers", "part"] (spRChk) := T.d_check_breakers.cal fun fd F => fn_checkbreakers T F
abbrev N_checkstep : List Str := ["step"]
theorem sc_checkstep : FnScope N_checkstep ["step"] (defScope st_check_step) := ⟨rfl, rfl, rfl, by decide +kernel, rfl, by decide +kernel, by decide +kernel⟩
theorem fn_checkstep (T : LX K mg L) {fd : FuncData} (F : Fun K "check_step" "check_step" st_check_step L.f_check_step fd) : FnOk P w K mg base CX0 3 L.f_check_step fd ["step"] (spRStep) := by
  have G_iswithin := ok_iswithin (P := P) (w := w) (base := base) T
  obtain ⟨tk_MOST_TIME, c_MOST_TIME⟩ := T.n_MOST_TIME
  have nd := sc_checkstep.nd
  refine F.ok sc_checkstep (fun vs H Q E h => ?_) (fun cdv A outer S H vs Q E hr h => ?_)
  · obtain ⟨st, rfl, _⟩ := h
    rfl
  · obtain ⟨st, rfl, b1, b2, k⟩ := h
    refine ⟨_, (pss_one (ps_if (pt_not (pt_val (pe_c G_iswithin (hr.mono (by decide)) rfl (pa_cons (pv 0) (pa_cons pe_int (pa_cons (pe_gI c_MOST_TIME) pa_nil)))))) (pss_one (ps_never)) pss_nil)), ?_⟩
    have e1 : (decide ((1 : Int) ≤ st) && decide (st ≤ 1000000000000000000000000000000)) = true := k6_pos b1 b2
    refine ⟨_, rfl, _, _, _, _, rfl, .int _, _, rfl, ?_⟩
    show if (!(decide ((1 : Int) ≤ st) && decide (st ≤ 1000000000000000000000000000000))) = true then _ else _
    rw [e1]
    exact iteF k
theorem ok_checkstep (T : LX K mg L) : Cal P w K mg base "check_step" 3 L.f_check_step ["step"] (spRStep) := T.d_check_step.cal fun fd F => fn_checkstep T F
abbrev N_Rowinit : List Str := ["self", "breakers", "step", "phase"]
theorem sc_Rowinit : FnScope N_Rowinit ["self", "breakers", "step", "phase"] (defScope st_Row_init) := ⟨rfl, rfl, rfl, by decide +kernel, rfl, by decide +kernel, by decide +kernel⟩
theorem fn_Rowinit (T : LX K mg L) {fd : FuncData} (F : Fun K "__init__" "Row.__init__" st_Row_init L.i_Row fd) : FnOk P w K mg base CX0 5 L.i_Row fd ["self", "breakers", "step", "phase"] (spRInit L.c_Row) := by
  have G_checkbreakers := ok_checkbreakers (P := P) (w := w) (base := base) T
  have G_checkstep := ok_checkstep (P := P) (w := w) (base := base) T
  have G_iswithin := ok_iswithin (P := P) (w := w) (base := base) T
  obtain ⟨tk_MOST_TIME, c_MOST_TIME⟩ := T.n_MOST_TIME
  have nd := sc_Rowinit.nd
  refine F.ok sc_Rowinit (fun vs H Q E h => ?_) (fun cdv A outer S H vs Q E hr h => ?_)
  · obtain ⟨p, a, st, ph, xs, ts, dx, rfl, _⟩ := h
    rfl
  · obtain ⟨p, a, st, ph, xs, ts, dx, rfl, hp, ha, hb, ho, hl, ⟨b1, b2, b3, b4⟩, k⟩ := h
    refine ⟨_, (pss_cons (ps_expr (pe_c G_checkbreakers (hr.mono (by decide)) rfl (pa_cons (pv 1) (pa_cons pe_str pa_nil))))
       (pss_cons (ps_expr (pe_c G_checkstep (hr.mono (by decide)) rfl (pa_cons (pv 2) pa_nil)))
       (pss_cons (ps_if (pt_not (pt_val (pe_c G_iswithin (hr.mono (by decide)) rfl (pa_cons (pv 3) (pa_cons pe_int (pa_cons (pe_gI c_MOST_TIME) pa_nil)))))) (pss_one (ps_never)) pss_nil)
       (pss_cons (ps_fld (pv 0) (pe_callTy call_tuple_of (by rfl) T.b_tuple (by decide +kernel) (pa_cons (pv 1) pa_nil)) rfl)
       (pss_cons (ps_fld (pv 0) (pv 2) rfl)
       (pss_one (ps_fld (pv 0) (pv 3) rfl))))))), ?_⟩
    refine ⟨_, rfl, a, xs, ts, _, rfl, ha, hb, ho, hl, fun H1 s1 => ?_⟩
    have e2 : (decide ((0 : Int) ≤ ph) && decide (ph ≤ 1000000000000000000000000000000)) = true := k6_pos b3 b4
    refine ⟨_, rfl, _, rfl, b1, b2, ?_⟩
    refine ⟨_, rfl, _, _, _, _, rfl, .int _, _, rfl, ?_⟩
    show if (!(decide ((0 : Int) ≤ ph) && decide (ph ≤ 1000000000000000000000000000000))) = true then _ else _
    rw [e2]
    refine iteF ?_
    have hp1 := s1 _ _ hp
    refine ⟨_, rfl, a, xs, rfl, .inl ⟨SqL.of (s1 _ _ ha), fun l hl' => ?_⟩⟩
    have npl : p ≠ l := ne_of_none hp1 hl'
    refine ⟨_, rfl, p, L.c_Row, dx, [], rfl, (by rw [upd_ne npl]; exact hp1), T.cf_Row.cl, T.nf_Row_breakers, (by show 0 < 1000; decide), ?_⟩
    refine ⟨_, rfl, _, rfl, p, L.c_Row, dx, _, rfl, upd_same, T.cf_Row.cl, T.nf_Row_step, Nat.lt_of_le_of_lt (putF_len _ _ [] (Nat.le_refl 0)) (by decide), ?_⟩
    refine ⟨_, rfl, _, rfl, p, L.c_Row, dx, _, rfl, upd_same, T.cf_Row.cl, T.nf_Row_phase, Nat.lt_of_le_of_lt (putF_len _ _ _ (putF_len _ _ [] (Nat.le_refl 0))) (by decide), ?_⟩
    refine k l _ ⟨⟨dx, upd_same⟩, ?_, ?_, ho, hl, b1, b2, b3, b4⟩ ?_
    · rw [upd_ne npl.symm, upd_ne npl.symm, upd_ne npl.symm, upd_same]
    · refine L2.Paired.mapP hb fun x t ⟨b, e, h⟩ => ⟨b, e, ?_⟩
      have nbp : b ≠ p := ne_of h hp (by intro z; cases z)
      have h1 := s1 _ _ h
      rw [upd_ne nbp, upd_ne nbp, upd_ne nbp, upd_ne (ne_of_none h1 hl')]
      exact h1
    · intro b o n e
      have h1 := s1 _ _ e
      rw [upd_ne n, upd_ne n, upd_ne n, upd_ne (ne_of_none h1 hl')]
      exact h1
abbrev N_Rowbreakerlist : List Str := ["self"]
theorem sc_Rowbreakerlist : FnScope N_Rowbreakerlist ["self"] (defScope st_Row_breaker_list) := ⟨rfl, rfl, rfl, by decide +kernel, rfl, by decide +kernel, by decide +kernel⟩
theorem fn_Rowbreakerlist (T : LX K mg L) {fd : FuncData} (F : Fun K "breaker_list" "Row.breaker_list" st_Row_breaker_list L.m_Row_breaker_list fd) : FnOk P w K mg base CX0 1 L.m_Row_breaker_list fd ["self"] (spRBl L.c_Row) := by
  have nd := sc_Rowbreakerlist.nd
  refine F.ok sc_Rowbreakerlist (fun vs H Q E h => ?_) (fun cdv A outer S H vs Q E hr h => ?_)
  · obtain ⟨p, B, xs, ts, st, ph, rfl, _⟩ := h
    rfl
  · obtain ⟨p, B, xs, ts, st, ph, rfl, R, k⟩ := h
    refine ⟨_, (pss_one (ps_ret (pe_callTy call_list_of (by rfl) T.b_list (by decide +kernel) (pa_cons (pe_fld (pv 0) rfl) pa_nil)))), ?_⟩
    obtain ⟨dx, hp⟩ := R.ob
    exact ⟨_, rfl, p, L.c_Row, dx, _, _, rfl, hp, T.cf_Row.cl, T.nf_Row_breakers, rowF_b _ _ _, B, xs, rfl, .inr (SqT.of R.tp), fun l hl' => k l _ hl' rfl⟩
theorem ok_Rowbreakerlist (T : LX K mg L) : Met P w K mg base L.c_Row "breaker_list" 1 L.m_Row_breaker_list ["self"] (spRBl L.c_Row) := T.mm_Row_breaker_list.met fun fd F => fn_Rowbreakerlist T F
abbrev N_Rowlen : List Str := ["self"]
theorem sc_Rowlen : FnScope N_Rowlen ["self"] (defScope st_Row_len) := ⟨rfl, rfl, rfl, by decide +kernel, rfl, by decide +kernel, by decide +kernel⟩
theorem fn_Rowlen (T : LX K mg L) {fd : FuncData} (F : Fun K "__len__" "Row.__len__" st_Row_len L.m_Row_len fd) : FnOk P w K mg base CX0 1 L.m_Row_len fd ["self"] (spRLen L.c_Row) := by
  have nd := sc_Rowlen.nd
  refine F.ok sc_Rowlen (fun vs H Q E h => ?_) (fun cdv A outer S H vs Q E hr h => ?_)
  · obtain ⟨p, B, xs, ts, st, ph, rfl, _⟩ := h
    rfl
  · obtain ⟨p, B, xs, ts, st, ph, rfl, R, k⟩ := h
    refine ⟨_, (pss_one (ps_ret (pe_callB call_len_seq (by rfl) T.b_len PySem.boot_len (pa_cons (pe_fld (pv 0) rfl) pa_nil)))), ?_⟩
    obtain ⟨dx, hp⟩ := R.ob
    exact ⟨_, rfl, p, L.c_Row, dx, _, _, rfl, hp, T.cf_Row.cl, T.nf_Row_breakers, rowF_b _ _ _, B, xs, rfl, .inr (SqT.of R.tp), k⟩
theorem ok_Rowlen (T : LX K mg L) : Met P w K mg base L.c_Row "__len__" 1 L.m_Row_len ["self"] (spRLen L.c_Row) := T.mm_Row_len.met fun fd F => fn_Rowlen T F
abbrev N_Rowgetitem : List Str := ["self", "at"]
theorem sc_Rowgetitem : FnScope N_Rowgetitem ["self", "at"] (defScope st_Row_getitem) := ⟨rfl, rfl, rfl, by decide +kernel, rfl, by decide +kernel, by decide +kernel⟩
theorem fn_Rowgetitem (T : LX K mg L) {fd : FuncData} (F : Fun K "__getitem__" "Row.__getitem__" st_Row_getitem L.m_Row_getitem fd) : FnOk P w K mg base CX0 3 L.m_Row_getitem fd ["self", "at"] (spRGet L.c_Row) := by
  have G_iswithin := ok_iswithin (P := P) (w := w) (base := base) T
  have nd := sc_Rowgetitem.nd
  refine F.ok sc_Rowgetitem (fun vs H Q E h => ?_) (fun cdv A outer S H vs Q E hr h => ?_)
  · obtain ⟨p, B, xs, ts, st, ph, i, x, rfl, _⟩ := h
    rfl
  · obtain ⟨p, B, xs, ts, st, ph, i, x, rfl, R, i0, hx, i1, k⟩ := h
    refine ⟨_, (pss_cons (ps_if (pt_not (pt_val (pe_c G_iswithin (hr.mono (by decide)) rfl (pa_cons (pv 1) (pa_cons pe_int (pa_cons (pe_op op_sub (pe_callB call_len_seq (by rfl) T.b_len PySem.boot_len (pa_cons (pe_fld (pv 0) rfl) pa_nil)) pe_int) pa_nil)))))) (pss_one (ps_never)) pss_nil)
       (pss_one (ps_ret (pe_ix (r := rIxT K) ix_tup (pe_fld (pv 0) rfl) (pv 1) (fun _ _ => rfl))))), ?_⟩
    obtain ⟨dx, hp⟩ := R.ob
    refine ⟨_, rfl, _, rfl, p, L.c_Row, dx, _, _, rfl, hp, T.cf_Row.cl, T.nf_Row_breakers, rowF_b _ _ _, B, xs, rfl, .inr (SqT.of R.tp), _, _, rfl, rfl, _, _, _, _, rfl, .int _, _, rfl, ?_⟩
    have e1 : (decide ((0 : Int) ≤ i) && decide (i ≤ (xs.length : Int) - 1)) = true := k6_pos i0 (by omega)
    show if (!(decide ((0 : Int) ≤ i) && decide (i ≤ (xs.length : Int) - 1))) = true then _ else _
    rw [e1]
    refine iteF ?_
    exact ⟨_, rfl, p, L.c_Row, dx, _, _, rfl, hp, T.cf_Row.cl, T.nf_Row_breakers, rowF_b _ _ _, _, rfl, B, xs, i, x, rfl, rfl, SqT.of R.tp, hx, k⟩
theorem ok_Rowgetitem (T : LX K mg L) : Met P w K mg base L.c_Row "__getitem__" 3 L.m_Row_getitem ["self", "at"] (spRGet L.c_Row) := T.mm_Row_getitem.met fun fd F => fn_Rowgetitem T F
abbrev N_Rowcontains : List Str := ["self", "x"]
theorem sc_Rowcontains : FnScope N_Rowcontains ["self", "x"] (defScope st_Row_contains) := ⟨rfl, rfl, rfl, by decide +kernel, rfl, by decide +kernel, by decide +kernel⟩
theorem fn_Rowcontains (T : LX K mg L) {fd : FuncData} (F : Fun K "__contains__" "Row.__contains__" st_Row_contains L.m_Row_contains fd) : FnOk P w K mg base CX0 3 L.m_Row_contains fd ["self", "x"] (spRCon L.c_Row) := by
  have G_isatleast := ok_isatleast (P := P) (w := w) (base := base) T
  have nd := sc_Rowcontains.nd
  refine F.ok sc_Rowcontains (fun vs H Q E h => ?_) (fun cdv A outer S H vs Q E hr h => ?_)
  · obtain ⟨p, B, xs, ts, st, ph, x, n, rfl, _⟩ := h
    rfl
  · obtain ⟨p, B, xs, ts, st, ph, x, n, rfl, R, hx, k⟩ := h
    refine ⟨_, (pss_one (ps_ret (pe_and (pe_c G_isatleast (hr.mono (by decide)) rfl (pa_cons (pv 1) (pa_cons (pe_fld (pv 0) rfl) pa_nil))) (pe_one (pe_cmpR op_eq (pe_op op_mod (pe_op op_sub (pv 1) (pe_fld (pv 0) rfl)) (pe_fld (pv 0) rfl)) pe_int (nomark _)))))), ?_⟩
    obtain ⟨dx, hp⟩ := R.ob
    have s0 := R.s0
    refine ⟨_, rfl, _, rfl, p, L.c_Row, dx, _, _, rfl, hp, T.cf_Row.cl, T.nf_Row_phase, rowF_p _ _ _, x, n, _, rfl, hx, _, rfl, ?_⟩
    refine ite2 (fun c => ?_) (fun c => ?_)
    · cases x with
      | int i =>
        have c' : decide (ph ≤ i) = true := c
        have k' : Q (.bl (decide (ph ≤ i) && decide ((i - ph) % st = 0))) H := k
        rw [c', Bool.true_and] at k'
        refine ⟨_, rfl, _, rfl, p, L.c_Row, dx, _, _, rfl, hp, T.cf_Row.cl, T.nf_Row_phase, rowF_p _ _ _, _, _, rfl, rfl, _, rfl, p, L.c_Row, dx, _, _, rfl, hp, T.cf_Row.cl, T.nf_Row_step, rowF_s _ _ _, _, _, rfl, rfl, by omega, rfl, ?_⟩
        have e : decide (V.int ((i - ph) % st) = V.int 0) = decide ((i - ph) % st = 0) := by rw [dec_int]; rfl
        rw [e]
        exact k'
      | _ => exact absurd (show false = true from c) Bool.false_ne_true
    · cases x with
      | int i =>
        have c' : decide (ph ≤ i) = false := by
          have c2 : ¬ (decide (ph ≤ i) = true) := c
          simpa using c2
        have k' : Q (.bl (decide (ph ≤ i) && decide ((i - ph) % st = 0))) H := k
        rw [c', Bool.false_and] at k'
        exact k'
      | _ => exact k
theorem ok_Rowcontains (T : LX K mg L) : Met P w K mg base L.c_Row "__contains__" 3 L.m_Row_contains ["self", "x"] (spRCon L.c_Row) := T.mm_Row_contains.met fun fd F => fn_Rowcontains T F
end
section
variable {X : Cx} {L : LA}
theorem row_fn {K : PySem.W.Frag} {mg : Str → Option Value} (T : LX K mg L) : ∃ fd, Fun K "__init__" "Row.__init__" st_Row_init L.i_Row fd ∧ FunD K "__init__" "Row.__init__" (defArgs st_Row_init) (defBody st_Row_init) (defScope st_Row_init) [] [("phase", .int 0)] L.i_Row fd := by
  obtain ⟨fd, F⟩ := T.in_Row
  refine ⟨fd, ?_, F⟩
  obtain ⟨oc, od, dV, kV, doc, pm, an, cdv, ct, osl, rfl, lk, hcd, hD, hK⟩ := F.ex
  rcases hD with ⟨_, rfl⟩ | ⟨e, _⟩
  · exact ⟨⟨oc, od, kV, doc, pm, an, cdv, ct, osl, rfl, lk, hcd⟩, F.kp⟩
  · exact absurd rfl e
theorem row_k1 {K : PySem.W.Frag} {mg : Str → Option Value} (T : LX K mg L) : ∃ fd, Fun K "__init__" "Row.__init__" st_Row_init L.i_Row fd ∧ KBn K fd ["self", "breakers", "step", "phase"] 3 ["phase"] (fun us ws => us ++ ws) (fun us ws => us ++ ws) := by
  obtain ⟨fd, F, FD⟩ := row_fn T
  obtain ⟨mv, h⟩ := FD.kbinds0 (ps := ["self", "breakers", "step", "phase"]) 3 ["phase"] [] (fun us _ ws => us ++ ws) (by simp) (by simp) (fun r1 _ r3 => r1.append r3) (fun D doc pm an cdv ct us mv ws h1 h2 h3 => by
    match us, h1, ws, h3, mv, h2 with
    | [_, _, _], _, [_], _, [], _ => rfl)
  exact ⟨fd, F, h⟩
theorem row_k2 {K : PySem.W.Frag} {mg : Str → Option Value} (T : LX K mg L) : ∃ fd ds, Fun K "__init__" "Row.__init__" st_Row_init L.i_Row fd ∧ Vals [.int 0] ds ∧ Binds K fd ["self", "breakers", "step", "phase"] ds := by
  obtain ⟨fd, F, FD⟩ := row_fn T
  obtain ⟨ds, h1, h2⟩ := FD.binds0 (ps := ["self", "breakers", "step", "phase"]) 3 (by simp) rfl (fun D doc pm an cdv ct us ks h1 h2 => by
    match us, h1, ks, h2 with
    | [_, _, _], _, [_], _ => exact ⟨_, _, _, _, _, _, rfl, rfl, rfl⟩)
  exact ⟨fd, ds, F, h1, h2⟩
/-- Row(e, s, phase=f) -/
theorem pe_mkRow_p_phase (T : LX X.K X.mg L) (hr : Room 6 X.A) {p pos : Pos} {e e2 : Expr} {kws : List Keyword} {t tk : TA} (hg : Gl X "Row") (ha : PA X [e, e2] t) (hkw : PK X kws tk)
    (hall : (backToKw pos (keywordEach kws X.env)).all (·.1.isSome) = true := by rfl) (hks : (backToKw pos (keywordEach kws X.env)).filterMap (·.1) = (["phase"] : List Str) := by rfl)
    (he : starEach (e :: [e2]) X.env = (false, eval e X.env) :: starEach [e2] X.env := by rfl) (hpl : ((backTo pos (starEach (e :: [e2]) X.env)).any (·.1) || (backToKw pos (keywordEach kws X.env)).any (·.1.isNone)) = false := by rfl) :
    PE X (.Call (.Name "Row" p) (e :: [e2]) kws pos) (tMakeK L.c_Row 2 1 (spRInit L.c_Row) (fun us ws => us ++ ws) E0 t tk) := by
  obtain ⟨fd, F, b⟩ := row_k1 T
  exact pe_makeK T.mk_Row (fn_Rowinit T F) hr hg T.gc_Row b pass0 ha hkw hall hks (by decide) he hpl
/-- Row(e, s) -/
theorem pe_mkRow (T : LX X.K X.mg L) (hr : Room 6 X.A) {p pos : Pos} {e e2 : Expr} {t : TA} (hg : Gl X "Row") (ha : PA X [e, e2] t)
    (he : starEach (e :: [e2]) X.env = (false, eval e X.env) :: starEach [e2] X.env := by rfl) (hpl : (backTo pos (starEach [e2] X.env)).any (·.1) = false := by rfl) :
    PE X (.Call (.Name "Row" p) (e :: [e2]) [] pos) (tMake L.c_Row (spRInit L.c_Row) [.int 0] E0 t) := by
  obtain ⟨fd, ds, F, hv, b⟩ := row_k2 T
  exact pe_make T.mk_Row (fn_Rowinit T F) hr hg T.gc_Row b hv pass0 ha (by decide) he hpl
end
/-! ### states of breakers, and data of them -/
abbrev StD := Str × Int
def StAt (H : Hp) (x : V) (s : StD) : Prop := ∃ a, x = .ref a ∧ H a = some (.tup [.str s.1, .int s.2])
abbrev Sts (H : Hp) (xs : List V) (ss : List StD) : Prop := Paired (StAt H) xs ss
theorem StAt.nl {H H' : Hp} (k : NL H H') {x : V} {d : StD} (h : StAt H x d) : StAt H' x d := by
  obtain ⟨a, e, h⟩ := h
  exact ⟨a, e, k _ _ h fun _ z => nomatch z⟩
theorem Sts.nl {H H' : Hp} (k : NL H H') {xs : List V} {ss : List StD} (h : Sts H xs ss) : Sts H' xs ss := L2.Paired.mapP h fun _ _ z => z.nl k
theorem paired_len {α β : Type} {F : α → β → Prop} : ∀ {xs : List α} {ys : List β}, Paired F xs ys → xs.length = ys.length
  | _, _, .nil => rfl
  | _, _, .cons _ p => by rw [List.length_cons, List.length_cons, paired_len p]
theorem paired_get {α β : Type} {F : α → β → Prop} : ∀ {xs : List α} {ys : List β} {i : Nat} {x : α}, Paired F xs ys → xs[i]? = some x → ∃ y, ys[i]? = some y ∧ F x y
  | _, _, i, x, .nil, e => by cases e
  | _, _, 0, x, .cons h _, e => by cases e; exact ⟨_, rfl, h⟩
  | _, _, i + 1, x, .cons _ p, e => paired_get (i := i) p e
theorem paired_get2 {α β : Type} {F : α → β → Prop} : ∀ {xs : List α} {ys : List β} {i : Nat} {y : β}, Paired F xs ys → ys[i]? = some y → ∃ x, xs[i]? = some x ∧ F x y
  | _, _, i, x, .nil, e => by cases e
  | _, _, 0, x, .cons h _, e => by cases e; exact ⟨_, rfl, h⟩
  | _, _, i + 1, x, .cons _ p, e => paired_get2 (i := i) p e
theorem paired_app {α β : Type} {F : α → β → Prop} : ∀ {xs us : List α} {ys vs : List β}, Paired F xs ys → Paired F us vs → Paired F (xs ++ us) (ys ++ vs)
  | _, _, _, _, .nil, q => q
  | _, _, _, _, .cons h p, q => .cons h (paired_app p q)
theorem StAt.same {H H' : Hp} (s : Same H H') {x : V} {d : StD} (h : StAt H x d) : StAt H' x d := by
  obtain ⟨a, e, h⟩ := h
  exact ⟨a, e, s _ _ h⟩
theorem Sts.same {H H' : Hp} (s : Same H H') {xs : List V} {ss : List StD} (h : Sts H xs ss) : Sts H' xs ss := L2.Paired.mapP h fun _ _ z => z.same s
/-- the breaker passes a request at t -/
def psB (b : Tri) (s : StD) (t : Int) : Prop := s.1 = "open" → b.2.1 ≤ t - s.2
def hfS (s : StD) : StD := if s.1 = "open" then ("half", 0) else s
def okS (b : Tri) (s : StD) : StD := if (hfS s).1 = "half" ∧ (hfS s).2 + 1 < b.2.2 then ("half", (hfS s).2 + 1) else ("closed", 0)
def badS (b : Tri) (s : StD) (t : Int) : StD := if (hfS s).1 = "closed" ∧ (hfS s).2 + 1 < b.1 then ("closed", (hfS s).2 + 1) else ("open", t)
theorem sC_O : ¬ (("closed" : Str) = "open") := by decide +kernel
theorem sH_O : ¬ (("half" : Str) = "open") := by decide +kernel
theorem sO_C : ¬ (("open" : Str) = "closed") := by decide +kernel
theorem sH_C : ¬ (("half" : Str) = "closed") := by decide +kernel
theorem sC_H : ¬ (("closed" : Str) = "half") := by decide +kernel
theorem sO_H : ¬ (("open" : Str) = "half") := by decide +kernel
theorem hf_closed (n : Int) : hfS (("closed" : Str), n) = (("closed" : Str), n) := if_neg sC_O
theorem hf_half (n : Int) : hfS (("half" : Str), n) = (("half" : Str), n) := if_neg sH_O
theorem hf_open (n : Int) : hfS (("open" : Str), n) = (("half" : Str), 0) := if_pos rfl
/-- what is told of a request that k of n breakers pass -/
def outV (n k : Nat) (inS : Bool) : List V := if k < n then [.str "rejected", .int k] else if inS then [.str "failed"] else [.str "served"]
def okW (s : StD) : Prop := s.1 = "closed" ∨ s.1 = "open" ∨ s.1 = "half"
def stD (s : StD) : PyData := .tuple [.str s.1, .int s.2]
theorem Sts.dp {K : PySem.W.Frag} {H : Hp} : ∀ {xs : List V} {ss : List StD}, Sts H xs ss → DpAll K H xs (ss.map stD)
  | _, _, .nil => .nil
  | _, _, .cons ⟨a, e, h⟩ t => by
    subst e
    exact .cons (.tup (SqT.of h) (.cons (.str _) (.cons (.int _) .nil))) (Sts.dp t)
theorem stD_eq (s u : StD) : PyData.eqv (stD s) (stD u) = decide (s = u) := by
  obtain ⟨a, b⟩ := s
  obtain ⟨a', b'⟩ := u
  simp only [stD, PyData.eqv, PyData.eqvAll, Bool.and_true]
  rw [Bool.eq_iff_iff]
  simp [Prod.ext_iff]
theorem stDs_eq : ∀ ss us : List StD, PyData.eqvAll (ss.map stD) (us.map stD) = decide (ss = us)
  | [], [] => by simp [PyData.eqvAll]
  | [], _ :: _ => by simp [PyData.eqvAll]
  | _ :: _, [] => by simp [PyData.eqvAll]
  | t :: ts, u :: us => by
    rw [List.map_cons, List.map_cons, PyData.eqvAll, stD_eq, stDs_eq ts us, Bool.eq_iff_iff]
    simp
theorem sok_W {s : StD} (h : okW s) : PyData.strOk s.1 = true := by
  obtain ⟨a, b⟩ := s
  rcases h with h | h | h
  · have h : a = "closed" := h
    subst h
    show PyData.strOk "closed" = true
    decide +kernel
  · have h : a = "open" := h
    subst h
    show PyData.strOk "open" = true
    decide +kernel
  · have h : a = "half" := h
    subst h
    show PyData.strOk "half" = true
    decide +kernel
theorem canSts : ∀ {ss : List StD}, (∀ s ∈ ss, okW s) → PyData.canLayAll0 (ss.map stD) = true
  | [], _ => by simp [PyData.canLayAll0]
  | t :: ts, h => by
    rw [List.map_cons, PyData.canLayAll0, canSts fun s hs => h s (List.mem_cons_of_mem _ hs)]
    simp [stD, PyData.canLay0, PyData.canLayAll0, sok_W (h t (List.mem_cons_self ..))]
theorem depSts : ∀ ss : List StD, PyData.depthAll (ss.map stD) ≤ 10
  | [] => by simp [PyData.depthAll]
  | t :: ts => by
    have := depSts ts
    rw [List.map_cons, PyData.depthAll]
    have h2 : (stD t).depth ≤ 10 := by simp [stD, PyData.depth, PyData.depthAll]
    omega
theorem shSts {ss : List StD} (h : ∀ s ∈ ss, okW s) : SeqAt.shaped (.list (ss.map stD)) = true := by
  refine Bool.and_eq_true_iff.mpr ⟨?_, decide_eq_true ?_⟩
  · rw [PyData.canLay0]
    exact canSts h
  · have := depSts ss
    rw [PyData.depth]
    omega
theorem Sts.dpl {K : PySem.W.Frag} {H : Hp} {l : Addr} {ys : List V} {ss : List StD} (h : H l = some (.lst ys)) (s : Sts H ys ss) : Dp K H (.ref l) (.list (ss.map stD)) := .lst (SqL.of h) s.dp
theorem eqSts (ss us : List StD) : PyData.eqv (.list (ss.map stD)) (.list (us.map stD)) = decide (ss = us) := by
  rw [PyData.eqv]
  exact stDs_eq ss us
/-! ### lists of ints as data; what the law asks of told times -/
def intsD (ns : List Int) : PyData := .list (ns.map PyData.int)
theorem ints_dp {K : PySem.W.Frag} {H : Hp} : ∀ ns : List Int, DpAll K H (ns.map V.int) (ns.map PyData.int)
  | [] => .nil
  | n :: ns => .cons (.int n) (ints_dp ns)
theorem canInts : ∀ ns : List Int, PyData.canLayAll0 (ns.map PyData.int) = true
  | [] => by simp [PyData.canLayAll0]
  | n :: ns => by rw [List.map_cons, PyData.canLayAll0, canInts ns]; simp [PyData.canLay0]
theorem depInts : ∀ ns : List Int, PyData.depthAll (ns.map PyData.int) ≤ 10
  | [] => by simp [PyData.depthAll]
  | n :: ns => by
    have := depInts ns
    rw [List.map_cons, PyData.depthAll]
    have h2 : (PyData.int n).depth ≤ 10 := by simp [PyData.depth]
    omega
theorem shInts (ns : List Int) : SeqAt.shaped (intsD ns) = true := by
  refine Bool.and_eq_true_iff.mpr ⟨?_, decide_eq_true ?_⟩
  · unfold intsD
    rw [PyData.canLay0]
    exact canInts ns
  · have := depInts ns
    unfold intsD
    rw [PyData.depth]
    omega
theorem eqInts1 : ∀ ns ms : List Int, PyData.eqvAll (ns.map PyData.int) (ms.map PyData.int) = decide (ns = ms)
  | [], [] => by simp [PyData.eqvAll]
  | [], _ :: _ => by simp [PyData.eqvAll]
  | _ :: _, [] => by simp [PyData.eqvAll]
  | n :: ns, m :: ms => by
    rw [List.map_cons, List.map_cons, PyData.eqvAll, eqInts1 ns ms, Bool.eq_iff_iff]
    simp [PyData.eqv]
theorem eqInts (ns ms : List Int) : PyData.eqv (intsD ns) (intsD ms) = decide (ns = ms) := by
  unfold intsD
  rw [PyData.eqv]
  exact eqInts1 ns ms
theorem Dp.ints {K : PySem.W.Frag} {H : Hp} {a : Addr} {ns : List Int} (h : H a = some (.lst (ns.map V.int))) : Dp K H (.ref a) (intsD ns) := .lst (SqL.of h) (ints_dp ns)
/-! ### rules inside comprehensions -/
theorem call_lenK {X : Cx} {K : PySem.W.Frag} (h : X.K = K) : CallR X (.builtin "len") (fun xs H Q => ∃ p ys, xs = [.ref p] ∧ (SqL K H p ys ∨ SqT K H p ys) ∧ Q (.int ys.length) H) := h ▸ call_len_seq
theorem call_listK {X : Cx} {K : PySem.W.Frag} (h : X.K = K) : CallR X (.type "list") (fun xs H Q => ∃ p ys, xs = [.ref p] ∧ (SqL K H p ys ∨ SqT K H p ys) ∧ ∀ l, H l = none → Q (.ref l) (upd H l (.lst ys))) := h ▸ call_list_of
theorem op_neDK {X : Cx} {K : PySem.W.Frag} (h : X.K = K) (hu : X.A.units + 64 < cLine) : OpR X (compareOp .NotEq) (rNeD K) := h ▸ op_neD hu
theorem op_eqDK {X : Cx} {K : PySem.W.Frag} (h : X.K = K) (hu : X.A.units + 64 < cLine) : OpR X (compareOp .Eq) (rEqD K) := h ▸ op_eqD hu
theorem op_inK {X : Cx} {K : PySem.W.Frag} (h : X.K = K) : OpR X (compareOp CmpOp.In) (rIn K false) := h ▸ op_in_seq
theorem op_notInK {X : Cx} {K : PySem.W.Frag} (h : X.K = K) : OpR X (compareOp CmpOp.NotIn) (rIn K true) := h ▸ op_notIn_seq
/-! ### list.count of strings -/
def eqs (k : Str) (v : Value) : Bool := match v with
  | .str n _ => n == k
  | _ => false
def rCntS (K : PySem.W.Frag) : V → List V → Hp → VK → Prop := fun x xs H Q => ∃ (p : Addr) (ss : List Str) (k : Str), x = .ref p ∧ xs = [.str k] ∧ SqL K H p (ss.map V.str) ∧ Q (.int (ss.countP (fun y => decide (y = k)) : Nat)) H
theorem eqs_at {k : Str} {t : Tok} {A : Around} {s : Shared} : ∀ {ss : List Str} {us : List Value}, Vals (ss.map V.str) us → ∀ y ∈ us, SeqAt.EqAt A s y (.str k t) (eqs k y)
  | [], us, r => by
    rw [List.map_nil] at r
    cases r
    exact fun y hy => nomatch hy
  | n :: ss, us, r => by
    rw [List.map_cons] at r
    cases r with
    | cons r1 r2 =>
      obtain ⟨t', rfl⟩ := r1
      intro y hy
      rcases List.mem_cons.mp hy with q | q
      · rw [q]
        exact SeqAt.EqAt.str_str n t' k t
      · exact eqs_at r2 y q
theorem eqs_count {k : Str} : ∀ {ss : List Str} {us : List Value}, Vals (ss.map V.str) us → us.countP (eqs k) = ss.countP fun y => decide (y = k)
  | [], us, r => by
    rw [List.map_nil] at r
    cases r
    rfl
  | n :: ss, us, r => by
    rw [List.map_cons] at r
    cases r with
    | cons r1 r2 =>
      obtain ⟨t', rfl⟩ := r1
      have ih := eqs_count (k := k) r2
      rw [List.countP_cons, List.countP_cons, ih]
      rfl
theorem mt_scount {X : Cx} : MtR X "list.count" (rCntS X.K) := by
  intro pins s σ H x xs v us Q I rx rxs h
  obtain ⟨p, ns, k, rfl, rfl, hs, q⟩ := h
  cases rx
  obtain ⟨u, rfl, ru⟩ := rxs.one
  obtain ⟨t, rfl⟩ := ru
  obtain ⟨its, rv, ⟨⟨cls, dd, data, sl⟩, n, ho, hc, hdn, hd⟩, hlen⟩ := I.list hs
  simp only at hc hd
  subst hc hd
  refine call_meets PySem.F.slot_list_count ⟨_, ho, rfl⟩ PySem.F.entry_list_count (PySem.F.args_list_count_2 _ _)
    (SeqAt.list_countAt p its.toArray n dd sl (.str k t) (eqs k)) ⟨ho, fun y hy => eqs_at rv y (by simpa using hy), ?_⟩
  have ec : its.toArray.toList.countP (eqs k) = ns.countP fun y => decide (y = k) := eqs_count rv
  refine ⟨.int (ns.countP (fun y => decide (y = k)) : Nat), H, I.tok _, ⟨s.toks, ?_⟩, q⟩
  show Value.int ((its.toArray.toList.countP (eqs k) : Nat) : Int) s.toks = Value.int ((ns.countP (fun y => decide (y = k)) : Nat) : Int) s.toks
  rw [ec]
/-- a comprehension over enumerate -/
theorem lc_enum {K : PySem.W.Frag} {a : Addr} {xs : List V} {g : TG} {tt : TT} {te : TE} {vs : List Nat} {σ : L2.St} {H1 : Hp} {D : Addr} {Qd : Hp → Prop} (Pv : Nat → Hp → Prop) (h0 : Pv 0 (upd H1 D (.lst []))) (hl : ∀ i H, Pv i H → SqL K H a xs)
    (hs : ∀ (i : Nat) (x : V) (T : Addr) (H : Hp), xs[i]? = some x → Pv i H → H T = none → g (.ref T) (wipe σ vs) (upd H T (.tup [.int (i : Nat), x])) fun σ2 H2 => wipe σ2 vs = wipe σ vs ∧ tt σ2 H2 fun b H3 =>
      if b = true then te σ2 H3 fun y H4 => ∃ acc, H4 D = some (.lst acc) ∧ acc.length < sizeLine ∧ Pv (i + 1) (upd H4 D (.lst (acc ++ [y]))) else Pv (i + 1) H3) (hd : ∀ H, Pv xs.length H → Qd H) :
    ∃ W : Nat → Nat → Hp → Prop, (∃ m, W 0 m (upd H1 D (.lst []))) ∧ ∀ i m H, W i m H → ((Ite K a).stop i H ∧ Qd H) ∨ ((Ite K a).go i H ∧ ∃ Nx : Hp → Prop, (∀ H', Nx H' → ∃ m', m' < m ∧ W (i + 1) m' H') ∧ ∀ x H', (Ite K a).yld i H x H' → g x (wipe σ vs) H' fun σ2 H2 => wipe σ2 vs = wipe σ vs ∧ tt σ2 H2 fun b H3 =>
        if b = true then te σ2 H3 fun y H4 => ∃ acc, H4 D = some (.lst acc) ∧ acc.length < sizeLine ∧ Nx (upd H4 D (.lst (acc ++ [y]))) else Nx H3) := by
  refine ⟨fun i m H => m = xs.length - i ∧ i ≤ xs.length ∧ Pv i H, ⟨xs.length, by omega, Nat.zero_le _, h0⟩, ?_⟩
  rintro i m H ⟨rfl, hi, p⟩
  have q := hl i H p
  by_cases hlt : i < xs.length
  · refine .inr ⟨⟨xs, xs[i], q, List.getElem?_eq_getElem hlt⟩, Pv (i + 1), fun H' p' => ⟨xs.length - (i + 1), by omega, rfl, hlt, p'⟩, fun v H' y => ?_⟩
    obtain ⟨T, x', rfl, hT, rfl, f⟩ := y
    exact hs i x' T H (f xs q) p hT
  · have e : i = xs.length := by omega
    subst e
    exact .inl ⟨⟨xs, q, Nat.le_refl _⟩, hd H p⟩
theorem op_powW {X : Cx} : OpR X (binaryOp .Pow) (rI (fun i j => 0 ≤ j ∧ (Builtin.Int.intBits i : Int) * j ≤ 2 ^ 27) fun i j => .int (i ^ j.toNat)) := opI fun _ _ _ _ _ _ _ hc q => PyProof.Rows.pow_int hc.1 hc.2 q
/-! ### == of rows -/
def spEqR (C : Addr) : Sp := fun vs H Q _ => ∃ p B xs ts st ph v b, vs = [.ref p, v] ∧ RowAt C H p B xs ts st ph ∧ EqOf C H (ts, st, ph) v b ∧ Q (.bl b) H
section
variable {P : Program} {w : World} {K : PySem.W.Frag} {mg : Str → Option Value} {base : Heap} {L : LA}
abbrev N_Roweq : List Str := ["self", "other"]
theorem sc_Roweq : FnScope N_Roweq ["self", "other"] (defScope st_Row_eq) := ⟨rfl, rfl, rfl, by decide +kernel, rfl, by decide +kernel, by decide +kernel⟩
theorem fn_Roweq (T : LX K mg L) {fd : FuncData} (F : Fun K "__eq__" "Row.__eq__" st_Row_eq L.m_Row_eq fd) : FnOk P w K mg base CX0 1 L.m_Row_eq fd ["self", "other"] (spEqR L.c_Row) := by
  have M_Row := T.gc_Row
  have nd := sc_Roweq.nd
  refine F.ok sc_Roweq (fun vs H Q E h => ?_) (fun cdv A outer S H vs Q E hr h => ?_)
  · obtain ⟨p, B, xs, ts, st, ph, v, b, rfl, _⟩ := h
    rfl
  · obtain ⟨p, B, xs, ts, st, ph, v, b, rfl, R, h, k⟩ := h
    refine ⟨_, (pss_one (ps_ret (pe_and (pe_callB call_isi (by rfl) T.b_isinstance (by decide +kernel) (pa_cons (pv 1) (pa_cons (pe_glob rfl M_Row rr) pa_nil))) (pe_and (pe_cmpR (op_eqD hr.units) (pe_fld (pv 0) rfl) (pe_fld (pv 1) rfl) (nomark _)) (pe_and (pe_cmpR op_eq (pe_fld (pv 0) rfl) (pe_fld (pv 1) rfl) (nomark _)) (pe_one (pe_cmpR op_eq (pe_fld (pv 0) rfl) (pe_fld (pv 1) rfl) (nomark _)))))))), ?_⟩
    obtain ⟨dx, hp⟩ := R.ob
    cases h with
    | non => exact ⟨_, rfl, _, .ref L.c_Row, _, _, _, rfl, .own L.c_Row, Kd.non.ty, T.cf_Row.kitT (H := H) .non, _, rfl, iteF k⟩
    | lst e => exact ⟨_, rfl, _, .ref L.c_Row, _, _, _, rfl, .own L.c_Row, (Kd.lst e).ty, T.cf_Row.kitT (.lst e), _, rfl, iteF k⟩
    | tup e => exact ⟨_, rfl, _, .ref L.c_Row, _, _, _, rfl, .own L.c_Row, (Kd.tup e).ty, T.cf_Row.kitT (.tup e), _, rfl, iteF k⟩
    | @row q U ys us st' ph' R' =>
      obtain ⟨dy, hq⟩ := R'.ob
      refine ⟨_, rfl, _, .ref L.c_Row, _, _, _, rfl, .own L.c_Row, T.cf_Row.tyR hq, if_pos (beq_self_eq_true _), _, rfl, iteT ?_⟩
      refine ⟨_, rfl, p, L.c_Row, dx, _, _, rfl, hp, T.cf_Row.cl, T.nf_Row_breakers, rowF_b _ _ _, _, rfl, q, L.c_Row, dy, _, _, rfl, hq, T.cf_Row.cl, T.nf_Row_breakers, rowF_b _ _ _, .tuple (ts.map triD), .tuple (us.map triD), .tup (SqT.of R.tp) R.br.dp, .tup (SqT.of R'.tp) R'.br.dp, shT _, shT _, _, rfl, ?_⟩
      have e0 : PyData.eqv (.tuple (ts.map triD)) (.tuple (us.map triD)) = decide (ts = us) := by rw [PyData.eqv]; exact triDs_eq ts us
      rw [e0]
      have fin : ∀ c : Bool, decide ((ts, st, ph) = (us, st', ph')) = c → Q (.bl c) H := fun c e => by rw [← e]; exact k
      refine ite2 (fun c1 => ?_) (fun c1 => ?_)
      · have c1' : ts = us := of_decide_eq_true c1
        refine ⟨_, rfl, p, L.c_Row, dx, _, _, rfl, hp, T.cf_Row.cl, T.nf_Row_step, rowF_s _ _ _, _, rfl, q, L.c_Row, dy, _, _, rfl, hq, T.cf_Row.cl, T.nf_Row_step, rowF_s _ _ _, rfl, _, rfl, ?_⟩
        refine ite2 (fun c2 => ?_) (fun c2 => ?_)
        · have c2' : st = st' := V.int.inj (of_decide_eq_true c2)
          refine ⟨_, rfl, p, L.c_Row, dx, _, _, rfl, hp, T.cf_Row.cl, T.nf_Row_phase, rowF_p _ _ _, _, rfl, q, L.c_Row, dy, _, _, rfl, hq, T.cf_Row.cl, T.nf_Row_phase, rowF_p _ _ _, rfl, fin _ ?_⟩
          subst c1' c2'
          rw [Bool.eq_iff_iff]
          simp
        · refine fin false (decide_eq_false fun e => c2 (decide_eq_true ?_))
          have e' : st = st' := congrArg (fun z : RDat => z.2.1) e
          rw [e']
      · refine fin false (decide_eq_false fun e => c1 (decide_eq_true ?_))
        exact congrArg (fun z : RDat => z.1) e
theorem ok_Roweq (T : LX K mg L) : Met P w K mg base L.c_Row "__eq__" 1 L.m_Row_eq ["self", "other"] (spEqR L.c_Row) := T.mm_Row_eq.met fun fd F => fn_Roweq T F
end
theorem EqOf.tyN {C : Addr} {H : Hp} {d : RDat} {v : V} {b : Bool} (h : EqOf C H d v b) : ∃ t, TyN H C v t := by
  cases h with
  | row R => obtain ⟨dx, h⟩ := R.ob; exact ⟨_, .ins h⟩
  | non => exact ⟨_, .non⟩
  | lst e => exact ⟨_, .lst e⟩
  | tup e => exact ⟨_, .tup e⟩
theorem ne_row {C : Addr} {H : Hp} {z W : Addr} {xs : List V} {ts : List Tri} {st ph : Int} {v : V} {b : Bool} {Q : VK} (R : RowAt C H z W xs ts st ph) (h : EqOf C H (ts, st, ph) v b) (k : Q (.bl (!b)) H) : rOwnEq C (spEqR C) E0 Bool.not (.ref z) v H Q := by
  obtain ⟨dx, hz⟩ := R.ob
  obtain ⟨t, ty⟩ := h.tyN
  exact ⟨z, dx, _, t, rfl, hz, ty, z, W, xs, ts, st, ph, v, b, rfl, R, h, b, rfl, k⟩
theorem eq_row {C : Addr} {H : Hp} {z W : Addr} {xs : List V} {ts : List Tri} {st ph : Int} {v : V} {b : Bool} {Q : VK} (R : RowAt C H z W xs ts st ph) (h : EqOf C H (ts, st, ph) v b) (k : Q (.bl b) H) : rOwnEq C (spEqR C) E0 _root_.id (.ref z) v H Q := by
  obtain ⟨dx, hz⟩ := R.ob
  obtain ⟨t, ty⟩ := h.tyN
  exact ⟨z, dx, _, t, rfl, hz, ty, z, W, xs, ts, st, ph, v, b, rfl, R, h, b, rfl, k⟩
/-! ### the law's own draws -/
/-- a source of draws at a: at most n were drawn -/
def Src (H : Hp) (a : Addr) (n : Nat) : Prop := ∃ x y z : Int, H a = some (.lst [.int x, .int y, .int z]) ∧ 0 ≤ x ∧ 0 ≤ y ∧ y < 2147483647 ∧ 0 ≤ z ∧ z ≤ n
theorem Src.mono {H : Hp} {a : Addr} {n m : Nat} (h : Src H a n) (l : n ≤ m) : Src H a m := by
  obtain ⟨x, y, z, e, h1, h2, h3, h4, h5⟩ := h
  exact ⟨x, y, z, e, h1, h2, h3, h4, by omega⟩
theorem Src.same {H H' : Hp} {a : Addr} {n : Nat} (h : Src H a n) (s : Same H H') : Src H' a n := by
  obtain ⟨x, y, z, e, r⟩ := h
  exact ⟨x, y, z, s _ _ e, r⟩
theorem Src.has {H : Hp} {a : Addr} {n : Nat} (h : Src H a n) : ∃ xs, H a = some (.lst xs) := by
  obtain ⟨x, y, z, e, r⟩ := h
  exact ⟨_, e⟩
def spSrcOf : Sp := fun vs H Q _ => ∃ c, vs = [.int c] ∧ ∀ a H', H a = none → Same H H' → Src H' a 0 → Q (.ref a) H'
def spNext : Sp := fun vs H Q _ => ∃ (a : Addr) (m : Int) (n : Nat), vs = [.ref a, .int m] ∧ 0 < m ∧ m.natAbs < 2 ^ 1100 ∧ Src H a n ∧ n ≤ 900000 ∧ ∀ (r : Int) H', 0 ≤ r → r < m → Src H' a (n + 1101) → Kp a H H' → Q (.int r) H'
def spOne : Sp := fun vs H Q _ => ∃ (a l : Addr) (xs : List V) (n : Nat), vs = [.ref a, .ref l] ∧ a ≠ l ∧ H l = some (.lst xs) ∧ 0 < xs.length ∧ xs.length ≤ 100000 ∧ Src H a n ∧ n ≤ 900000 ∧ ∀ v H', v ∈ xs → Src H' a (n + 1101) → Kp a H H' → Q v H'
def spCell (K : PySem.W.Frag) : Sp := fun vs H Q _ => ∃ (a : Addr) (ns : List Int) (k : Int), vs = [.ref a, .int k] ∧ SqL K H a (ns.map V.int) ∧ 0 ≤ k ∧ ∀ z, Q (.int z) H
def primes : List V := [.int 2147483647, .int 2147483629, .int 2147483587, .int 2147483579, .int 2147483563, .int 2147483549, .int 2147483543]
theorem prime_at (i : Int) (h0 : 0 ≤ i) (h7 : i < 7) : ∃ p : Int, atI primes i = some (.int p) ∧ 0 < p ∧ p ≤ 2147483647 := by
  have : i = 0 ∨ i = 1 ∨ i = 2 ∨ i = 3 ∨ i = 4 ∨ i = 5 ∨ i = 6 := by omega
  rcases this with rfl | rfl | rfl | rfl | rfl | rfl | rfl <;> exact ⟨_, rfl, by decide, by decide⟩
theorem atI_of {α : Type} {xs : List α} {i : Int} (h0 : 0 ≤ i) (h1 : i < xs.length) : ∃ v, atI xs i = some v ∧ v ∈ xs := by
  have hj : i.toNat < xs.length := by omega
  refine ⟨xs[i.toNat], ?_, List.getElem_mem _⟩
  have e : ((i.toNat : Nat) : Int) = i := by omega
  have := atI_nat (xs := xs) (j := i.toNat) (v := xs[i.toNat]) (List.getElem?_eq_getElem hj)
  rwa [e] at this
section
variable {P : Program} {w : World} {K : PySem.W.Frag} {mg : Str → Option Value} {base : Heap} {L : LA}
theorem sc_srcof : FnScope ["_law_cell"] ["_law_cell"] (defScope st__law_source_of) := ⟨rfl, rfl, rfl, by decide +kernel, rfl, by decide +kernel, by decide +kernel⟩
theorem ok_wsourceof (T : LX K mg L) : Cal P w K mg base "_law_source_of" 1 L.f__law_source_of ["_law_cell"] spSrcOf := T.d__law_source_of.cal fun fd F => by
  refine F.ok sc_srcof (fun vs H Q E h => ?_) (fun cdv A outer s H vs Q E hr h => ?_)
  · obtain ⟨c, rfl, _⟩ := h
    rfl
  · obtain ⟨c, rfl, k⟩ := h
    refine ⟨_, pss_one (ps_ret (pe_lst (pa_cons (pe_op op_mul (pv 0) (pe_callTy call_int1 (by rfl) T.b_int (by decide +kernel) (pa_cons (pe_cmpR op_ge (pv 0) (pe_op op_pow pe_int pe_int) (nomark _)) pa_nil)))
      (pa_cons (pe_op op_mod (pe_callTy call_int1 (by rfl) T.b_int (by decide +kernel) (pa_cons (pv 0) pa_nil)) pe_int) (pa_cons pe_int pa_nil))))), ?_⟩
    refine ⟨_, rfl, _, rfl, _, _, rfl, rfl, ⟨by decide, by decide, by decide⟩, _, _, rfl, rfl, .inr ⟨_, rfl, _, _, rfl, rfl, ?_, ?_⟩⟩
    · refine .inr ?_
      split <;> decide
    · refine ⟨_, rfl, .inl ⟨_, rfl, _, _, rfl, rfl, (by show (0 : Int) < 2147483647; decide), ?_⟩⟩
      refine ⟨(by show 3 ≤ sizeLine; decide), fun l hl => ?_⟩
      refine k l _ hl (Same.upd hl) ⟨_, _, _, upd_same, ?_, Int.emod_nonneg _ (by decide), Int.emod_lt_of_pos _ (by decide), Int.le_refl _, Int.le_refl _⟩
      by_cases hc : (10 : Int) ^ (18 : Int).toNat ≤ c
      · rw [decide_eq_true hc, if_pos rfl, Int.mul_one]
        exact Int.le_trans (by decide) hc
      · rw [decide_eq_false hc, if_neg Bool.false_ne_true, Int.mul_zero]
        exact Int.le_refl _
abbrev N_wnext : List Str := ["_law_source", "_law_many", "_law_found", "_law_prime", "_law_figure"]
theorem sc_wnext : FnScope N_wnext ["_law_source", "_law_many"] (defScope st__law_next) := ⟨rfl, rfl, rfl, by decide +kernel, rfl, by decide +kernel, by decide +kernel⟩
theorem fn_wnext (T : LX K mg L) {fd : FuncData} (F : Fun K "_law_next" "_law_next" st__law_next L.f__law_next fd) : FnOk P w K mg base CX0 1 L.f__law_next fd ["_law_source", "_law_many"] (spNext) := by
  have nd := sc_wnext.nd
  refine F.ok sc_wnext (fun vs H Q E h => ?_) (fun cdv A outer S H vs Q E hr h => ?_)
  · obtain ⟨a, m, n, rfl, _⟩ := h
    rfl
  · obtain ⟨a, m, n, rfl, m0, m1, ⟨x, y, z, ha, x0, y0, y1, z0, z1⟩, hn, k⟩ := h
    refine ⟨_, (pss_cons (ps_if (pt_cmpR op_gt (pe_ix (r := rIxL K) ix_list (pv 0) pe_int (fun _ _ => rfl)) pe_int (nomark _)) (pss_cons (ps_set (i := 2) nd rfl (Or.inl rfl) (pe_op op_mod (pe_callTy call_int1 (by rfl) T.b_int (by decide +kernel) (pa_cons (pe_ix (r := rIxL K) ix_list (pv 0) pe_int (fun _ _ => rfl)) pa_nil)) (pv 1)))
       (pss_cons (ps_asg (pe_op op_fdivW (pe_ix (r := rIxL K) ix_list (pv 0) pe_int (fun _ _ => rfl)) (pv 1)) (pg_sub (pv 0) pe_int set_list))
       (pss_one (ps_ret (pv 2))))) pss_nil)
       (pss_cons (ps_asg (pe_op op_add (pe_ix (r := rIxL K) ix_list (pv 0) pe_int (fun _ _ => rfl)) pe_int) (pg_sub (pv 0) pe_int set_list))
       (pss_cons (ps_set (i := 3) nd rfl (Or.inl rfl) (pe_ix (r := rIxL K) ix_list (pe_lst (pa_cons pe_int (pa_cons pe_int (pa_cons pe_int (pa_cons pe_int (pa_cons pe_int (pa_cons pe_int (pa_cons pe_int pa_nil)))))))) (pe_op op_mod (pe_callTy call_int1 (by rfl) T.b_int (by decide +kernel) (pa_cons (pe_ix (r := rIxL K) ix_list (pv 0) pe_int (fun _ _ => rfl)) pa_nil)) pe_int) (fun _ _ => rfl)))
       (pss_cons (ps_set (i := 4) nd rfl (Or.inl rfl) (pe_op op_mod (pe_callTy call_int1 (by rfl) T.b_int (by decide +kernel) (pa_cons (pe_op op_pow (pe_op op_add (pe_op op_add (pe_ix (r := rIxL K) ix_list (pv 0) pe_int (fun _ _ => rfl)) (pe_op op_mulW pe_int (pe_ix (r := rIxL K) ix_list (pv 0) pe_int (fun _ _ => rfl)))) pe_int) pe_int) pa_nil)) (pv 3)))
       (pss_cons (ps_set (i := 4) nd rfl (Or.inl rfl) (pe_op op_mod (pe_callTy call_int1 (by rfl) T.b_int (by decide +kernel) (pa_cons (pe_op op_mulW (pe_op op_add (pv 4) (pe_ix (r := rIxL K) ix_list (pv 0) pe_int (fun _ _ => rfl))) (pe_op op_add (pe_op op_fdivW (pv 4) pe_int) pe_int)) pa_nil)) (pv 3)))
       (pss_one (ps_ret (pe_op op_mod (pe_callTy call_int1 (by rfl) T.b_int (by decide +kernel) (pa_cons (pe_op op_fdivW (pv 4) pe_int) pa_nil)) (pv 1))))))))), ?_⟩
    refine ⟨_, rfl, _, _, _, _, rfl, rfl, SqL.of ha, rfl, _, _, rfl, rfl, _, rfl, ?_⟩
    refine ite2 (fun c => ?_) (fun c => ?_)
    · refine ⟨_, rfl, _, _, _, _, rfl, rfl, SqL.of ha, rfl, .inl ⟨_, rfl, _, rfl, _, _, rfl, rfl, m0, ?_⟩⟩
      refine ⟨_, rfl, _, _, _, _, rfl, rfl, SqL.of ha, rfl, _, rfl, _, _, rfl, rfl, wide_div m0 m1 (by decide) (by decide), ?_⟩
      refine ⟨_, rfl, _, _, _, 0, rfl, rfl, ha, rfl, ?_⟩
      refine ⟨_, rfl, ?_⟩
      refine k _ _ (Int.emod_nonneg _ (by omega)) (Int.emod_lt_of_pos _ m0) ⟨_, _, _, upd_same, Int.ediv_nonneg x0 (by omega), y0, y1, z0, by omega⟩ Kp.upd
    · have zb1 : z ≤ 902000 := by omega
      refine ⟨_, rfl, _, _, _, _, rfl, rfl, SqL.of ha, rfl, _, _, rfl, rfl, ?_⟩
      refine ⟨_, rfl, _, _, _, 2, rfl, rfl, ha, rfl, ?_⟩
      have ha3 : ∀ b o, b ≠ a → (upd (upd H a (.lst [.int x, .int y, .int (z + 1)])) b o) a = some (.lst [.int x, .int y, .int (z + 1)]) := fun b o n => by rw [upd_ne n.symm, upd_same]
      refine ⟨(by show 7 ≤ sizeLine; decide), fun l hl => ?_⟩
      have hla : l ≠ a := fun e => by
        subst e
        have : (upd H l (.lst [.int x, .int y, .int (z + 1)])) l = none := hl
        rw [upd_same] at this
        cases this
      have hA := ha3 l (.lst primes) hla
      refine ⟨_, rfl, _, _, _, _, rfl, rfl, SqL.of hA, rfl, .inl ⟨_, rfl, _, _, rfl, rfl, (by show (0 : Int) < 7; decide), ?_⟩⟩
      obtain ⟨p, hp, p0, p1⟩ := prime_at ((z + 1) % 7) (Int.emod_nonneg _ (by decide)) (Int.emod_lt_of_pos _ (by decide))
      refine ⟨l, primes, _, _, rfl, rfl, SqL.of upd_same, hp, ?_⟩
      have wz : CMulW 7919 (z + 1) := wide_mul (a := 20) (b := 30) (by decide) (Nat.lt_of_le_of_lt (show (z + 1).natAbs ≤ 902001 by omega) (by decide)) (by decide) (by decide) (by decide)
      refine ⟨_, rfl, _, _, _, _, rfl, rfl, SqL.of hA, rfl, _, rfl, _, _, _, _, rfl, rfl, SqL.of hA, rfl, _, _, rfl, rfl, wz, _, _, rfl, rfl, _, _, rfl, rfl, _, _, rfl, rfl, ⟨by decide, by decide, ?_⟩, .inl ⟨_, rfl, _, rfl, _, _, rfl, rfl, p0, ?_⟩⟩
      · omega
      have f0 : 0 ≤ (y + 7919 * (z + 1) + 1) ^ (5 : Int).toNat % p := Int.emod_nonneg _ (by omega)
      have f1 : (y + 7919 * (z + 1) + 1) ^ (5 : Int).toNat % p < p := Int.emod_lt_of_pos _ p0
      have wf : CMulW ((y + 7919 * (z + 1) + 1) ^ (5 : Int).toNat % p + (z + 1)) ((y + 7919 * (z + 1) + 1) ^ (5 : Int).toNat % p / 1009 + 69621) := by
        generalize (y + 7919 * (z + 1) + 1) ^ (5 : Int).toNat % p = fg at f0 f1 ⊢
        have d0 : 0 ≤ fg / 1009 := Int.ediv_nonneg f0 (by decide)
        have d1 : fg / 1009 ≤ fg := Int.ediv_le_self _ f0
        exact wide_mul (a := 40) (b := 40) (Nat.lt_of_le_of_lt (show (fg + (z + 1)).natAbs ≤ 3000000000 by omega) (by decide)) (Nat.lt_of_le_of_lt (show (fg / 1009 + 69621).natAbs ≤ 3000000000 by omega) (by decide)) (by decide) (by decide) (by decide)
      refine ⟨_, rfl, _, rfl, _, _, _, _, rfl, rfl, SqL.of hA, rfl, _, _, rfl, rfl, _, rfl, _, _, rfl, rfl, wide_div (b := 20) (by decide) (by decide) (by decide) (by decide), _, _, rfl, rfl, _, _, rfl, rfl, wf, .inl ⟨_, rfl, _, rfl, _, _, rfl, rfl, p0, ?_⟩⟩
      refine ⟨_, rfl, _, _, rfl, rfl, wide_div (b := 20) (by decide) (by decide) (by decide) (by decide), .inl ⟨_, rfl, _, rfl, _, _, rfl, rfl, m0, ?_⟩⟩
      exact k _ _ (Int.emod_nonneg _ (by omega)) (Int.emod_lt_of_pos _ m0) ⟨_, _, _, hA, x0, y0, y1, by omega, by omega⟩ (Kp.upd.trans (Kp.of (Same.upd hl)))
theorem ok_wnext (T : LX K mg L) : Cal P w K mg base "_law_next" 1 L.f__law_next ["_law_source", "_law_many"] (spNext) := T.d__law_next.cal fun fd F => fn_wnext T F
abbrev N_wone : List Str := ["_law_source", "_law_options"]
theorem sc_wone : FnScope N_wone ["_law_source", "_law_options"] (defScope st__law_one) := ⟨rfl, rfl, rfl, by decide +kernel, rfl, by decide +kernel, by decide +kernel⟩
theorem fn_wone (T : LX K mg L) {fd : FuncData} (F : Fun K "_law_one" "_law_one" st__law_one L.f__law_one fd) : FnOk P w K mg base CX0 2 L.f__law_one fd ["_law_source", "_law_options"] (spOne) := by
  have G_wnext := ok_wnext (P := P) (w := w) (base := base) T
  have nd := sc_wone.nd
  refine F.ok sc_wone (fun vs H Q E h => ?_) (fun cdv A outer S H vs Q E hr h => ?_)
  · obtain ⟨a, l, xs, n, rfl, _⟩ := h
    rfl
  · obtain ⟨a, l, xs, n, rfl, hal, hl, x0, x1, hs, hn, k⟩ := h
    refine ⟨_, (pss_one (ps_ret (pe_ix (r := rIxL K) ix_list (pv 1) (pe_c G_wnext (hr.mono (by decide)) rfl (pa_cons (pv 0) (pa_cons (pe_callB call_len_seq (by rfl) T.b_len PySem.boot_len (pa_cons (pv 1) pa_nil)) pa_nil))) (fun _ _ => rfl)))), ?_⟩
    refine ⟨_, rfl, _, rfl, _, rfl, l, xs, rfl, .inl (SqL.of hl), a, _, n, rfl, by omega, ?_, hs, hn, fun r H' r0 r1 hs' hk => ?_⟩
    · exact Nat.lt_of_le_of_lt (show ((xs.length : Int)).natAbs ≤ 100000 by omega) (by decide)
    · obtain ⟨v, hv, hm⟩ := atI_of (xs := xs) r0 r1
      exact ⟨l, xs, r, v, rfl, rfl, SqL.of (hk _ _ hal.symm hl), hv, k v H' hm hs' hk⟩
theorem ok_wone (T : LX K mg L) : Cal P w K mg base "_law_one" 2 L.f__law_one ["_law_source", "_law_options"] (spOne) := T.d__law_one.cal fun fd F => fn_wone T F
abbrev N_wcellat : List Str := ["_law_script", "_law_k"]
theorem sc_wcellat : FnScope N_wcellat ["_law_script", "_law_k"] (defScope st__law_cell_at) := ⟨rfl, rfl, rfl, by decide +kernel, rfl, by decide +kernel, by decide +kernel⟩
theorem fn_wcellat (T : LX K mg L) {fd : FuncData} (F : Fun K "_law_cell_at" "_law_cell_at" st__law_cell_at L.f__law_cell_at fd) : FnOk P w K mg base CX0 1 L.f__law_cell_at fd ["_law_script", "_law_k"] (spCell K) := by
  have nd := sc_wcellat.nd
  refine F.ok sc_wcellat (fun vs H Q E h => ?_) (fun cdv A outer S H vs Q E hr h => ?_)
  · obtain ⟨a, ns, i, rfl, _⟩ := h
    rfl
  · obtain ⟨a, ns, i, rfl, hS, i0, k⟩ := h
    refine ⟨_, (pss_cons (ps_if (pt_cmpR op_lt (pv 1) (pe_callB call_len_seq (by rfl) T.b_len PySem.boot_len (pa_cons (pv 0) pa_nil)) (nomark _)) (pss_one (ps_ret (pe_ix (r := rIxL K) ix_list (pv 0) (pv 1) (fun _ _ => rfl)))) pss_nil)
       (pss_one (ps_ret pe_int))), ?_⟩
    refine ⟨_, rfl, _, rfl, a, _, rfl, .inl hS, _, _, rfl, rfl, _, rfl, ?_⟩
    refine ite2 (fun c => ?_) (fun c => ?_)
    · have c' : i < ((ns.map V.int).length : Nat) := of_decide_eq_true c
      obtain ⟨v, hv, hm⟩ := atI_of (xs := ns.map V.int) i0 c'
      obtain ⟨z, _, rfl⟩ := List.mem_map.mp hm
      exact ⟨_, rfl, _, rfl, a, _, _, _, rfl, rfl, hS, hv, k z⟩
    · exact k 0
theorem ok_wcellat (T : LX K mg L) : Cal P w K mg base "_law_cell_at" 1 L.f__law_cell_at ["_law_script", "_law_k"] (spCell K) := T.d__law_cell_at.cal fun fd F => fn_wcellat T F
end
theorem draw_gen {P : Program} {w : World} {mg : Str → Option Value} {t : TA} {σ : L2.St} {H : Hp} {Q : VK} {a : Addr} {n : Nat} {ns : List Int} {hi : Int} {j : Nat} (σ0 : σ[j]? = some (some (.ref a))) (hs : Src H a n) (hn : n ≤ 898000) (ht : ∀ R : List V → Hp → Prop, R (ns.map V.int) H → t σ H R)
    (h0 : 0 < ns.length) (h1 : ns.length ≤ 1000) (hb : ∀ m ∈ ns, 0 < m ∧ m ≤ hi) (hh : hi.natAbs < 2 ^ 1100) (k : ∀ (r : Int) H', 0 ≤ r → r < hi → (∃ m ∈ ns, r < m) → Src H' a (n + 2202) → Kp a H H' → Q (.int r) H') :
    tCall spNext [] E0 (tCons (tVar j) (tCons (tCall spOne [] E0 (tCons (tVar j) (tCons (tLst t) tNil))) tNil)) σ H Q := by
  obtain ⟨ys, hy⟩ := hs.has
  refine ⟨_, σ0, _, σ0, ht _ ⟨(by rw [List.length_map]; exact Nat.le_trans h1 (by decide)), fun l hl => ?_⟩⟩
  have hal : a ≠ l := ne_of_none hy hl
  refine ⟨a, l, ns.map V.int, n, rfl, hal, upd_same, (by rw [List.length_map]; exact h0), (by rw [List.length_map]; omega), hs.same (Same.upd hl), by omega, fun v H1 hv hs1 k1 => ?_⟩
  obtain ⟨m, hm, rfl⟩ := List.mem_map.mp hv
  obtain ⟨m0, m1⟩ := hb m hm
  refine ⟨a, m, n + 1101, rfl, m0, Nat.lt_of_le_of_lt (show m.natAbs ≤ hi.natAbs by omega) hh, hs1, by omega, fun r H2 r0 r1 hs2 k2 => ?_⟩
  exact k r H2 r0 (by omega) ⟨m, hm, r1⟩ hs2 ((Kp.of (Same.upd hl)).trans (k1.trans k2))
theorem choice_gen {P : Program} {w : World} {mg : Str → Option Value} {t : TA} {σ : L2.St} {H : Hp} {Q : VK} {a : Addr} {n : Nat} {ns : List Int} {j : Nat} (σ0 : σ[j]? = some (some (.ref a))) (hs : Src H a n) (hn : n ≤ 898000) (ht : ∀ R : List V → Hp → Prop, R (ns.map V.int) H → t σ H R)
    (h0 : 0 < ns.length) (h1 : ns.length ≤ 1000) (k : ∀ (m : Int) H', m ∈ ns → Src H' a (n + 1101) → Kp a H H' → Q (.int m) H') :
    tCall spOne [] E0 (tCons (tVar j) (tCons (tLst t) tNil)) σ H Q := by
  obtain ⟨ys, hy⟩ := hs.has
  refine ⟨_, σ0, ht _ ⟨(by rw [List.length_map]; exact Nat.le_trans h1 (by decide)), fun l hl => ?_⟩⟩
  have hal : a ≠ l := ne_of_none hy hl
  refine ⟨a, l, ns.map V.int, n, rfl, hal, upd_same, (by rw [List.length_map]; exact h0), (by rw [List.length_map]; omega), hs.same (Same.upd hl), by omega, fun v H1 hv hs1 k1 => ?_⟩
  obtain ⟨m, hm, rfl⟩ := List.mem_map.mp hv
  exact k m H1 hm hs1 ((Kp.of (Same.upd hl)).trans k1)

/-! ### sources kept -/
theorem src_kp {H H' : Hp} {s l : Addr} {n : Nat} (k : Kp l H H') (h : s ≠ l) (S : Src H s n) : Src H' s n := by
  obtain ⟨x, y, z, e, r⟩ := S
  exact ⟨x, y, z, k _ _ h e, r⟩
/-! ### min of a list of data -/
def rMinDat (K : PySem.W.Frag) : List V → Hp → VK → Prop := fun xs H Q => ∃ (p : Addr) (ys : List V) (d : PyData) (ds : List PyData), xs = [.ref p] ∧ SqL K H p ys ∧ DpAll K H ys (d :: ds) ∧ PySem.W.AlikeAll (d :: ds) ∧ PyData.depthAll (d :: ds) ≤ 10 ∧ ∀ (i : Nat) (y : V), ys[i]? = some y → (d :: ds)[i]? = some (PySem.W.minD d ds) → Q y H
theorem dpAll_get {K : PySem.W.Frag} {H : Hp} : ∀ {ys : List V} {ds : List PyData}, DpAll K H ys ds → ∀ {i : Nat} {y : V}, ys[i]? = some y → ∃ e, ds[i]? = some e ∧ Dp K H y e
  | _, _, .nil, i, y, h => by simp at h
  | _, _, .cons hd _, 0, y, h => by
    cases h
    exact ⟨_, rfl, hd⟩
  | _, _, .cons _ tl, i + 1, y, h => dpAll_get tl (by simpa using h)
theorem vals_get {ys : List V} {us : List Value} (r : Vals ys us) : ∀ {i : Nat} {u : Value}, us[i]? = some u → ∃ y, ys[i]? = some y ∧ RelV y u := by
  induction r with
  | nil =>
    intro i u h
    simp at h
  | cons hd _ ih =>
    intro i u h
    cases i with
    | zero =>
      cases h
      exact ⟨_, rfl, hd⟩
    | succ i => exact ih (by simpa using h)
theorem call_minD {X : Cx} (hu : X.A.units + 64 < cLine) (hc : X.calm = true := by rfl) : CallR X (.builtin "min") (rMinDat X.K) := by
  intro pins s σ H xs us Q I rxs h
  obtain ⟨p, ys, d, ds, rfl, hs, hd, al, dl, q⟩ := h
  obtain ⟨u, rfl, ru⟩ := rxs.one
  cases ru
  obtain ⟨its, rv, hl, hlen⟩ := I.list hs
  obtain ⟨as, r1⟩ := Dp.readsAll I (d :: ds) _ its hd rv
  refine PySem.W.min_list_data (I.ok.hd hc) hl.isList r1 al (by omega) fun i v h' tk bs hv r2 hk => ?_
  have hv' : its[i]? = some v := by simpa using hv
  obtain ⟨y, hy, ry⟩ := vals_get rv hv'
  obtain ⟨e, he, hde⟩ := dpAll_get hd hy
  obtain ⟨bs2, r3⟩ := Dp.reads I e y v hde ry
  have ee : PySem.W.minD d ds = e := (PyProof.Rows.reads_det (fun b o z _ => hk b o z) r3 r2).1
  have I2 : Inv X pins σ H { s with heap := h', toks := tk } := I.kept (t' := tk) hk
  exact ⟨y, H, I2, ry, q i y hy (by rw [ee]; exact he)⟩
/-! ### orders of breakers: what is true of them -/
def rupI (w p : Int) : Int := stepsUp w p * p
def perW (p : Int) (ws : List Int) : Int := ws.foldl (fun q w => rupI w q) p
theorem perW_app (p : Int) (xs ys : List Int) : perW p (xs ++ ys) = perW (perW p xs) ys := List.foldl_append ..
theorem perW_cons (p w : Int) (ys : List Int) : perW p (w :: ys) = perW (rupI w p) ys := rfl
theorem st_char {d L : Int} (h : 1 ≤ L) : 0 ≤ stepsUp d L ∧ d ≤ stepsUp d L * L ∧ ∀ j, 0 ≤ j → d ≤ j * L → stepsUp d L ≤ j := by
  have dm := Int.mul_ediv_add_emod (-d) L
  have a := Int.emod_nonneg (-d) (show L ≠ 0 by omega)
  have b := Int.emod_lt_of_pos (-d) (show 0 < L by omega)
  obtain ⟨q, hq⟩ : ∃ q, q = -(-d / L) := ⟨_, rfl⟩
  have mq : L * (-d / L) = -(q * L) := by rw [hq, Int.neg_mul, Int.neg_neg, Int.mul_comm]
  have e : stepsUp d L = if q > 0 then q else 0 := by rw [hq]; rfl
  rw [e]
  refine ⟨by split <;> omega, ?_, fun j j0 hj => ?_⟩
  · split
    · omega
    · have := Int.mul_nonneg (show 0 ≤ -q by omega) (show 0 ≤ L by omega)
      rw [Int.neg_mul] at this
      omega
  · split
    · by_cases c : q ≤ j
      · exact c
      · have := Int.mul_le_mul_of_nonneg_right (show j + 1 ≤ q by omega) (show 0 ≤ L by omega)
        rw [Int.add_mul, Int.one_mul] at this
        omega
    · exact j0
/-- rounded up: at least the wait, at least the unit, less than both together; the least multiple -/
theorem rup_is {w p : Int} (w1 : 1 ≤ w) (p1 : 1 ≤ p) : 1 ≤ stepsUp w p ∧ w ≤ rupI w p ∧ p ≤ rupI w p ∧ rupI w p < w + p ∧ ∀ j, 0 ≤ j → w ≤ j * p → rupI w p ≤ j * p := by
  obtain ⟨a, b, c⟩ := st_char (d := w) p1
  have k1 : 1 ≤ stepsUp w p := by
    by_cases z : 1 ≤ stepsUp w p
    · exact z
    · rw [show stepsUp w p = 0 by omega] at b
      omega
  have lo : (stepsUp w p - 1) * p < w := by
    by_cases z : (stepsUp w p - 1) * p < w
    · exact z
    · have := c (stepsUp w p - 1) (by omega) (by omega)
      omega
  have m := Int.mul_le_mul_of_nonneg_right k1 (show 0 ≤ p by omega)
  rw [Int.sub_mul, Int.one_mul] at lo
  rw [Int.one_mul] at m
  unfold rupI
  exact ⟨k1, b, m, by omega, fun j j0 hj => Int.mul_le_mul_of_nonneg_right (c j j0 hj) (by omega)⟩
/-- as the law rounds up -/
theorem rup_div {w p : Int} (w1 : 1 ≤ w) (p1 : 1 ≤ p) : (w + p - 1) / p * p = rupI w p := by
  obtain ⟨a, b, c, d, e⟩ := rup_is w1 p1
  have dm := Int.mul_ediv_add_emod (w + p - 1) p
  have r0 := Int.emod_nonneg (w + p - 1) (show p ≠ 0 by omega)
  have r1 := Int.emod_lt_of_pos (w + p - 1) (show 0 < p by omega)
  obtain ⟨q, hq⟩ : ∃ q, q = (w + p - 1) / p := ⟨_, rfl⟩
  rw [← hq] at dm ⊢
  rw [Int.mul_comm] at dm
  have q0 : 0 ≤ q := by rw [hq]; exact Int.ediv_nonneg (by omega) (by omega)
  have h1 := e q q0 (by omega)
  unfold rupI at *
  by_cases z : q ≤ stepsUp w p
  · have := Int.mul_le_mul_of_nonneg_right z (show 0 ≤ p by omega)
    omega
  · have := Int.mul_le_mul_of_nonneg_right (show stepsUp w p + 1 ≤ q by omega) (show 0 ≤ p by omega)
    rw [Int.add_mul, Int.one_mul] at this
    omega
theorem perW_1 : ∀ {ws : List Int} {p : Int}, 1 ≤ p → (∀ w ∈ ws, 1 ≤ w) → 1 ≤ perW p ws
  | [], _, h, _ => h
  | w :: r, p, h, ok => by
    have := rup_is (ok w (List.mem_cons_self ..)) h
    exact perW_1 (ws := r) (p := rupI w p) (by omega) fun u hu => ok u (List.mem_cons_of_mem _ hu)
theorem perW_bd {M B : Int} : ∀ {ws : List Int} {p : Int}, 1 ≤ p → p ≤ B → (∀ w ∈ ws, 1 ≤ w ∧ w ≤ M) → perW p ws ≤ B + M * ws.length
  | [], p, _, h, _ => by show p ≤ B + M * ((0 : Nat) : Int); omega
  | w :: r, p, h, hb, ok => by
    have okw := ok w (List.mem_cons_self ..)
    have := rup_is okw.1 h
    have i := perW_bd (M := M) (B := B + M) (ws := r) (p := rupI w p) (by omega) (by omega) fun u hu => ok u (List.mem_cons_of_mem _ hu)
    rw [List.length_cons]
    show perW (rupI w p) r ≤ B + M * ((r.length + 1 : Nat) : Int)
    rw [show ((r.length + 1 : Nat) : Int) = (r.length : Int) + 1 by omega, Int.mul_add, Int.mul_one]
    omega
/-- all orders of so many, of m -/
def ordG (m : Nat) : Nat → List (List Nat)
  | 0 => [[]]
  | j + 1 => (ordG m j).flatMap fun o => ((List.range m).filter fun a => decide (a ∉ o)).map fun a => o ++ [a]
theorem ord_mem {m : Nat} : ∀ {j : Nat} {o : List Nat}, o ∈ ordG m j → o.length = j ∧ o.Nodup ∧ ∀ a ∈ o, a < m
  | 0, o, h => by
    have : o = [] := by simpa [ordG] using h
    subst this
    exact ⟨rfl, List.Pairwise.nil, fun a h => nomatch h⟩
  | j + 1, o, h => by
    obtain ⟨o', h1, h2⟩ := List.mem_flatMap.mp h
    obtain ⟨a, h3, rfl⟩ := List.mem_map.mp h2
    obtain ⟨i1, i2, i3⟩ := ord_mem h1
    rw [List.mem_filter, List.mem_range] at h3
    have na : a ∉ o' := of_decide_eq_true h3.2
    refine ⟨by rw [List.length_append, i1]; rfl, List.nodup_append.mpr ⟨i2, List.pairwise_singleton _ _, fun u hu z hz => ?_⟩, fun u hu => ?_⟩
    · rw [List.mem_singleton.mp hz]
      exact fun e => na (e ▸ hu)
    · rcases List.mem_append.mp hu with hu | hu
      · exact i3 u hu
      · rw [List.mem_singleton.mp hu]
        exact h3.1
theorem flat_len {α β : Type} {f : α → List β} {k : Nat} : ∀ {xs : List α}, (∀ x ∈ xs, (f x).length ≤ k) → (xs.flatMap f).length ≤ xs.length * k
  | [], _ => by simp
  | x :: r, h => by
    rw [List.flatMap_cons, List.length_append, List.length_cons, Nat.succ_mul]
    have := h x (List.mem_cons_self ..)
    have := flat_len (xs := r) fun y hy => h y (List.mem_cons_of_mem _ hy)
    omega
theorem ord_step_len (m : Nat) (o : List Nat) : (((List.range m).filter fun a => decide (a ∉ o)).map fun a => o ++ [a]).length ≤ m := by
  rw [List.length_map]
  have := List.length_filter_le (fun a => decide (a ∉ o)) (List.range m)
  rwa [List.length_range] at this
theorem ord_len (m : Nat) : ∀ j : Nat, (ordG m j).length ≤ m ^ j
  | 0 => Nat.le_refl _
  | j + 1 => by
    have h1 : (ordG m (j + 1)).length ≤ (ordG m j).length * m := flat_len fun o _ => ord_step_len m o
    have h2 := Nat.mul_le_mul_right m (ord_len m j)
    rw [Nat.pow_succ]
    omega
theorem pow_six {m j : Nat} (h : m ≤ 6) (hj : j ≤ m) : m ^ j ≤ 50000 := by
  have h1 : m ^ j ≤ 6 ^ j := Nat.pow_le_pow_left h j
  have h2 : 6 ^ j ≤ 6 ^ 6 := Nat.pow_le_pow_right (by decide) (by omega)
  have h3 : (6 : Nat) ^ 6 = 46656 := by decide
  omega
/-- one that is not among so few -/
theorem pigeon {m : Nat} : ∀ {o : List Nat}, o.length < m → ∃ b, b < m ∧ b ∉ o := by
  induction m with
  | zero => intro o h; omega
  | succ m ih =>
    intro o h
    by_cases c : m ∈ o
    · have l1 : (o.filter fun a => decide (a ≠ m)).length < m := by
        have := List.length_filter_lt_length_iff_exists (l := o) (p := fun a => decide (a ≠ m)) |>.mpr ⟨m, c, by simp⟩
        omega
      obtain ⟨b, hb, nb⟩ := ih l1
      refine ⟨b, Nat.lt_succ_of_lt hb, fun z => nb ?_⟩
      rw [List.mem_filter]
      exact ⟨z, decide_eq_true (by omega)⟩
    · exact ⟨m, Nat.lt_succ_self m, c⟩
theorem ord_first {m a : Nat} (ha : a < m) : ∀ j : Nat, j < m → ∃ o, a :: o ∈ ordG m (j + 1)
  | 0, _ => ⟨[], by
      refine List.mem_flatMap.mpr ⟨[], List.mem_singleton.mpr rfl, List.mem_map.mpr ⟨a, ?_, rfl⟩⟩
      rw [List.mem_filter, List.mem_range]
      exact ⟨ha, by simp⟩⟩
  | j + 1, h => by
    obtain ⟨o, ho⟩ := ord_first ha j (by omega)
    obtain ⟨b, hb, nb⟩ := pigeon (m := m) (o := a :: o) (by have := (ord_mem ho).1; omega)
    refine ⟨o ++ [b], List.mem_flatMap.mpr ⟨a :: o, ho, List.mem_map.mpr ⟨b, ?_, rfl⟩⟩⟩
    rw [List.mem_filter, List.mem_range]
    exact ⟨hb, decide_eq_true nb⟩
theorem ord_ne {m : Nat} : ∃ o, o ∈ ordG m m := by
  cases m with
  | zero => exact ⟨[], List.mem_singleton.mpr rfl⟩
  | succ m =>
    obtain ⟨o, h⟩ := ord_first (m := m + 1) (a := 0) (by omega) m (by omega)
    exact ⟨_, h⟩
/-- all are in a full one -/
theorem full_has {m : Nat} {o : List Nat} (nd : o.Nodup) (l : o.length = m) (b : ∀ a ∈ o, a < m) {a : Nat} (ha : a < m) : a ∈ o := by
  by_cases c : a ∈ o
  · exact c
  · exfalso
    have key : ∀ (k : Nat) (o : List Nat), o.Nodup → (∀ x ∈ o, x < k) → o.length ≤ k := by
      intro k
      induction k with
      | zero =>
        intro o _ h
        cases o with
        | nil => exact Nat.le_refl _
        | cons x r => exact absurd (h x (List.mem_cons_self ..)) (Nat.not_lt_zero _)
      | succ k ih =>
        intro o nd h
        have h1 := ih (o.erase k) (nd.erase k) fun x hx => by
          have h2 := (List.Nodup.mem_erase_iff nd).mp hx
          have := h x h2.2
          have := h2.1
          omega
        rw [List.length_erase] at h1
        split at h1 <;> omega
    have h1 := key m ((a :: o)) (List.nodup_cons.mpr ⟨c, nd⟩) fun x hx => by
      rcases List.mem_cons.mp hx with rfl | hx
      · exact ha
      · exact b x hx
    rw [List.length_cons] at h1
    omega
/-- waits in an order -/
def wsAt (ws : List Int) (o : List Nat) : List Int := o.map fun a => ws.getD a 0
theorem wsAt_ok {ws : List Int} {M : Int} (h : ∀ w ∈ ws, 1 ≤ w ∧ w ≤ M) {o : List Nat} (ho : ∀ a ∈ o, a < ws.length) : ∀ w ∈ wsAt ws o, 1 ≤ w ∧ w ≤ M := fun w hw => by
  obtain ⟨a, ha, rfl⟩ := List.mem_map.mp hw
  have := ho a ha
  rw [List.getD_eq_getElem?_getD, List.getElem?_eq_getElem this]
  exact h _ (List.getElem_mem _)
theorem wsAt_app (ws : List Int) (o : List Nat) (a : Nat) : wsAt ws (o ++ [a]) = wsAt ws o ++ [ws.getD a 0] := by
  unfold wsAt
  rw [List.map_append]
  rfl
/-- a period is a multiple of the one it began with -/
theorem perW_mul : ∀ (ws : List Int) (p : Int), 1 ≤ p → (∀ w ∈ ws, 1 ≤ w) → ∃ k, 1 ≤ k ∧ perW p ws = k * p
  | [], p, _, _ => ⟨1, Int.le_refl _, by rw [Int.one_mul]; rfl⟩
  | w :: r, p, h, ok => by
    have q := rup_is (ok w (List.mem_cons_self ..)) h
    obtain ⟨k, k1, e⟩ := perW_mul r (rupI w p) (by omega) fun u hu => ok u (List.mem_cons_of_mem _ hu)
    refine ⟨k * stepsUp w p, ?_, ?_⟩
    · have := Int.mul_le_mul k1 q.1 (by omega) (by omega)
      omega
    · rw [perW_cons, e, Int.mul_assoc]
      rfl
theorem perW_ge : ∀ {ws : List Int} {p : Int}, 1 ≤ p → (∀ w ∈ ws, 1 ≤ w) → ∀ w ∈ ws, w ≤ perW p ws
  | x :: r, p, h, ok, w, hw => by
    have q := rup_is (ok x (List.mem_cons_self ..)) h
    obtain ⟨k, k1, e⟩ := perW_mul r (rupI x p) (by omega) fun u hu => ok u (List.mem_cons_of_mem _ hu)
    rcases List.mem_cons.mp hw with rfl | hw
    · rw [perW_cons, e]
      have := Int.mul_le_mul_of_nonneg_right k1 (show 0 ≤ rupI w p by omega)
      omega
    · show w ≤ perW (rupI x p) r
      exact perW_ge (p := rupI x p) (by omega) (fun u hu => ok u (List.mem_cons_of_mem _ hu)) w hw
theorem perW_same : ∀ {ws : List Int} {p : Int}, 1 ≤ p → (∀ w ∈ ws, 1 ≤ w ∧ w ≤ p) → perW p ws = p
  | [], _, _, _ => rfl
  | w :: r, p, h, ok => by
    obtain ⟨w1, w2⟩ := ok w (List.mem_cons_self ..)
    have q := rup_is w1 h
    have h1 := q.2.2.2.2 1 (by decide) (by omega)
    rw [perW_cons, show rupI w p = p by omega]
    exact perW_same h fun u hu => ok u (List.mem_cons_of_mem _ hu)
/-- an order's period, and the order -/
def wayG (st : Int) (ws : List Int) (o : List Nat) : Int × List Nat := (perW st (wsAt ws o), o)
def waysG (st : Int) (ws : List Int) (j : Nat) : List (Int × List Nat) := (ordG ws.length j).map (wayG st ws)
/-- the greatest wait, at least 1 -/
def mxW (ws : List Int) : Int := ws.foldl max 1
theorem fold_max : ∀ (ws : List Int) (a : Int), a ≤ ws.foldl max a ∧ (∀ w ∈ ws, w ≤ ws.foldl max a) ∧ (ws.foldl max a = a ∨ ws.foldl max a ∈ ws)
  | [], a => ⟨Int.le_refl _, fun w h => (nomatch h), .inl rfl⟩
  | x :: r, a => by
    obtain ⟨h1, h2, h3⟩ := fold_max r (max a x)
    refine ⟨by show a ≤ r.foldl max (max a x); omega, fun w hw => ?_, ?_⟩
    · show w ≤ r.foldl max (max a x)
      rcases List.mem_cons.mp hw with rfl | hw
      · omega
      · exact h2 w hw
    · show r.foldl max (max a x) = a ∨ r.foldl max (max a x) ∈ x :: r
      rcases h3 with h3 | h3
      · by_cases c : a ≤ x
        · exact .inr (List.mem_cons.mpr (.inl (by omega)))
        · exact .inl (by omega)
      · exact .inr (List.mem_cons_of_mem _ h3)
/-- the least of all -/
theorem least_is {st : Int} {ws : List Int} {M : Int} (s1 : 1 ≤ st) (ok : ∀ w ∈ ws, 1 ≤ w ∧ w ≤ M) : (∀ p ∈ waysG st ws ws.length, rupI (mxW ws) st ≤ p.1) ∧ ∃ p ∈ waysG st ws ws.length, p.1 = rupI (mxW ws) st := by
  obtain ⟨m1, m2, m3⟩ := fold_max ws 1
  have m1 : 1 ≤ mxW ws := m1
  have m2 : ∀ w ∈ ws, w ≤ mxW ws := m2
  have q := rup_is m1 s1
  constructor
  · intro p hp
    obtain ⟨o, ho, rfl⟩ := List.mem_map.mp hp
    obtain ⟨l, nd, b⟩ := ord_mem ho
    have okO := wsAt_ok ok (o := o) b
    obtain ⟨k, k1, e⟩ := perW_mul (wsAt ws o) st s1 fun w hw => (okO w hw).1
    show rupI (mxW ws) st ≤ perW st (wsAt ws o)
    rw [e]
    refine q.2.2.2.2 k (by omega) ?_
    rw [← e]
    rcases m3 with m3 | m3
    · have m3 : mxW ws = 1 := m3
      have := perW_1 s1 fun w hw => (okO w hw).1
      omega
    · have m3 : mxW ws ∈ ws := m3
      refine perW_ge s1 (fun w hw => (okO w hw).1) _ ?_
      obtain ⟨a, ha⟩ := List.mem_iff_getElem?.mp m3
      have al := (List.getElem?_eq_some_iff.mp ha).1
      refine List.mem_map.mpr ⟨a, full_has nd l b al, ?_⟩
      rw [List.getD_eq_getElem?_getD, ha]
      rfl
  · have fin : ∀ o ∈ ordG ws.length ws.length, perW st (wsAt ws o) = rupI (mxW ws) st → ∃ p ∈ waysG st ws ws.length, p.1 = rupI (mxW ws) st := fun o ho e => ⟨wayG st ws o, List.mem_map.mpr ⟨o, ho, rfl⟩, e⟩
    rcases m3 with m3 | m3
    · have m3 : mxW ws = 1 := m3
      obtain ⟨o, ho⟩ := ord_ne (m := ws.length)
      obtain ⟨l, nd, b⟩ := ord_mem ho
      have okO := wsAt_ok (M := 1) (fun w hw => ⟨(ok w hw).1, by have := m2 w hw; omega⟩) (o := o) b
      refine fin o ho ?_
      rw [perW_same s1 fun w hw => ⟨(okO w hw).1, by have := (okO w hw).2; omega⟩, m3]
      have h1 := (rup_is (Int.le_refl 1) s1).2.2.2.2 1 (by decide) (by omega)
      have h2 := (rup_is (Int.le_refl 1) s1).2.2.1
      omega
    · have m3 : mxW ws ∈ ws := m3
      obtain ⟨a, ha⟩ := List.mem_iff_getElem?.mp m3
      have al := (List.getElem?_eq_some_iff.mp ha).1
      obtain ⟨n, hn⟩ : ∃ n, ws.length = n + 1 := ⟨ws.length - 1, by omega⟩
      obtain ⟨o, ho⟩ := ord_first (m := ws.length) al n (by omega)
      rw [← hn] at ho
      obtain ⟨l, nd, b⟩ := ord_mem ho
      have okO := wsAt_ok (M := mxW ws) (fun w hw => ⟨(ok w hw).1, m2 w hw⟩) (o := o) fun x hx => b x (List.mem_cons_of_mem _ hx)
      refine fin _ ho ?_
      have e : wsAt ws (a :: o) = mxW ws :: wsAt ws o := by
        show ws.getD a 0 :: wsAt ws o = _
        rw [List.getD_eq_getElem?_getD, ha]
        rfl
      rw [e, perW_cons]
      exact perW_same (by omega) fun w hw => ⟨(okO w hw).1, by have := (okO w hw).2; omega⟩
/-! ### orders as data, and which one is the least -/
def onD (k : Nat) : PyData := .int (k : Int)
def ordD (o : List Nat) : PyData := .list (o.map onD)
def wayD (p : Int × List Nat) : PyData := .tuple [.int p.1, ordD p.2]
def lxN : List Nat → List Nat → Bool
  | a :: r, b :: s => decide (a < b) || (decide (a = b) && lxN r s)
  | _, _ => false
theorem lx_irr : ∀ o : List Nat, lxN o o = false
  | [] => rfl
  | a :: r => by
    show (decide (a < a) || (decide (a = a) && lxN r r)) = false
    rw [lx_irr r]
    simp
theorem lx_asym : ∀ o o' : List Nat, lxN o o' = true → lxN o' o = false
  | [], _, h => by cases h
  | _ :: _, [], h => by cases h
  | a :: r, b :: s, h => by
    have h : (decide (a < b) || (decide (a = b) && lxN r s)) = true := h
    show (decide (b < a) || (decide (b = a) && lxN s r)) = false
    rw [Bool.or_eq_true, decide_eq_true_iff, Bool.and_eq_true, decide_eq_true_iff] at h
    rcases h with h | ⟨h1, h2⟩
    · rw [decide_eq_false (by omega), decide_eq_false (by omega)]
      rfl
    · rw [lx_asym r s h2, decide_eq_false (by omega)]
      simp
theorem lx_app : ∀ {o o' : List Nat} (x y : List Nat), o.length = o'.length → lxN o o' = true → lxN (o ++ x) (o' ++ y) = true
  | [], [], _, _, _, h => by cases h
  | a :: r, b :: s, x, y, l, h => by
    have h : (decide (a < b) || (decide (a = b) && lxN r s)) = true := h
    show (decide (a < b) || (decide (a = b) && lxN (r ++ x) (s ++ y))) = true
    rw [Bool.or_eq_true, decide_eq_true_iff, Bool.and_eq_true, decide_eq_true_iff] at h ⊢
    rcases h with h | ⟨h1, h2⟩
    · exact .inl h
    · exact .inr ⟨h1, lx_app x y (Nat.succ.inj l) h2⟩
theorem lx_same : ∀ (o : List Nat) {a b : Nat}, a < b → lxN (o ++ [a]) (o ++ [b]) = true
  | [], a, b, h => by
    show (decide (a < b) || (decide (a = b) && lxN [] [])) = true
    rw [decide_eq_true h]
    rfl
  | c :: r, a, b, h => by
    show (decide (c < c) || (decide (c = c) && lxN (r ++ [a]) (r ++ [b]))) = true
    rw [lx_same r h]
    simp
/-- all orders come in their order -/
theorem ord_asc (m : Nat) : ∀ j : Nat, (ordG m j).Pairwise fun o o' => lxN o o' = true
  | 0 => List.pairwise_singleton _ _
  | j + 1 => by
    show ((ordG m j).flatMap fun o => ((List.range m).filter fun a => decide (a ∉ o)).map fun a => o ++ [a]).Pairwise _
    have h := ord_asc m j
    have hm : ∀ o ∈ ordG m j, o.length = j := fun o ho => (ord_mem ho).1
    generalize ordG m j = xs at h hm
    induction xs with
    | nil => exact List.Pairwise.nil
    | cons o r ih =>
      obtain ⟨h1, h2⟩ := List.pairwise_cons.mp h
      rw [List.flatMap_cons, List.pairwise_append]
      refine ⟨?_, ih h2 fun o ho => hm o (List.mem_cons_of_mem _ ho), fun x hx y hy => ?_⟩
      · rw [List.pairwise_map]
        exact (List.pairwise_lt_range.sublist List.filter_sublist).imp fun h => lx_same o h
      · obtain ⟨a, _, rfl⟩ := List.mem_map.mp hx
        obtain ⟨o', ho', hy⟩ := List.mem_flatMap.mp hy
        obtain ⟨b, _, rfl⟩ := List.mem_map.mp hy
        exact lx_app _ _ ((hm o (List.mem_cons_self ..)).trans (hm o' (List.mem_cons_of_mem _ ho')).symm) (h1 o' ho')
theorem toks0 : PySem.W.keyToksAll [] = [Sum.inl 0] := by simp only [PySem.W.keyToksAll]
theorem toksI (a : Int) (r : List PyData) : PySem.W.keyToksAll (.int a :: r) = Sum.inl 1 :: Sum.inl a :: PySem.W.keyToksAll r := by
  simp only [PySem.W.keyToksAll, PySem.W.keyToks]
  rfl
theorem toksL (o r : List PyData) : PySem.W.keyToksAll (.list o :: r) = Sum.inl 1 :: (PySem.W.keyToksAll o ++ PySem.W.keyToksAll r) := by
  simp only [PySem.W.keyToksAll, PySem.W.keyToks]
theorem toks_ord : ∀ o o' : List Nat, o.length = o'.length → PyProof.Rows.lexLt PyProof.Rows.itemOrd (PySem.W.keyToksAll (o.map onD)) (PySem.W.keyToksAll (o'.map onD)) = lxN o o'
  | [], [], _ => by
    show PyProof.Rows.lexLt PyProof.Rows.itemOrd (PySem.W.keyToksAll []) (PySem.W.keyToksAll []) = false
    rw [toks0, PyProof.Rows.lex_self (O := PyProof.Rows.itemOrd)]
    rfl
  | a :: r, b :: s, l => by
    have ih := toks_ord r s (Nat.succ.inj l)
    rw [List.map_cons, List.map_cons]
    unfold onD at ih ⊢
    rw [toksI, toksI, PyProof.Rows.lex_self (O := PyProof.Rows.itemOrd)]
    show PyProof.Rows.lexLt PyProof.Rows.itemOrd (Sum.inl (a : Int) :: PySem.W.keyToksAll (r.map fun (k : Nat) => PyData.int (k : Int))) (Sum.inl (b : Int) :: PySem.W.keyToksAll (s.map fun (k : Nat) => PyData.int (k : Int))) = (decide (a < b) || (decide (a = b) && lxN r s))
    by_cases c : a = b
    · subst c
      rw [PyProof.Rows.lex_self (O := PyProof.Rows.itemOrd), ih]
      simp
    · rw [PyProof.Rows.lex_diff (O := PyProof.Rows.itemOrd) (by intro z; injection z with z; omega)]
      show decide ((a : Int) < (b : Int)) = _
      rw [decide_eq_false c, Bool.false_and, Bool.or_false, decide_eq_decide]
      omega
  | [], _ :: _, l => by cases l
  | _ :: _, [], l => by cases l
theorem way_lt (p q : Int × List Nat) (l : p.2.length = q.2.length) : PySem.W.dataLt (wayD p) (wayD q) = (decide (p.1 < q.1) || (decide (p.1 = q.1) && lxN p.2 q.2)) := by
  obtain ⟨p, o⟩ := p
  obtain ⟨q, o'⟩ := q
  have l : o.length = o'.length := l
  unfold wayD ordD
  rw [PySem.W.dataLt_tuple, toksI, toksI, toksL, toksL, toks0, PyProof.Rows.lex_self (O := PyProof.Rows.itemOrd)]
  show PyProof.Rows.lexLt PyProof.Rows.itemOrd (Sum.inl p :: Sum.inl 1 :: (PySem.W.keyToksAll (o.map onD) ++ [Sum.inl 0])) (Sum.inl q :: Sum.inl 1 :: (PySem.W.keyToksAll (o'.map onD) ++ [Sum.inl 0])) = (decide (p < q) || (decide (p = q) && lxN o o'))
  by_cases c : p = q
  · subst c
    rw [PyProof.Rows.lex_self (O := PyProof.Rows.itemOrd), PyProof.Rows.lex_self (O := PyProof.Rows.itemOrd)]
    have key : ∀ o o' : List Nat, o.length = o'.length → PyProof.Rows.lexLt PyProof.Rows.itemOrd (PySem.W.keyToksAll (o.map onD) ++ [Sum.inl 0]) (PySem.W.keyToksAll (o'.map onD) ++ [Sum.inl 0]) = lxN o o' := by
      intro o
      induction o with
      | nil =>
        intro o' l
        cases o' with
        | nil =>
          show PyProof.Rows.lexLt PyProof.Rows.itemOrd (PySem.W.keyToksAll [] ++ [Sum.inl 0]) (PySem.W.keyToksAll [] ++ [Sum.inl 0]) = false
          rw [toks0]
          show PyProof.Rows.lexLt PyProof.Rows.itemOrd [Sum.inl 0, Sum.inl 0] [Sum.inl 0, Sum.inl 0] = false
          rw [PyProof.Rows.lex_self (O := PyProof.Rows.itemOrd), PyProof.Rows.lex_self (O := PyProof.Rows.itemOrd)]
          rfl
        | cons => cases l
      | cons a r ih =>
        intro o' l
        cases o' with
        | nil => cases l
        | cons b s =>
          have ih := ih s (Nat.succ.inj l)
          rw [List.map_cons, List.map_cons]
          unfold onD at ih ⊢
          rw [toksI, toksI]
          show PyProof.Rows.lexLt PyProof.Rows.itemOrd (Sum.inl 1 :: (Sum.inl (a : Int) :: (PySem.W.keyToksAll (r.map fun (k : Nat) => PyData.int (k : Int)) ++ [Sum.inl 0]))) (Sum.inl 1 :: (Sum.inl (b : Int) :: (PySem.W.keyToksAll (s.map fun (k : Nat) => PyData.int (k : Int)) ++ [Sum.inl 0]))) = (decide (a < b) || (decide (a = b) && lxN r s))
          rw [PyProof.Rows.lex_self (O := PyProof.Rows.itemOrd)]
          by_cases c : a = b
          · subst c
            rw [PyProof.Rows.lex_self (O := PyProof.Rows.itemOrd), ih]
            simp
          · rw [PyProof.Rows.lex_diff (O := PyProof.Rows.itemOrd) (by intro z; injection z with z; omega)]
            show decide ((a : Int) < (b : Int)) = _
            rw [decide_eq_false c, Bool.false_and, Bool.or_false, decide_eq_decide]
            omega
    rw [key o o' l, decide_eq_false (by omega), decide_eq_true rfl]
    rfl
  · rw [PyProof.Rows.lex_diff (O := PyProof.Rows.itemOrd) (by intro z; injection z with z; exact c z)]
    show decide (p < q) = _
    rw [decide_eq_false c, Bool.false_and, Bool.or_false]
/-- the least way -/
def minG (x : Int × List Nat) (xs : List (Int × List Nat)) : Int × List Nat := xs.foldl (fun a y => if decide (y.1 < a.1) || (decide (y.1 = a.1) && lxN y.2 a.2) then y else a) x
theorem minD_way {m : Nat} : ∀ {xs : List (Int × List Nat)} {x : Int × List Nat}, x.2.length = m → (∀ y ∈ xs, y.2.length = m) → PySem.W.minD (wayD x) (xs.map wayD) = wayD (minG x xs)
  | [], x, _, _ => rfl
  | y :: r, x, hx, h => by
    have hy := h y (List.mem_cons_self ..)
    have hr : ∀ z ∈ r, z.2.length = m := fun z hz => h z (List.mem_cons_of_mem _ hz)
    show (r.map wayD).foldl (fun a y => if PySem.W.dataLt y a then y else a) (if PySem.W.dataLt (wayD y) (wayD x) then wayD y else wayD x) = wayD (r.foldl (fun a y => if decide (y.1 < a.1) || (decide (y.1 = a.1) && lxN y.2 a.2) then y else a) (if decide (y.1 < x.1) || (decide (y.1 = x.1) && lxN y.2 x.2) then y else x))
    rw [way_lt y x (hy.trans hx.symm)]
    by_cases c : (decide (y.1 < x.1) || (decide (y.1 = x.1) && lxN y.2 x.2)) = true
    · rw [if_pos c, if_pos c]
      exact minD_way (xs := r) hy hr
    · rw [if_neg c, if_neg c]
      exact minD_way (xs := r) hx hr
theorem minG_is : ∀ (xs : List (Int × List Nat)) (x : Int × List Nat), minG x xs ∈ x :: xs ∧ ∀ y ∈ x :: xs, (minG x xs).1 ≤ y.1
  | [], x => ⟨List.mem_cons_self .., fun y hy => by rw [List.mem_singleton.mp hy]; exact Int.le_refl _⟩
  | z :: r, x => by
    show minG (if decide (z.1 < x.1) || (decide (z.1 = x.1) && lxN z.2 x.2) then z else x) r ∈ x :: z :: r ∧ ∀ y ∈ x :: z :: r, (minG (if decide (z.1 < x.1) || (decide (z.1 = x.1) && lxN z.2 x.2) then z else x) r).1 ≤ y.1
    by_cases c : (decide (z.1 < x.1) || (decide (z.1 = x.1) && lxN z.2 x.2)) = true
    · rw [if_pos c]
      obtain ⟨h1, h2⟩ := minG_is r z
      rw [Bool.or_eq_true, decide_eq_true_iff, Bool.and_eq_true, decide_eq_true_iff] at c
      refine ⟨List.mem_cons_of_mem _ h1, fun y hy => ?_⟩
      rcases List.mem_cons.mp hy with rfl | hy
      · have := h2 z (List.mem_cons_self ..)
        rcases c with c | c
        · omega
        · have := c.1
          omega
      · exact h2 y hy
    · rw [if_neg c]
      obtain ⟨h1, h2⟩ := minG_is r x
      rw [Bool.or_eq_true, decide_eq_true_iff, Bool.and_eq_true, decide_eq_true_iff] at c
      refine ⟨?_, fun y hy => ?_⟩
      · rcases List.mem_cons.mp h1 with h1 | h1
        · rw [h1]
          exact List.mem_cons_self ..
        · exact List.mem_cons_of_mem _ (List.mem_cons_of_mem _ h1)
      · rcases List.mem_cons.mp hy with rfl | hy
        · exact h2 y (List.mem_cons_self ..)
        · rcases List.mem_cons.mp hy with rfl | hy
          · have := h2 x (List.mem_cons_self ..)
            have : ¬ y.1 < x.1 := fun z => c (.inl z)
            omega
          · exact h2 y (List.mem_cons_of_mem _ hy)
/-- the first of ascending ones of one period -/
theorem minG_first {p : Int} : ∀ {xs : List (Int × List Nat)} {x : Int × List Nat}, (∀ y ∈ x :: xs, y.1 = p) → (x :: xs).Pairwise (fun a b => lxN a.2 b.2 = true) → minG x xs = x
  | [], _, _, _ => rfl
  | z :: r, x, h, pw => by
    obtain ⟨h1, h2⟩ := List.pairwise_cons.mp pw
    obtain ⟨h3, h4⟩ := List.pairwise_cons.mp h2
    show minG (if decide (z.1 < x.1) || (decide (z.1 = x.1) && lxN z.2 x.2) then z else x) r = x
    have e1 := h x (List.mem_cons_self ..)
    have e2 := h z (List.mem_cons_of_mem _ (List.mem_cons_self ..))
    rw [lx_asym _ _ (h1 z (List.mem_cons_self ..)), Bool.and_false, Bool.or_false, decide_eq_false (by omega), if_neg (by decide)]
    exact minG_first (fun y hy => by
      rcases List.mem_cons.mp hy with rfl | hy
      · exact e1
      · exact h y (List.mem_cons_of_mem _ (List.mem_cons_of_mem _ hy))) (List.pairwise_cons.mpr ⟨fun y hy => h1 y (List.mem_cons_of_mem _ hy), h4⟩)
/-- the program's walk for the greatest -/
def worG (x : Int × List Nat) (xs : List (Int × List Nat)) : Int × List Nat := xs.foldl (fun a y => if y.1 > a.1 then y else a) x
theorem worG_is : ∀ (xs : List (Int × List Nat)) (x : Int × List Nat), ∃ as bs, x :: xs = as ++ worG x xs :: bs ∧ (∀ y ∈ as, y.1 < (worG x xs).1) ∧ ∀ y ∈ bs, y.1 ≤ (worG x xs).1
  | [], x => ⟨[], [], rfl, fun y h => (nomatch h), fun y h => (nomatch h)⟩
  | z :: r, x => by
    show ∃ as bs, x :: z :: r = as ++ worG (if z.1 > x.1 then z else x) r :: bs ∧ (∀ y ∈ as, y.1 < (worG (if z.1 > x.1 then z else x) r).1) ∧ ∀ y ∈ bs, y.1 ≤ (worG (if z.1 > x.1 then z else x) r).1
    by_cases c : z.1 > x.1
    · rw [if_pos c]
      obtain ⟨as, bs, e, h1, h2⟩ := worG_is r z
      refine ⟨x :: as, bs, by rw [e]; rfl, fun y hy => ?_, h2⟩
      rcases List.mem_cons.mp hy with rfl | hy
      · cases as with
        | nil =>
          have e := (List.cons.inj e).1
          rw [← e]
          exact c
        | cons a as =>
          have e := (List.cons.inj e).1
          have := h1 a (List.mem_cons_self ..)
          rw [← e] at this
          omega
      · exact h1 y hy
    · rw [if_neg c]
      obtain ⟨as, bs, e, h1, h2⟩ := worG_is r x
      cases as with
      | nil =>
        have e1 := (List.cons.inj e).1
        have e2 := (List.cons.inj e).2
        refine ⟨[], z :: bs, ?_, fun y h => (nomatch h), fun y hy => ?_⟩
        · show x :: z :: r = worG x r :: z :: bs
          rw [← e1, e2]
        · rcases List.mem_cons.mp hy with rfl | hy
          · rw [← e1]
            omega
          · exact h2 y hy
      | cons a as =>
        have e1 := (List.cons.inj e).1
        have e2 := (List.cons.inj e).2
        refine ⟨a :: z :: as, bs, ?_, fun y hy => ?_, h2⟩
        · show x :: z :: r = a :: z :: (as ++ worG x r :: bs)
          have e2 : r = as ++ worG x r :: bs := e2
          rw [← e2, ← e1]
        · rcases List.mem_cons.mp hy with rfl | hy
          · exact h1 y (List.mem_cons_self ..)
          · rcases List.mem_cons.mp hy with rfl | hy
            · have := h1 a (List.mem_cons_self ..)
              rw [← e1] at this
              omega
            · exact h1 y (List.mem_cons_of_mem _ hy)
/-- the least among those with the greatest period is the program's -/
theorem worst_is {x : Int × List Nat} {xs : List (Int × List Nat)} {M : Int} (pw : (x :: xs).Pairwise fun a b => lxN a.2 b.2 = true) (hm : ∃ y ∈ x :: xs, y.1 = M) (hb : ∀ y ∈ x :: xs, y.1 ≤ M) : ∃ r, (x :: xs).filter (fun y => decide (y.1 = M)) = worG x xs :: r ∧ minG (worG x xs) r = worG x xs ∧ (worG x xs).1 = M := by
  obtain ⟨as, bs, e, h1, h2⟩ := worG_is xs x
  have eM : (worG x xs).1 = M := by
    obtain ⟨y, hy, ey⟩ := hm
    have l1 := hb (worG x xs) (by rw [e]; exact List.mem_append_right _ (List.mem_cons_self ..))
    rw [e] at hy
    rcases List.mem_append.mp hy with hy | hy
    · have := h1 y hy
      omega
    · rcases List.mem_cons.mp hy with hy | hy
      · rw [← hy, ey]
      · have := h2 y hy
        omega
  have f1 : as.filter (fun y => decide (y.1 = M)) = [] := List.filter_eq_nil_iff.mpr fun y hy => by
    have := h1 y hy
    simp
    omega
  refine ⟨bs.filter fun y => decide (y.1 = M), ?_, ?_, eM⟩
  · rw [e, List.filter_append, f1, List.nil_append, List.filter_cons, if_pos (decide_eq_true eM)]
  · refine minG_first (p := M) (fun y hy => ?_) ?_
    · rcases List.mem_cons.mp hy with rfl | hy
      · exact eM
      · exact of_decide_eq_true (List.mem_filter.mp hy).2
    · rw [e] at pw
      have pw2 := (List.pairwise_append.mp pw).2.1
      exact pw2.sublist (List.Sublist.cons₂ _ List.filter_sublist)
/-! ### orders of breakers in the program -/
def wtsT (ts : List Tri) : List Int := ts.map (·.2.1)
theorem wts_ok {ts : List Tri} (h : ∀ t ∈ ts, OkT t) : ∀ w ∈ wtsT ts, 1 ≤ w ∧ w ≤ 1000000000000000000000000000000 := fun w hw => by
  obtain ⟨t, ht, rfl⟩ := List.mem_map.mp hw
  have := h t ht
  exact ⟨this.2.2.1, this.2.2.2.1⟩
theorem su_le {w p : Int} (w1 : 1 ≤ w) (p1 : 1 ≤ p) : stepsUp w p ≤ w := by
  have := (st_char (d := w) p1).2.2 w (by omega)
  refine this ?_
  have := Int.mul_le_mul_of_nonneg_left p1 (show 0 ≤ w by omega)
  omega
def PdB : Int := 13000000000000000000000000000000
theorem pd_bb : PdB ≤ BB := Int.le_trans (PB_of (n := 108) (by decide +kernel)) (PB_le (by decide))
theorem pd_bd {st : Int} {ws : List Int} (s0 : 1 ≤ st) (s1 : st ≤ 1000000000000000000000000000000) (ok : ∀ w ∈ ws, 1 ≤ w ∧ w ≤ 1000000000000000000000000000000) (l : ws.length ≤ 12) : 1 ≤ perW st ws ∧ perW st ws ≤ PdB := by
  refine ⟨perW_1 s0 fun w hw => (ok w hw).1, ?_⟩
  have := perW_bd (B := 1000000000000000000000000000000) (M := 1000000000000000000000000000000) s0 s1 ok
  have e : PdB = 13000000000000000000000000000000 := rfl
  omega
/-- rounding up is asked with fair numbers -/
theorem rup_ask {w p : Int} (w1 : 1 ≤ w) (w2 : w ≤ PdB) (p1 : 1 ≤ p) (p2 : p ≤ PdB) : 0 < p ∧ p.natAbs.log2 < 9000 ∧ CMulW (stepsUp w p) p := by
  have b := pd_bb
  have a := (st_char (d := w) p1).1
  have c := su_le w1 p1
  exact ⟨by omega, divBB p1 (by omega), mulBB a (by omega) (by omega) (by omega)⟩
def onV (k : Nat) : V := .int (k : Int)
/-- a way: a period, and a new list -/
def WyN (H0 : Hp) (D : Addr) (H : Hp) (v : V) (p : Int × List Nat) : Prop := ∃ T l, v = .ref T ∧ H T = some (.tup [.int p.1, .ref l]) ∧ H l = some (.lst (p.2.map onV)) ∧ H0 l = none ∧ l ≠ D
theorem WyN.mv {H0 H H' : Hp} {D : Addr} {v : V} {p : Int × List Nat} (n : NL H H') (k : ∀ b o, b ≠ D → H b = some o → H' b = some o) : WyN H0 D H v p → WyN H0 D H' v p := fun ⟨T, l, e, h1, h2, h3, h4⟩ => ⟨T, l, e, n _ _ h1 (fun _ z => nomatch z), k _ _ h4 h2, h3, h4⟩
theorem ons_dp {K : PySem.W.Frag} {H : Hp} : ∀ p : List Nat, DpAll K H (p.map onV) (p.map onD)
  | [] => .nil
  | k :: r => .cons (.int _) (ons_dp r)
theorem WyN.dp {K : PySem.W.Frag} {H0 H : Hp} {D : Addr} {v : V} {p : Int × List Nat} (h : WyN H0 D H v p) : Dp K H v (wayD p) := by
  obtain ⟨T, l, rfl, h1, h2, _⟩ := h
  exact .tup (SqT.of h1) (.cons (.int _) (.cons (.lst (SqL.of h2) (ons_dp _)) .nil))
theorem wys_dp {K : PySem.W.Frag} {H0 H : Hp} {D : Addr} {xs : List V} {ps : List (Int × List Nat)} (h : Paired (WyN H0 D H) xs ps) : DpAll K H xs (ps.map wayD) := by
  induction h with
  | nil => exact .nil
  | cons h _ ih => exact .cons h.dp ih
/-- what a way goes on to -/
def extG (ws : List Int) (p : Int × List Nat) (q : Nat) : List (Int × List Nat) := ((List.range q).filter fun a => decide (a ∉ p.2)).map fun a => (rupI (ws.getD a 0) p.1, p.2 ++ [a])
theorem extG_succ (ws : List Int) (p : Int × List Nat) (q : Nat) : extG ws p (q + 1) = extG ws p q ++ if q ∈ p.2 then [] else [(rupI (ws.getD q 0) p.1, p.2 ++ [q])] := by
  unfold extG
  rw [List.range_succ, List.filter_append, List.map_append]
  congr 1
  by_cases c : q ∈ p.2
  · rw [if_pos c, List.filter_cons, if_neg (by simpa using c)]
    rfl
  · rw [if_neg c, List.filter_cons, if_pos (by simpa using c)]
    rfl
theorem waysG_succ (st : Int) (ws : List Int) (j : Nat) : waysG st ws (j + 1) = (waysG st ws j).flatMap fun p => extG ws p ws.length := by
  unfold waysG extG
  show List.map (wayG st ws) ((ordG ws.length j).flatMap _) = _
  rw [List.map_flatMap, List.flatMap_map]
  refine congrArg (fun g => List.flatMap g (ordG ws.length j)) (funext fun o => ?_)
  rw [List.map_map]
  refine List.map_congr_left fun a _ => ?_
  show (perW st (wsAt ws (o ++ [a])), o ++ [a]) = (rupI (ws.getD a 0) (perW st (wsAt ws o)), o ++ [a])
  rw [wsAt_app, perW_app]
  rfl
theorem flat_take {α β : Type} (f : α → List β) (xs : List α) (i : Nat) : ((xs.take i).flatMap f).length ≤ (xs.flatMap f).length := by
  have h : xs.flatMap f = (xs.take i).flatMap f ++ (xs.drop i).flatMap f := by rw [← List.flatMap_append, List.take_append_drop]
  rw [h, List.length_append]
  omega
theorem ways_len {st : Int} {ws : List Int} (h : ws.length ≤ 6) {j : Nat} (hj : j ≤ ws.length) : (waysG st ws j).length ≤ 50000 := by
  unfold waysG
  rw [List.length_map]
  exact Nat.le_trans (ord_len _ _) (pow_six h hj)
theorem ways_ok {st : Int} {ws : List Int} {j : Nat} {p : Int × List Nat} (h : p ∈ waysG st ws j) : p.1 = perW st (wsAt ws p.2) ∧ p.2 ∈ ordG ws.length j := by
  obtain ⟨o, ho, rfl⟩ := List.mem_map.mp h
  exact ⟨rfl, ho⟩
/-- a full ascending list -/
theorem asc_room : ∀ {ns : List Int} {lo hi : Int}, ns.Pairwise (· < ·) → (∀ x ∈ ns, lo ≤ x ∧ x < hi) → lo ≤ hi → lo + ns.length ≤ hi
  | [], lo, hi, _, _, h => by show lo + ((0 : Nat) : Int) ≤ hi; omega
  | d :: r, lo, hi, pw, db, _ => by
    obtain ⟨p1, p2⟩ := List.pairwise_cons.mp pw
    have h1 := db d (List.mem_cons_self ..)
    have ih := asc_room (lo := d + 1) (hi := hi) p2 (fun k hk => ⟨p1 k hk, (db k (List.mem_cons_of_mem _ hk)).2⟩) (by omega)
    rw [List.length_cons]
    omega
theorem asc_full : ∀ {ns : List Int} {a : Int}, ns.Pairwise (· < ·) → (∀ x ∈ ns, a ≤ x ∧ x < a + ns.length) → ns = (List.range ns.length).map fun (i : Nat) => a + (i : Int)
  | [], _, _, _ => rfl
  | d :: r, a, pw, db => by
    obtain ⟨p1, p2⟩ := List.pairwise_cons.mp pw
    have h1 := db d (List.mem_cons_self ..)
    rw [List.length_cons] at h1 db ⊢
    have h2 := asc_room (lo := d + 1) (hi := a + ((r.length + 1 : Nat) : Int)) p2 (fun k hk => ⟨p1 k hk, (db k (List.mem_cons_of_mem _ hk)).2⟩) (by omega)
    have e : d = a := by omega
    subst e
    have ih := asc_full (ns := r) (a := d + 1) p2 fun k hk => ⟨p1 k hk, by have := (db k (List.mem_cons_of_mem _ hk)).2; omega⟩
    rw [List.range_succ_eq_map, List.map_cons, List.map_map]
    congr 1
    · omega
    · rw [ih]
      rw [List.length_map, List.length_range]
      refine List.map_congr_left fun i _ => ?_
      show d + 1 + (i : Int) = d + ((i + 1 : Nat) : Int)
      omega
theorem sorted_full {o : List Nat} {m : Nat} {ns : List Int} (l : o.length = m) (nd : o.Nodup) (b : ∀ a ∈ o, a < m) (pm : ns.Perm (o.map fun (k : Nat) => (k : Int))) (pw : ns.Pairwise (· ≤ ·)) : ns = (List.range m).map fun (k : Nat) => (k : Int) := by
  have nl : ns.length = m := by rw [pm.length_eq, List.length_map, l]
  have nd2 : (o.map fun (k : Nat) => (k : Int)).Nodup := List.pairwise_map.mpr (nd.imp fun h e => h (by omega))
  have nd3 : ns.Nodup := pm.nodup_iff.mpr nd2
  have lt : ns.Pairwise (· < ·) := (List.Pairwise.and pw nd3).imp fun ⟨h1, h2⟩ => by omega
  have h := asc_full (ns := ns) (a := 0) lt fun x hx => by
    obtain ⟨k, hk, rfl⟩ := List.mem_map.mp (pm.mem_iff.mp hx)
    have := b k hk
    omega
  rw [nl] at h
  rw [h]
  refine List.map_congr_left fun i _ => ?_
  omega
def spPersW (C : Addr) : Sp := fun vs H Q _ => ∃ r B xs ts st ph, vs = [.ref r] ∧ RowAt C H r B xs ts st ph ∧ ∀ l H', H' l = some (.lst ((List.range (ts.length + 1)).map fun i => .int (perW st (wtsT (ts.take i))))) → Same H H' → H l = none → Q (.ref l) H'
def spRPerW (C : Addr) : Sp := fun vs H Q _ => ∃ r B xs ts st ph, vs = [.ref r] ∧ RowAt C H r B xs ts st ph ∧ ∀ H', Same H H' → Q (.int (perW st (wtsT ts))) H'
def spCkIx (C : Addr) : Sp := fun vs H Q _ => ∃ r B xs ts st ph, ∃ i : Nat, vs = [.ref r, .int (i : Int)] ∧ RowAt C H r B xs ts st ph ∧ i < ts.length ∧ Q .non H
def spRowOf (C : Addr) : Sp := fun vs H Q _ => ∃ r B xs ts st ph l ys us, vs = [.ref r, .ref l] ∧ RowAt C H r B xs ts st ph ∧ H l = some (.lst ys) ∧ Brs H ys us ∧ (∀ u ∈ us, OkT u) ∧ us.length ≤ 12 ∧ ∀ p W H', RowAt C H' p W ys us st ph → Same H H' → H p = none → Q (.ref p) H'
def spIsOrd : Sp := fun vs H Q _ => ∃ (l : Addr) (o : List Nat) (m : Nat), vs = [.ref l, .int (m : Int)] ∧ H l = some (.lst (o.map onV)) ∧ o.length = m ∧ o.Nodup ∧ (∀ a ∈ o, a < m) ∧ m ≤ 12 ∧ ∀ H', Same H H' → Q (.bl true) H'
def atT (ts : List Tri) (o : List Nat) : List Tri := o.map fun a => ts.getD a (1, 1, 1)
def spReord (C : Addr) : Sp := fun vs H Q _ => ∃ r B xs ts st ph l o, vs = [.ref r, .ref l] ∧ RowAt C H r B xs ts st ph ∧ H l = some (.lst (o.map onV)) ∧ o.length = ts.length ∧ o.Nodup ∧ (∀ a ∈ o, a < ts.length) ∧ ∀ p W ys H', RowAt C H' p W ys (atT ts o) st ph → Same H H' → H p = none → Q (.ref p) H'
def spAllO (C : Addr) : Sp := fun vs H Q _ => ∃ r B xs ts st ph, vs = [.ref r] ∧ RowAt C H r B xs ts st ph ∧ ts.length ≤ 6 ∧ ∀ l ws H', H' l = some (.lst ws) → (∃ D, H D = none ∧ Paired (WyN H D H') ws (waysG st (wtsT ts) ts.length)) → Same H H' → H l = none → Q (.ref l) H'
def spBestO (C : Addr) : Sp := fun vs H Q _ => ∃ r B xs ts st ph, vs = [.ref r] ∧ RowAt C H r B xs ts st ph ∧ ts.length ≤ 6 ∧ ∀ v x xs' H', waysG st (wtsT ts) ts.length = x :: xs' → (∃ D, WyN H D H' v (minG x xs')) → Same H H' → Q v H'
def spWorstO (C : Addr) : Sp := fun vs H Q _ => ∃ r B xs ts st ph, vs = [.ref r] ∧ RowAt C H r B xs ts st ph ∧ ts.length ≤ 6 ∧ ∀ v x xs' H', waysG st (wtsT ts) ts.length = x :: xs' → (∃ D, WyN H D H' v (worG x xs')) → Same H H' → Q v H'
def spWithout (C : Addr) : Sp := fun vs H Q _ => ∃ r B xs ts st ph, ∃ i : Nat, vs = [.ref r, .int (i : Int)] ∧ RowAt C H r B xs ts st ph ∧ i < ts.length ∧ ∀ p W ys H', RowAt C H' p W ys (ts.take i ++ ts.drop (i + 1)) st ph → Same H H' → H p = none → Q (.ref p) H'
def spWithW (C : Addr) : Sp := fun vs H Q _ => ∃ r B xs ts st ph, ∃ (i : Nat) (w : Int) (t : Tri), vs = [.ref r, .int (i : Int), .int w] ∧ RowAt C H r B xs ts st ph ∧ ts[i]? = some t ∧ 1 ≤ w ∧ w ≤ 1000000000000000000000000000000 ∧ ∀ p W ys H', RowAt C H' p W ys (ts.set i (t.1, w, t.2.2)) st ph → Same H H' → H p = none → Q (.ref p) H'
def spRemP (C : Addr) : Sp := fun vs H Q _ => ∃ r B xs ts st ph, vs = [.ref r] ∧ RowAt C H r B xs ts st ph ∧ ∀ l H', H' l = some (.lst ((List.range ts.length).map fun i => .int (perW st (wtsT (ts.take i ++ ts.drop (i + 1)))))) → Same H H' → H l = none → Q (.ref l) H'
def spLeastP (C : Addr) : Sp := fun vs H Q _ => ∃ r B xs ts st ph, vs = [.ref r] ∧ RowAt C H r B xs ts st ph ∧ ∀ H', Same H H' → Q (.int (rupI (mxW (wtsT ts)) st)) H'
section
variable {P : Program} {w : World} {K : PySem.W.Frag} {mg : Str → Option Value} {base : Heap} {L : LA}
abbrev N_periods : List Str := ["row", "found", "breaker"]
theorem sc_periods : FnScope N_periods ["row"] (defScope st_periods) := ⟨rfl, rfl, rfl, by decide +kernel, rfl, by decide +kernel, by decide +kernel⟩
theorem fn_periods (T : LX K mg L) {fd : FuncData} (F : Fun K "periods" "periods" st_periods L.f_periods fd) : FnOk P w K mg base CX0 3 L.f_periods fd ["row"] (spPersW L.c_Row) := by
  have G_roundedup := ok_roundedup (P := P) (w := w) (base := base) T
  have nd := sc_periods.nd
  refine F.ok sc_periods (fun vs H Q E h => ?_) (fun cdv A outer S H vs Q E hr h => ?_)
  · obtain ⟨r, B, xs, ts, st, ph, rfl, _⟩ := h
    rfl
  · obtain ⟨r, B, xs, ts, st, ph, rfl, R, k⟩ := h
    refine ⟨_, (pss_cons (ps_set (i := 1) nd rfl (Or.inl rfl) (pe_lst (pa_cons (pe_fld (pv 0) rfl) pa_nil)))
       (pss_cons (ps_for PassesOwn.never rfl (pi_tup (pe_fld (pv 0) rfl)) (pg_name (i := 2) nd rfl (Or.inl rfl)) (pss_one (ps_expr (pe_bm PySem.F.plainAttrs_list PySem.F.slot_list_append PySem.F.type_list_append mt_append (pv 1) (pa_cons (pe_c G_roundedup (hr.mono (by decide)) rfl (pa_cons (pe_ix (r := rIxT K) ix_tup (pv 2) pe_int (fun _ _ => rfl)) (pa_cons (pe_ix (r := rIxL K) ix_list (pv 1) (pe_un un_neg pe_int) (fun _ _ => rfl)) pa_nil))) pa_nil)))))
       (pss_one (ps_ret (pv 1))))), ?_⟩
    obtain ⟨dr, hr'⟩ := R.ob
    have xl := R.br.len
    have ln := R.ln
    refine ⟨_, rfl, r, L.c_Row, dr, _, _, rfl, hr', T.cf_Row.cl, T.nf_Row_step, rowF_s _ _ _, (by show 1 ≤ sizeLine; decide), fun l hl => ?_⟩
    have s1 := Same.upd (o := .lst [.int st]) hl
    refine ⟨_, rfl, r, L.c_Row, dr, _, _, rfl, s1 _ _ hr', T.cf_Row.cl, T.nf_Row_breakers, rowF_b _ _ _, B, rfl, ⟨_, SqT.of (s1 _ _ R.tp)⟩, ?_⟩
    refine for_tup (K := K) (a := B) (xs := xs) (fun i σ H2 => ∃ (v2 : Option V), σ = [some (.ref r), some (.ref l), v2] ∧ H2 l = some (.lst ((List.range (i + 1)).map fun i => .int (perW st (wtsT (ts.take i))))) ∧ Same H H2) ⟨none, rfl, upd_same, s1⟩ (fun i σ H2 _ ⟨_, _, _, s⟩ => SqT.of (s _ _ R.tp)) ?_ ?_
    · rintro i x σ H2 hxi ⟨v2, rfl, hc, s2⟩
      obtain ⟨t, ht, q, rfl, hq⟩ := paired_get R.br hxi
      have hq2 := s2 _ _ hq
      have okt := R.ok t (List.mem_of_getElem? ht)
      have hi := (List.getElem?_eq_some_iff.mp ht).1
      have etk : ts.take (i + 1) = ts.take i ++ [t] := by rw [List.take_add_one, ht]; rfl
      obtain ⟨p1, p2⟩ := pd_bd R.s0 R.s1 (ws := wtsT (ts.take i)) (wts_ok fun u hu => R.ok u (List.mem_of_mem_take hu)) (by unfold wtsT; rw [List.length_map, List.length_take]; omega)
      have eP : perW st (wtsT (ts.take (i + 1))) = rupI t.2.1 (perW st (wtsT (ts.take i))) := by
        rw [etk]
        unfold wtsT
        rw [List.map_append, perW_app]
        rfl
      have o1 := okt.2.2.1
      have o2 := okt.2.2.2.1
      have eB : PdB = 13000000000000000000000000000000 := rfl
      obtain ⟨a1, a2, a3⟩ := rup_ask o1 (by omega) p1 p2
      have eL : ((List.range (i + 1)).map fun i => V.int (perW st (wtsT (ts.take i)))) = ((List.range i).map fun i => V.int (perW st (wtsT (ts.take i)))) ++ [.int (perW st (wtsT (ts.take i)))] := by
        rw [List.range_succ, List.map_append]
        rfl
      have at1 : atI ((List.range (i + 1)).map fun i => V.int (perW st (wtsT (ts.take i)))) (-1) = some (.int (perW st (wtsT (ts.take i)))) := by
        rw [eL]
        exact atI_last _ _
      refine ⟨_, rfl, .inl ⟨rfl, _, SqL.of hc⟩, _, rfl, q, _, 1, .int t.2.1, rfl, rfl, SqT.of hq2, rfl, _, rfl, 1, rfl, l, _, -1, .int (perW st (wtsT (ts.take i))), rfl, rfl, SqL.of hc, at1, t.2.1, perW st (wtsT (ts.take i)), rfl, a1, a2, a3, l, _, _, rfl, rfl, hc, small1 (by rw [List.length_map, List.length_range]; omega), ?_⟩
      refine ⟨_, rfl, ?_, fun c o e => by rw [upd_ne (ne_of_none e hl)]; exact s2 _ _ e⟩
      rw [upd_same, List.range_succ (n := i + 1), List.map_append]
      show some (HO.lst (_ ++ [V.int (stepsUp t.2.1 (perW st (wtsT (ts.take i))) * perW st (wtsT (ts.take i)))])) = some (HO.lst (_ ++ [V.int (perW st (wtsT (ts.take (i + 1))))]))
      rw [eP]
      rfl
    · rintro σ H2 ⟨v2, rfl, hc, s2⟩
      rw [xl] at hc
      exact ⟨_, rfl, k l H2 hc s2 hl⟩
theorem ok_periods (T : LX K mg L) : Cal P w K mg base "periods" 3 L.f_periods ["row"] (spPersW L.c_Row) := T.d_periods.cal fun fd F => fn_periods T F
abbrev N_rowperiod : List Str := ["row"]
theorem sc_rowperiod : FnScope N_rowperiod ["row"] (defScope st_row_period) := ⟨rfl, rfl, rfl, by decide +kernel, rfl, by decide +kernel, by decide +kernel⟩
theorem fn_rowperiod (T : LX K mg L) {fd : FuncData} (F : Fun K "row_period" "row_period" st_row_period L.f_row_period fd) : FnOk P w K mg base CX0 4 L.f_row_period fd ["row"] (spRPerW L.c_Row) := by
  have G_periods := ok_periods (P := P) (w := w) (base := base) T
  have nd := sc_rowperiod.nd
  refine F.ok sc_rowperiod (fun vs H Q E h => ?_) (fun cdv A outer S H vs Q E hr h => ?_)
  · obtain ⟨r, B, xs, ts, st, ph, rfl, _⟩ := h
    rfl
  · obtain ⟨r, B, xs, ts, st, ph, rfl, R, k⟩ := h
    refine ⟨_, (pss_one (ps_ret (pe_ix (r := rIxL K) ix_list (pe_c G_periods (hr.mono (by decide)) rfl (pa_cons (pv 0) pa_nil)) (pe_un un_neg pe_int) (fun _ _ => rfl)))), ?_⟩
    refine ⟨_, rfl, r, B, xs, ts, st, ph, rfl, R, fun l H1 hl s1 nl => ⟨1, rfl, l, _, -1, .int (perW st (wtsT ts)), rfl, rfl, SqL.of hl, ?_, k H1 s1⟩⟩
    rw [List.range_succ, List.map_append]
    show atI (_ ++ [V.int (perW st (wtsT (ts.take ts.length)))]) (-1) = _
    rw [List.take_length]
    exact atI_last _ _
theorem ok_rowperiod (T : LX K mg L) : Cal P w K mg base "row_period" 4 L.f_row_period ["row"] (spRPerW L.c_Row) := T.d_row_period.cal fun fd F => fn_rowperiod T F
abbrev N_checkindex : List Str := ["row", "index"]
theorem sc_checkindex : FnScope N_checkindex ["row", "index"] (defScope st_check_index) := ⟨rfl, rfl, rfl, by decide +kernel, rfl, by decide +kernel, by decide +kernel⟩
theorem fn_checkindex (T : LX K mg L) {fd : FuncData} (F : Fun K "check_index" "check_index" st_check_index L.f_check_index fd) : FnOk P w K mg base CX0 3 L.f_check_index fd ["row", "index"] (spCkIx L.c_Row) := by
  have G_iswithin := ok_iswithin (P := P) (w := w) (base := base) T
  have G_Rowlen := ok_Rowlen (P := P) (w := w) (base := base) T
  have nd := sc_checkindex.nd
  refine F.ok sc_checkindex (fun vs H Q E h => ?_) (fun cdv A outer S H vs Q E hr h => ?_)
  · obtain ⟨r, B, xs, ts, st, ph, i, rfl, _⟩ := h
    rfl
  · obtain ⟨r, B, xs, ts, st, ph, i, rfl, R, hi, k⟩ := h
    refine ⟨_, (pss_one (ps_if (pt_not (pt_val (pe_c G_iswithin (hr.mono (by decide)) rfl (pa_cons (pv 1) (pa_cons pe_int (pa_cons (pe_op op_sub (pe_callB (G_Rowlen.c_len (hr.mono (by decide))) (by rfl) T.b_len PySem.boot_len (pa_cons (pv 0) pa_nil)) pe_int) pa_nil)))))) (pss_one (ps_never)) pss_nil)), ?_⟩
    have xl := R.br.len
    have ln := R.ln
    obtain ⟨dr, hr'⟩ := R.ob
    refine ⟨_, rfl, _, rfl, r, dr, _, rfl, hr', r, B, xs, ts, st, ph, rfl, R, _, rfl, by omega, by omega, _, _, rfl, rfl, _, _, _, _, rfl, .int _, _, rfl, ?_⟩
    show if (!(decide ((0 : Int) ≤ (i : Int)) && decide ((i : Int) ≤ (xs.length : Int) - 1))) = true then _ else _
    rw [k6_pos (show (0 : Int) ≤ (i : Int) by omega) (show (i : Int) ≤ (xs.length : Int) - 1 by omega)]
    exact iteF k
theorem ok_checkindex (T : LX K mg L) : Cal P w K mg base "check_index" 3 L.f_check_index ["row", "index"] (spCkIx L.c_Row) := T.d_check_index.cal fun fd F => fn_checkindex T F
end
/-! ### all orders in the program -/
/-- a comprehension over a list, and then over enumerate -/
theorem lcx_inner {K : PySem.W.Frag} {a : Addr} {xs : List V} {g1 : TG} {tt1 : TT} {te : TE} {vs1 : List Nat} {σ2 : L2.St} {H4 : Hp} {D : Addr} {Nx : Hp → Prop} (Pv : Nat → Hp → Prop) (h0 : Pv 0 H4) (hl : ∀ i H, Pv i H → SqL K H a xs)
    (hs : ∀ (j : Nat) (x : V) (T : Addr) (H : Hp), xs[j]? = some x → Pv j H → H T = none → g1 (.ref T) (wipe σ2 vs1) (upd H T (.tup [.int (j : Nat), x])) fun σ3 H5 => wipe σ3 vs1 = wipe σ2 vs1 ∧ tt1 σ3 H5 fun b H6 =>
      if b = true then te σ3 H6 fun y H7 => ∃ acc, H7 D = some (.lst acc) ∧ acc.length < sizeLine ∧ Pv (j + 1) (upd H7 D (.lst (acc ++ [y]))) else Pv (j + 1) H6) (hd : ∀ H, Pv xs.length H → Nx H) :
    ∃ W1 : Nat → Nat → Hp → Prop, (∃ m, W1 0 m H4) ∧ ∀ j k H, W1 j k H →
      ((Ite K a).stop j H ∧ Nx H) ∨ ((Ite K a).go j H ∧ ∃ Nx1 : Hp → Prop, (∀ H', Nx1 H' → ∃ k', k' < k ∧ W1 (j + 1) k' H') ∧ ∀ x H', (Ite K a).yld j H x H' → g1 x (wipe σ2 vs1) H' fun σ3 H5 => wipe σ3 vs1 = wipe σ2 vs1 ∧ tt1 σ3 H5 fun b H6 =>
        if b = true then te σ3 H6 fun y H7 => ∃ acc, H7 D = some (.lst acc) ∧ acc.length < sizeLine ∧ Nx1 (upd H7 D (.lst (acc ++ [y]))) else Nx1 H6) := by
  refine ⟨fun i m H => m = xs.length - i ∧ i ≤ xs.length ∧ Pv i H, ⟨xs.length, by simp, Nat.zero_le _, h0⟩, ?_⟩
  rintro i m H ⟨rfl, hi, p⟩
  have q := hl i H p
  by_cases hlt : i < xs.length
  · refine .inr ⟨⟨xs, xs[i], q, List.getElem?_eq_getElem hlt⟩, Pv (i + 1), fun H' p' => ⟨xs.length - (i + 1), by omega, rfl, hlt, p'⟩, fun v H' y => ?_⟩
    obtain ⟨T, x', rfl, hT, rfl, f⟩ := y
    exact hs i x' T H (f xs q) p hT
  · have e : i = xs.length := by omega
    subst e
    exact .inl ⟨⟨xs, q, Nat.le_refl _⟩, hd H p⟩
theorem lcx_outer {K : PySem.W.Frag} {a : Addr} {xs : List V} {g : TG} {tt : TT} {wi1 : TI} {g1 : TG} {tt1 : TT} {te : TE} {vs vs1 : List Nat} {σ : L2.St} {H1 : Hp} {D : Addr} {Qd : Hp → Prop} (Pv : Nat → Hp → Prop) (h0 : Pv 0 (upd H1 D (.lst []))) (hl : ∀ i H, Pv i H → SqL K H a xs)
    (hs : ∀ (i : Nat) (x : V) (H : Hp), xs[i]? = some x → Pv i H → g x (wipe σ vs) H fun σ2 H2 => wipe σ2 vs = wipe σ vs ∧ tt σ2 H2 fun b H3 =>
      if b = true then wi1 σ2 H3 fun J1 H4 => ∃ W1 : Nat → Nat → Hp → Prop, (∃ m, W1 0 m H4) ∧ ∀ j k H, W1 j k H →
        (J1.stop j H ∧ Pv (i + 1) H) ∨ (J1.go j H ∧ ∃ Nx1 : Hp → Prop, (∀ H', Nx1 H' → ∃ k', k' < k ∧ W1 (j + 1) k' H') ∧ ∀ x H', J1.yld j H x H' → g1 x (wipe σ2 vs1) H' fun σ3 H5 => wipe σ3 vs1 = wipe σ2 vs1 ∧ tt1 σ3 H5 fun b H6 =>
          if b = true then te σ3 H6 fun y H7 => ∃ acc, H7 D = some (.lst acc) ∧ acc.length < sizeLine ∧ Nx1 (upd H7 D (.lst (acc ++ [y]))) else Nx1 H6)
      else Pv (i + 1) H3) (hd : ∀ H, Pv xs.length H → Qd H) :
    ∃ W : Nat → Nat → Hp → Prop, (∃ m, W 0 m (upd H1 D (.lst []))) ∧ ∀ i m H, W i m H →
      ((Itl K a).stop i H ∧ Qd H) ∨ ((Itl K a).go i H ∧ ∃ Nx : Hp → Prop, (∀ H', Nx H' → ∃ m', m' < m ∧ W (i + 1) m' H') ∧ ∀ x H', (Itl K a).yld i H x H' → g x (wipe σ vs) H' fun σ2 H2 => wipe σ2 vs = wipe σ vs ∧ tt σ2 H2 fun b H3 =>
        if b = true then wi1 σ2 H3 fun J1 H4 => ∃ W1 : Nat → Nat → Hp → Prop, (∃ m, W1 0 m H4) ∧ ∀ j k H, W1 j k H →
          (J1.stop j H ∧ Nx H) ∨ (J1.go j H ∧ ∃ Nx1 : Hp → Prop, (∀ H', Nx1 H' → ∃ k', k' < k ∧ W1 (j + 1) k' H') ∧ ∀ x H', J1.yld j H x H' → g1 x (wipe σ2 vs1) H' fun σ3 H5 => wipe σ3 vs1 = wipe σ2 vs1 ∧ tt1 σ3 H5 fun b H6 =>
            if b = true then te σ3 H6 fun y H7 => ∃ acc, H7 D = some (.lst acc) ∧ acc.length < sizeLine ∧ Nx1 (upd H7 D (.lst (acc ++ [y]))) else Nx1 H6)
        else Nx H3) := by
  refine ⟨fun i m H => m = xs.length - i ∧ i ≤ xs.length ∧ Pv i H, ⟨xs.length, by omega, Nat.zero_le _, h0⟩, ?_⟩
  rintro i m H ⟨rfl, hi, p⟩
  have q := hl i H p
  by_cases hlt : i < xs.length
  · refine .inr ⟨⟨xs, xs[i], q, by simp [hlt]⟩, Pv (i + 1), fun H' p' => ⟨xs.length - (i + 1), by omega, rfl, hlt, p'⟩, fun x H' y => ?_⟩
    obtain ⟨e, y⟩ := y
    subst e
    exact hs i x _ (y xs q) p
  · have e : i = xs.length := by omega
    subst e
    exact .inl ⟨⟨xs, q, Nat.le_refl _⟩, hd H p⟩
theorem inV_ons (k : Nat) : ∀ o : List Nat, inV (.int (k : Int)) (o.map onV) = decide (k ∈ o)
  | [] => by simp [inV]
  | d :: r => by
    have ih := inV_ons k r
    unfold inV at ih ⊢
    rw [List.map_cons, List.any_cons, ih, Bool.eq_iff_iff, Bool.or_eq_true, decide_eq_true_iff, decide_eq_true_iff, List.mem_cons]
    have e : (eqV (onV d) (.int (k : Int)) = true) ↔ k = d := by
      unfold onV eqV
      simp
      omega
    rw [e]
theorem flat_ons (o : List Nat) : (o.map onV).all flatV = true := List.all_eq_true.mpr fun x hx => by
  obtain ⟨k, _, rfl⟩ := List.mem_map.mp hx
  rfl
section
variable {P : Program} {w : World} {K : PySem.W.Frag} {mg : Str → Option Value} {base : Heap} {L : LA}
end
/-! ### best and worst orders, other rows -/
theorem ways_ne {st : Int} {ws : List Int} : ∃ x xs, waysG st ws ws.length = x :: xs := by
  obtain ⟨o, ho⟩ := ord_ne (m := ws.length)
  have h : wayG st ws o ∈ waysG st ws ws.length := List.mem_map.mpr ⟨o, ho, rfl⟩
  cases e : waysG st ws ws.length with
  | nil => rw [e] at h; cases h
  | cons x xs => exact ⟨x, xs, rfl⟩
theorem alike_ords : ∀ o o' : List Nat, PySem.W.alikeAll (o.map onD) (o'.map onD) = true
  | [], _ => by simp [PySem.W.alikeAll]
  | _ :: _, [] => by simp [PySem.W.alikeAll]
  | a :: r, b :: s => by
    rw [List.map_cons, List.map_cons, PySem.W.alikeAll, alike_ords r s]
    simp [onD, PySem.W.alike]
theorem alike_way (p q : Int × List Nat) : PySem.W.alike (wayD p) (wayD q) = true := by
  simp [wayD, ordD, PySem.W.alike, PySem.W.alikeAll, alike_ords]
theorem alike_ways (ps : List (Int × List Nat)) : PySem.W.AlikeAll (ps.map wayD) := by
  refine ⟨fun x hx y hy => ?_, fun x hx e => ?_⟩
  · obtain ⟨p, _, rfl⟩ := List.mem_map.mp hx
    obtain ⟨q, _, rfl⟩ := List.mem_map.mp hy
    exact alike_way p q
  · obtain ⟨p, _, rfl⟩ := List.mem_map.mp hx
    cases e
theorem ons_depth : ∀ o : List Nat, PyData.depthAll (o.map onD) ≤ 1 ∧ PyData.canLayAll0 (o.map onD) = true
  | [] => by simp [PyData.depthAll, PyData.canLayAll0]
  | k :: r => by
    obtain ⟨h1, h2⟩ := ons_depth r
    rw [List.map_cons, PyData.depthAll, PyData.canLayAll0, h2]
    have h3 : (onD k).depth ≤ 1 := by simp [onD, PyData.depth]
    exact ⟨by omega, by simp [onD, PyData.canLay0]⟩
theorem way_depth (p : Int × List Nat) : (wayD p).depth ≤ 6 ∧ (wayD p).canLay0 = true := by
  obtain ⟨h1, h2⟩ := ons_depth p.2
  refine ⟨?_, ?_⟩
  · simp only [wayD, ordD, PyData.depth, PyData.depthAll]
    omega
  · simp only [wayD, ordD, PyData.canLay0, PyData.canLayAll0, h2, Bool.and_true]
theorem ways_depth : ∀ ps : List (Int × List Nat), PyData.depthAll (ps.map wayD) ≤ 7 ∧ PyData.canLayAll0 (ps.map wayD) = true
  | [] => by simp [PyData.depthAll, PyData.canLayAll0]
  | p :: r => by
    obtain ⟨h1, h2⟩ := ways_depth r
    obtain ⟨h3, h4⟩ := way_depth p
    rw [List.map_cons, PyData.depthAll, PyData.canLayAll0, h2, h4]
    exact ⟨by omega, rfl⟩
/-- the least of ways, by Python's min -/
theorem min_way {K : PySem.W.Frag} {H0 H : Hp} {D l : Addr} {ws : List V} {wts : List Int} {x : Int × List Nat} {xs : List (Int × List Nat)} {Q : VK} (hl : H l = some (.lst ws)) (hw : Paired (WyN H0 D H) ws (x :: xs)) (hx : x.2.length = wts.length) (hxs : ∀ y ∈ xs, y.2.length = wts.length) (k : ∀ v, v ∈ ws → WyN H0 D H v (minG x xs) → Q v H) : rMinDat K [.ref l] H Q := by
  refine ⟨l, ws, wayD x, xs.map wayD, rfl, SqL.of hl, wys_dp hw, alike_ways (x :: xs), by have := (ways_depth (x :: xs)).1; rw [List.map_cons] at this; omega, fun i y hy he => ?_⟩
  rw [minD_way hx hxs] at he
  obtain ⟨p, hp, hyp⟩ := paired_get hw hy
  have he2 : ((x :: xs).map wayD)[i]? = some (wayD (minG x xs)) := he
  rw [List.getElem?_map, hp] at he2
  have e := Option.some.inj he2
  have inj : ∀ o o' : List Nat, o.map onD = o'.map onD → o = o' := by
    intro o
    induction o with
    | nil =>
      intro o' h
      cases o' with
      | nil => rfl
      | cons => cases h
    | cons a r ih =>
      intro o' h
      cases o' with
      | nil => cases h
      | cons b s =>
        injection h with h1 h2
        injection h1 with h1
        rw [ih s h2, show a = b by omega]
  have ep : p = minG x xs := by
    unfold wayD ordD at e
    injection e with e
    injection e with e1 e2
    injection e1 with e1
    injection e2 with e2 _
    injection e2 with e2
    exact Prod.ext e1 (inj _ _ e2)
  rw [ep] at hyp
  exact k y (List.mem_of_getElem? hy) hyp
theorem cut_pre {xs : List V} {k : Nat} (h : k ≤ xs.length) : cutV xs none (some (k : Int)) = xs.take k := by
  have h1 : HT.sIx xs.length 0 none = 0 := rfl
  have h2 : HT.sIx xs.length xs.length (some (k : Int)) = k := by
    rw [HT.sIx_nat]
    exact Nat.min_eq_left h
  unfold cutV
  rw [h1, h2, List.drop_zero, Nat.sub_zero]
theorem cut_suf {xs : List V} {k : Nat} (h : k ≤ xs.length) : cutV xs (some (k : Int)) none = xs.drop k := by
  have h1 : HT.sIx xs.length 0 (some (k : Int)) = k := by
    rw [HT.sIx_nat]
    exact Nat.min_eq_left h
  have h2 : HT.sIx xs.length xs.length none = xs.length := rfl
  unfold cutV
  rw [h1, h2, List.take_of_length_le (by rw [List.length_drop]; exact Nat.le_refl _)]
theorem ixN_nat {n i : Nat} (h : i < n) : ixN n (i : Int) = some i := by
  unfold ixN
  rw [if_pos (show (0 : Int) ≤ i by omega), if_pos (show (i : Int) < n by omega)]
  congr 1
theorem paired_takeB {α β : Type} {F : α → β → Prop} : ∀ (n : Nat) {xs : List α} {ys : List β}, Paired F xs ys → Paired F (xs.take n) (ys.take n)
  | _, _, _, .nil => by rw [List.take_nil, List.take_nil]; exact .nil
  | 0, _, _, .cons _ _ => .nil
  | n + 1, _, _, .cons h t => .cons h (paired_takeB n t)
theorem paired_dropB {α β : Type} {F : α → β → Prop} : ∀ (n : Nat) {xs : List α} {ys : List β}, Paired F xs ys → Paired F (xs.drop n) (ys.drop n)
  | _, _, _, .nil => by rw [List.drop_nil, List.drop_nil]; exact .nil
  | 0, _, _, .cons h t => .cons h t
  | n + 1, _, _, .cons _ t => paired_dropB n t
theorem paired_setB {α β : Type} {F : α → β → Prop} : ∀ {xs : List α} {ys : List β} {i : Nat} {x : α} {y : β}, Paired F xs ys → F x y → Paired F (xs.set i x) (ys.set i y)
  | _, _, _, _, _, .nil, _ => .nil
  | _, _, 0, _, _, .cons _ t, h => .cons h t
  | _, _, i + 1, _, _, .cons z t, h => .cons z (paired_setB (i := i) t h)
section
variable {P : Program} {w : World} {K : PySem.W.Frag} {mg : Str → Option Value} {base : Heap} {L : LA}
end
/-! ### range with a great step -/
section
open PySem.Builtin.SmallTypes PyProof.Rows
theorem turn_rangeL {P : Program} {w : World} {K : PySem.W.Frag} {tg : Expr} (it : Addr) (lo c : Int) (n : Nat) : Turn P w K tg (Itc lo c n) [it] it (fun i h => IsLongIter h it (lo + (i : Nat) * c) ((n : Int) - (i : Nat)) c) where
  mem := by simp
  obj := fun i h st b hb => by
    have e : b = it := by simpa using hb
    subst e
    exact ⟨_, st, fun v z => nomatch z⟩
  keep := fun i h h' st k => k it (by simp) _ st
  item := by
    intro X hP hw hK hc i pins s σ H E I hf st hg
    subst hP hw hK
    obtain ⟨f0, f1, f2, f3, f4, f5⟩ := hf it (by simp)
    have W := Walks.longrange (prog := X.prog) (w := X.w) (I.ok.hd hc) it lo c n
    refine W.item i s _ _ hg st fun v h' tk hv st' kk => ?_
    obtain ⟨t, rfl⟩ := hv
    have I1 : Inv X pins σ H { s with heap := h', toks := tk } := I.turned (fun b o hb e => kk b o (by simpa using hb) e) f0 f1 f3 f4 f5
    exact ⟨_, rfl, go_of (s := { s with heap := h', toks := tk }) (n := "longrange_iterator") st' rfl rfl (by decide) ⟨.int (lo + (i : Nat) * c), H, I1, ⟨t, rfl⟩, ⟨rfl, rfl⟩, st', fun b hb => (hf b hb).1⟩⟩
  done := by
    intro X hP hw hK hc i pins s σ H E I hf st hg
    subst hP hw hK
    obtain ⟨f0, f1, f2, f3, f4, f5⟩ := hf it (by simp)
    exact wpAny_pyNext_long_end (I.ok.hd hc) st (by have : n ≤ i := hg; omega) fun h' eb => ⟨rfl, I.turned (t' := s.toks) (fun b o hb e => eb b o hb e) f0 f1 f3 f4 f5⟩
  self := fun A i s Q E st h => wpAny_pyIter_longiter st h
def RgW (i j c : Int) (n : Nat) : Prop := 0 < c ∧ c.natAbs.log2 < 9000 ∧ Builtin.Range.rangeSize i j c = n
def iRng3W (ta : TA) : TI := fun σ H R => ta σ H fun vs H1 => ∃ (i j c : Int) (n : Nat), vs = [.int i, .int j, .int c] ∧ RgW i j c n ∧ R (Itc i c n) H1
theorem pi_range3W {X : Cx} {tg : Expr} {a b c : Expr} {ta : TA} {p pos : Pos} (hg : Gl X "range") (hm : X.mg "range" = none) (ha : PA X [a, b, c] ta)
    (hs : starEach [a, b, c] X.env = (false, eval a X.env) :: starEach [b, c] X.env := by rfl) (hpl : (backTo pos (starEach [b, c] X.env)).any (·.1) = false := by rfl) :
    PI X tg (.Call (.Name "range" p) [a, b, c] [] pos) (iRng3W ta) := by
  refine ⟨fun pins s σ H R I h => ?_⟩
  refine Call_ (ld_blt I hg hm PyProof.Rows.boot_range (PyProof.Rows.callWith_type1 (thn (ha.run pos pins s σ H _ I h) fun us s1 ⟨vs, H1, I1, r1, q1⟩ => ?_) hs hpl))
  obtain ⟨i, j, k, n, e, ⟨c0, c1, c3⟩, q⟩ := q1
  subst e
  cases r1 with
  | cons r rr =>
    cases rr with
    | cons r' rr =>
      cases rr with
      | cons r'' rr =>
        cases rr
        obtain ⟨t, rfl⟩ := r
        obtain ⟨t', rfl⟩ := r'
        obtain ⟨t'', rfl⟩ := r''
        refine call_range_3 (show k ≠ 0 by omega) ?_ (.inl (PyProof.noPylong_of_log2 c1))
        have I2 : Inv X pins σ H1 { s1 with heap := s1.heap.push { cls := .type "range", data := .fields #[.int i t, .int j t', .int k t''] } } := I1.kept (t' := s1.toks) fun b o e => Heap.get?_push_of_some _ e
        have e1 : i + ((0 : Nat) : Int) * k = i := by simp
        have e2 : (n : Int) - ((0 : Nat) : Int) = Builtin.Range.rangeSize i j k := by rw [c3]; simp
        cases c2 : Builtin.Range.small i j k with
        | true =>
          refine wpAny_pyIter_range (IsRange.new ..) c2 ?_
          refine pi_one (tk := s1.toks) I2 _ (turn_rangeC _ i k n) ?_ q
          show IsRangeIter _ _ (i + ((0 : Nat) : Int) * k) ((n : Int) - ((0 : Nat) : Int)) k
          rw [e1, e2]
          exact Heap.get?_push_size _ rfl
        | false =>
          refine wpAny_pyIter_longrange (IsRange.new ..) c2 ?_
          refine pi_one (tk := s1.toks) I2 _ (turn_rangeL _ i k n) ?_ q
          show IsLongIter _ _ (i + ((0 : Nat) : Int) * k) ((n : Int) - ((0 : Nat) : Int)) k
          rw [e1, e2]
          exact Heap.get?_push_size _ rfl
end
/-! ### ranges of waits, and the least of pairs -/
abbrev Pr := Int × Int
def addB (F : List Pr) (lo hi : Int) : List Pr := match F.getLast? with
  | some q => if q.2 + 1 = lo then F.dropLast ++ [(q.1, hi)] else F ++ [(lo, hi)]
  | none => F ++ [(lo, hi)]
theorem addB_nil (lo hi : Int) : addB [] lo hi = [(lo, hi)] := rfl
theorem addB_snoc (F : List Pr) (q : Pr) (lo hi : Int) : addB (F ++ [q]) lo hi = if q.2 + 1 = lo then F ++ [(q.1, hi)] else F ++ [q] ++ [(lo, hi)] := by
  unfold addB
  rw [List.getLast?_concat, List.dropLast_concat]
theorem snoc_cases (F : List Pr) : F = [] ∨ ∃ G q, F = G ++ [q] := by
  rcases List.eq_nil_or_concat F with h | ⟨G, q, h⟩
  · exact .inl h
  · exact .inr ⟨G, q, by rw [h, List.concat_eq_append]⟩
theorem addB_ext (F : List Pr) (lo x : Int) : addB (addB F lo x) (x + 1) (x + 1) = addB F lo (x + 1) := by
  rcases snoc_cases F with rfl | ⟨G, q, rfl⟩
  · rw [addB_nil, addB_nil]
    have := addB_snoc [] (lo, x) (x + 1) (x + 1)
    rw [if_pos rfl] at this
    exact this
  · rw [addB_snoc, addB_snoc]
    by_cases c : q.2 + 1 = lo
    · rw [if_pos c, if_pos c, addB_snoc, if_pos rfl]
    · rw [if_neg c, if_neg c, addB_snoc, if_pos rfl]
theorem addB_len (F : List Pr) (lo hi : Int) : (addB F lo hi).length ≤ F.length + 1 := by
  rcases snoc_cases F with rfl | ⟨G, q, rfl⟩
  · rw [addB_nil]
    exact Nat.le_refl _
  · rw [addB_snoc]
    split
    · rw [List.length_append, List.length_append]
      show G.length + 1 ≤ G.length + 1 + 1
      omega
    · rw [List.length_append]
      exact Nat.le_refl _
/-- one by one: the law's ranges of the waits from 1 to n -/
def Rg (h : Int → Bool) (n : Nat) : List Pr := (List.range n).foldl (fun F (i : Nat) => if h (1 + (i : Int)) then addB F (1 + (i : Int)) (1 + (i : Int)) else F) []
theorem Rg_succ (h : Int → Bool) (n : Nat) : Rg h (n + 1) = if h (1 + (n : Int)) then addB (Rg h n) (1 + (n : Int)) (1 + (n : Int)) else Rg h n := by
  unfold Rg
  rw [List.range_succ, List.foldl_append]
  rfl
/-- block by block: the program's -/
def Bg (hb : Int → Bool) (u : Int) (n : Nat) : List Pr := (List.range n).foldl (fun F (i : Nat) => if hb (u + (i : Int) * u) then addB F ((i : Int) * u + 1) (u + (i : Int) * u) else F) []
theorem Bg_succ (hb : Int → Bool) (u : Int) (n : Nat) : Bg hb u (n + 1) = if hb (u + (n : Int) * u) then addB (Bg hb u n) ((n : Int) * u + 1) (u + (n : Int) * u) else Bg hb u n := by
  unfold Bg
  rw [List.range_succ, List.foldl_append]
  rfl
theorem Bg_len (hb : Int → Bool) (u : Int) : ∀ n : Nat, (Bg hb u n).length ≤ n
  | 0 => Nat.le_refl 0
  | n + 1 => by
    rw [Bg_succ]
    have := Bg_len hb u n
    split
    · have := addB_len (Bg hb u n) ((n : Int) * u + 1) (u + (n : Int) * u)
      omega
    · omega
theorem rg_in {h hb : Int → Bool} {u : Nat} {j : Nat} (hh : ∀ x : Int, (j : Int) * u < x → x ≤ u + (j : Int) * u → h x = hb (u + (j : Int) * u)) : ∀ i : Nat, i ≤ u → Rg h (j * u + i) = if hb (u + (j : Int) * u) = true ∧ 0 < i then addB (Rg h (j * u)) ((j : Int) * u + 1) ((j : Int) * u + i) else Rg h (j * u)
  | 0, _ => by rw [if_neg (by simp)]; rfl
  | i + 1, hi => by
    have e : ((j * u + i : Nat) : Int) = (j : Int) * u + i := by push_cast; rfl
    have ih := rg_in hh i (by omega)
    show Rg h ((j * u + i) + 1) = _
    rw [Rg_succ, e, hh (1 + ((j : Int) * u + i)) (by omega) (by omega), ih]
    by_cases c : hb (u + (j : Int) * u) = true
    · rw [if_pos c, if_pos (c := _ ∧ 0 < i + 1) ⟨c, by omega⟩]
      by_cases z : 0 < i
      · rw [if_pos ⟨c, z⟩]
        have := addB_ext (Rg h (j * u)) ((j : Int) * u + 1) ((j : Int) * u + i)
        rw [show 1 + ((j : Int) * u + i) = (j : Int) * u + i + 1 by omega, this, show ((i + 1 : Nat) : Int) = (i : Int) + 1 by omega, ← Int.add_assoc]
      · rw [if_neg (fun y => z y.2)]
        have : i = 0 := by omega
        subst this
        rw [show 1 + ((j : Int) * u + ((0 : Nat) : Int)) = (j : Int) * u + 1 by omega, show (j : Int) * u + ((0 + 1 : Nat) : Int) = (j : Int) * u + 1 by omega]
    · rw [if_neg c, if_neg (fun y => c y.1), if_neg (fun y => c y.1)]
theorem rg_blocks {h hb : Int → Bool} {u : Nat} (u1 : 1 ≤ u) : ∀ (j : Nat) (_ : ∀ i : Nat, i < j → ∀ x : Int, (i : Int) * u < x → x ≤ u + (i : Int) * u → h x = hb (u + (i : Int) * u)), Rg h (j * u) = Bg hb u j
  | 0, _ => by rw [Nat.zero_mul]; rfl
  | j + 1, hh => by
    have ih := rg_blocks u1 j fun i hi => hh i (by omega)
    rw [Nat.succ_mul, rg_in (hh j (by omega)) u (Nat.le_refl _), Bg_succ, ih]
    by_cases c : hb (u + (j : Int) * u) = true
    · rw [if_pos ⟨c, by omega⟩, if_pos c, show (j : Int) * u + u = u + (j : Int) * u by omega]
    · rw [if_neg (fun y => c y.1), if_neg c]
/-- all waits below w, when the waits of the last block do no harm -/
theorem rg_all {h hb : Int → Bool} {u w : Nat} (u1 : 1 ≤ u) {j : Nat} (h1 : j * u < w) (h2 : w ≤ j * u + u) (hh : ∀ i : Nat, i ≤ j → ∀ x : Int, (i : Int) * u < x → x ≤ u + (i : Int) * u → h x = hb (u + (i : Int) * u)) (hn : hb (u + (j : Int) * u) = false) : Rg h (w - 1) = Bg hb u j := by
  have e := rg_in (hh j (Nat.le_refl _)) (w - 1 - j * u) (by omega)
  rw [show j * u + (w - 1 - j * u) = w - 1 by omega] at e
  rw [e, if_neg (fun y => by rw [hn] at y; exact absurd y.1 (by decide)), rg_blocks u1 j fun i hi => hh i (by omega)]
theorem rg_list (h : Int → Bool) (n : Nat) : (((List.range n).map fun (i : Nat) => 1 + (i : Int)).filter h).foldl (fun F x => addB F x x) [] = Rg h n := by
  rw [List.foldl_filter, List.foldl_map]
  rfl
/-! ### all times a number -/
theorem su_mul {w p c : Int} (p1 : 1 ≤ p) (c1 : 1 ≤ c) : stepsUp (w * c) (p * c) = stepsUp w p := by
  have pc : 1 ≤ p * c := by
    have := Int.mul_le_mul p1 c1 (by decide) (by omega)
    omega
  obtain ⟨a1, a2, a3⟩ := st_char (d := w) p1
  obtain ⟨b1, b2, b3⟩ := st_char (d := w * c) pc
  have h1 := b3 (stepsUp w p) a1 (by rw [← Int.mul_assoc]; exact Int.mul_le_mul_of_nonneg_right a2 (by omega))
  have h2 := a3 (stepsUp (w * c) (p * c)) b1 (by
    rw [← Int.mul_assoc] at b2
    exact Int.le_of_mul_le_mul_right b2 (by omega))
  omega
theorem rup_mul {w p c : Int} (p1 : 1 ≤ p) (c1 : 1 ≤ c) : rupI (w * c) (p * c) = rupI w p * c := by
  unfold rupI
  rw [su_mul p1 c1, Int.mul_assoc]
theorem perW_sc {c : Int} (c1 : 1 ≤ c) : ∀ {ws : List Int} {p : Int}, 1 ≤ p → (∀ w ∈ ws, 1 ≤ w) → perW (p * c) (ws.map (· * c)) = perW p ws * c
  | [], p, _, _ => rfl
  | w :: r, p, p1, ok => by
    have a := rup_is (ok w (List.mem_cons_self ..)) p1
    show perW (rupI (w * c) (p * c)) (r.map (· * c)) = _
    rw [rup_mul p1 c1]
    exact perW_sc c1 (by omega) fun u hu => ok u (List.mem_cons_of_mem _ hu)
def scP (c : Int) (q : Pr) : Pr := ((q.1 - 1) * c + 1, q.2 * c)
theorem addB_map {c : Int} (c1 : 1 ≤ c) (F : List Pr) (lo hi : Int) : addB (F.map (scP c)) ((lo - 1) * c + 1) (hi * c) = (addB F lo hi).map (scP c) := by
  rcases snoc_cases F with rfl | ⟨G, q, rfl⟩
  · rfl
  · rw [List.map_append]
    show addB (G.map (scP c) ++ [scP c q]) _ _ = _
    rw [addB_snoc, addB_snoc]
    by_cases z : q.2 + 1 = lo
    · rw [if_pos z, if_pos (by show q.2 * c + 1 = _; rw [show lo - 1 = q.2 by omega]), List.map_append]
      rfl
    · have nz : ¬ (scP c q).2 + 1 = (lo - 1) * c + 1 := fun e => by
        have e : q.2 * c + 1 = (lo - 1) * c + 1 := e
        have : q.2 = lo - 1 := Int.eq_of_mul_eq_mul_right (show c ≠ 0 by omega) (by omega)
        omega
      rw [if_neg z, if_neg nz, List.map_append, List.map_append]
      rfl
theorem Bg_map {hb hb' : Int → Bool} {u c : Int} (c1 : 1 ≤ c) : ∀ (n : Nat) (_ : ∀ i : Nat, i < n → hb' (u * c + (i : Int) * (u * c)) = hb (u + (i : Int) * u)), Bg hb' (u * c) n = (Bg hb u n).map (scP c)
  | 0, _ => rfl
  | n + 1, hh => by
    have ih := Bg_map c1 n fun i hi => hh i (by omega)
    rw [Bg_succ, Bg_succ, hh n (by omega), ih]
    by_cases z : hb (u + (n : Int) * u) = true
    · rw [if_pos z, if_pos z, ← addB_map c1]
      rw [show (n : Int) * (u * c) = (n : Int) * u * c by rw [Int.mul_assoc], show (n : Int) * u + 1 - 1 = (n : Int) * u by omega, Int.add_mul]
    · rw [if_neg z, if_neg z]
/-! ### the least of pairs -/
def prD (p : Pr) : PyData := .tuple [.int p.1, .int p.2]
def ltP (p q : Pr) : Bool := decide (p.1 < q.1) || (decide (p.1 = q.1) && decide (p.2 < q.2))
theorem ltP_iff (p q : Pr) : ltP p q = true ↔ p.1 < q.1 ∨ (p.1 = q.1 ∧ p.2 < q.2) := by
  unfold ltP
  rw [Bool.or_eq_true, Bool.and_eq_true, decide_eq_true_iff, decide_eq_true_iff, decide_eq_true_iff]
theorem ltP_not (p q : Pr) : ltP p q = false ↔ q.1 < p.1 ∨ (p.1 = q.1 ∧ q.2 ≤ p.2) := by
  rw [← Bool.not_eq_true, ltP_iff]
  omega
def minP (x : Pr) (xs : List Pr) : Pr := xs.foldl (fun a y => if ltP y a then y else a) x
theorem minP_is : ∀ (xs : List Pr) (x : Pr), minP x xs ∈ x :: xs ∧ ∀ y ∈ x :: xs, ltP y (minP x xs) = false
  | [], x => ⟨List.mem_cons_self .., fun y hy => by rw [List.mem_singleton.mp hy]; exact (ltP_not _ _).mpr (.inr ⟨rfl, Int.le_refl _⟩)⟩
  | z :: r, x => by
    obtain ⟨i1, i2⟩ := minP_is r (if ltP z x then z else x)
    have e : minP x (z :: r) = minP (if ltP z x then z else x) r := rfl
    rw [e]
    have ih := i2 _ (List.mem_cons_self ..)
    have i1' : minP (if ltP z x then z else x) r = (if ltP z x then z else x) ∨ minP (if ltP z x then z else x) r ∈ r := List.mem_cons.mp i1
    refine ⟨?_, fun y hy => ?_⟩
    · rcases i1' with h | h
      · rw [h]
        by_cases c : ltP z x = true
        · rw [if_pos c]
          exact List.mem_cons_of_mem _ (List.mem_cons_self ..)
        · rw [if_neg c]
          exact List.mem_cons_self ..
      · exact List.mem_cons_of_mem _ (List.mem_cons_of_mem _ h)
    · generalize minP (if ltP z x then z else x) r = m at ih i2
      rw [ltP_not] at ih
      rw [ltP_not]
      rcases List.mem_cons.mp hy with rfl | hy
      · by_cases c : ltP z y = true
        · rw [if_pos c] at ih
          rw [ltP_iff] at c
          omega
        · rw [if_neg c] at ih
          exact ih
      · rcases List.mem_cons.mp hy with rfl | hy
        · by_cases c : ltP y x = true
          · rw [if_pos c] at ih
            exact ih
          · rw [if_neg c] at ih
            rw [Bool.not_eq_true, ltP_not] at c
            omega
        · exact (ltP_not _ _).mp (i2 y (List.mem_cons_of_mem _ hy))
theorem minP_eq {x y : Pr} {xs ys : List Pr} (h1 : ∀ b ∈ y :: ys, b ∈ x :: xs) (h2 : ∀ a ∈ x :: xs, ∃ b ∈ y :: ys, ltP a b = false) : minP x xs = minP y ys := by
  obtain ⟨a1, a2⟩ := minP_is xs x
  obtain ⟨b1, b2⟩ := minP_is ys y
  have c1 := (ltP_not _ _).mp (a2 _ (h1 _ b1))
  obtain ⟨b, hb, c⟩ := h2 _ a1
  have c2 := (ltP_not _ _).mp c
  have c3 := (ltP_not _ _).mp (b2 b hb)
  exact Prod.ext (by omega) (by omega)
theorem minP_one {x y : Pr} {xs ys : List Pr} {c : Int} (c1 : 1 ≤ c) (h : (y :: ys).map (·.1) = (x :: xs).map (·.1 * c)) : (minP y ys).1 = (minP x xs).1 * c := by
  obtain ⟨a1, a2⟩ := minP_is xs x
  obtain ⟨b1, b2⟩ := minP_is ys y
  have h1 : (minP x xs).1 * c ∈ (y :: ys).map (·.1) := by rw [h]; exact List.mem_map.mpr ⟨_, a1, rfl⟩
  have h2 : (minP y ys).1 ∈ (x :: xs).map (·.1 * c) := by rw [← h]; exact List.mem_map.mpr ⟨_, b1, rfl⟩
  obtain ⟨b, hb, e1⟩ := List.mem_map.mp h1
  obtain ⟨a, ha, e2⟩ := List.mem_map.mp h2
  have c3 := (ltP_not _ _).mp (b2 b hb)
  have c4 := (ltP_not _ _).mp (a2 a ha)
  have c5 : (minP x xs).1 ≤ a.1 := by omega
  have := Int.mul_le_mul_of_nonneg_right c5 (show 0 ≤ c by omega)
  omega
theorem pr_lt (p q : Pr) : PySem.W.dataLt (prD p) (prD q) = ltP p q := by
  obtain ⟨p, o⟩ := p
  obtain ⟨q, o'⟩ := q
  unfold prD ltP
  rw [PySem.W.dataLt_tuple, toksI, toksI, toksI, toksI, toks0, PyProof.Rows.lex_self (O := PyProof.Rows.itemOrd)]
  show PyProof.Rows.lexLt PyProof.Rows.itemOrd (Sum.inl p :: Sum.inl 1 :: Sum.inl o :: [Sum.inl 0]) (Sum.inl q :: Sum.inl 1 :: Sum.inl o' :: [Sum.inl 0]) = (decide (p < q) || (decide (p = q) && decide (o < o')))
  by_cases c : p = q
  · subst c
    rw [PyProof.Rows.lex_self (O := PyProof.Rows.itemOrd), PyProof.Rows.lex_self (O := PyProof.Rows.itemOrd)]
    by_cases d : o = o'
    · subst d
      rw [PyProof.Rows.lex_self (O := PyProof.Rows.itemOrd), PyProof.Rows.lex_self (O := PyProof.Rows.itemOrd), decide_eq_false (show ¬ p < p by omega), decide_eq_false (show ¬ o < o by omega), Bool.and_false]
      rfl
    · rw [PyProof.Rows.lex_diff (O := PyProof.Rows.itemOrd) (by intro z; injection z with z; exact d z)]
      show decide (o < o') = _
      rw [decide_eq_false (show ¬ p < p by omega), decide_eq_true rfl, Bool.true_and, Bool.false_or]
  · rw [PyProof.Rows.lex_diff (O := PyProof.Rows.itemOrd) (by intro z; injection z with z; exact c z)]
    show decide (p < q) = _
    rw [decide_eq_false c, Bool.false_and, Bool.or_false]
theorem minD_pr : ∀ {xs : List Pr} {x : Pr}, PySem.W.minD (prD x) (xs.map prD) = prD (minP x xs)
  | [], x => rfl
  | y :: r, x => by
    show (r.map prD).foldl (fun a y => if PySem.W.dataLt y a then y else a) (if PySem.W.dataLt (prD y) (prD x) then prD y else prD x) = prD (r.foldl (fun a y => if ltP y a then y else a) (if ltP y x then y else x))
    rw [pr_lt y x]
    by_cases c : ltP y x = true
    · rw [if_pos c, if_pos c]
      exact minD_pr (xs := r)
    · rw [if_neg c, if_neg c]
      exact minD_pr (xs := r)
theorem eq_pr (p : Pr) : PyData.eqv (prD p) (prD p) = true := by simp [prD, PyData.eqv, PyData.eqvAll]
theorem eq_prs : ∀ ps : List Pr, PyData.eqvAll (ps.map prD) (ps.map prD) = true
  | [] => by simp [PyData.eqvAll]
  | p :: r => by rw [List.map_cons, PyData.eqvAll, eq_prs r, eq_pr]; rfl
theorem pr_depth (p : Pr) : (prD p).depth ≤ 6 ∧ (prD p).canLay0 = true := by
  refine ⟨?_, ?_⟩
  · simp only [prD, PyData.depth, PyData.depthAll]
    omega
  · simp only [prD, PyData.canLay0, PyData.canLayAll0, Bool.and_true]
theorem prs_depth : ∀ ps : List Pr, PyData.depthAll (ps.map prD) ≤ 7 ∧ PyData.canLayAll0 (ps.map prD) = true
  | [] => by simp [PyData.depthAll, PyData.canLayAll0]
  | p :: r => by
    obtain ⟨h1, h2⟩ := prs_depth r
    obtain ⟨h3, h4⟩ := pr_depth p
    rw [List.map_cons, PyData.depthAll, PyData.canLayAll0, h2, h4]
    exact ⟨by omega, rfl⟩
theorem sh_prs (ps : List Pr) : SeqAt.shaped (.list (ps.map prD)) = true := by
  obtain ⟨h1, h2⟩ := prs_depth ps
  refine Bool.and_eq_true_iff.mpr ⟨?_, decide_eq_true ?_⟩
  · rw [PyData.canLay0]
    exact h2
  · rw [PyData.depth]
    omega
theorem sh_pr (p : Pr) : SeqAt.shaped (prD p) = true := by
  obtain ⟨h1, h2⟩ := pr_depth p
  exact Bool.and_eq_true_iff.mpr ⟨h2, decide_eq_true (Nat.le_trans h1 (by decide))⟩
theorem alike_prs (ps : List Pr) : PySem.W.AlikeAll (ps.map prD) := by
  have a : ∀ p q : Pr, PySem.W.alike (prD p) (prD q) = true := fun p q => by simp [prD, PySem.W.alike, PySem.W.alikeAll]
  refine ⟨fun x hx y hy => ?_, fun x hx e => ?_⟩
  · obtain ⟨p, _, rfl⟩ := List.mem_map.mp hx
    obtain ⟨q, _, rfl⟩ := List.mem_map.mp hy
    exact a p q
  · obtain ⟨p, _, rfl⟩ := List.mem_map.mp hx
    cases e
def PrI (H : Hp) (v : V) (p : Pr) : Prop := ∃ a, v = .ref a ∧ H a = some (.tup [.int p.1, .int p.2])
theorem PrI.nl {H H' : Hp} (n : NL H H') {v : V} {p : Pr} : PrI H v p → PrI H' v p := fun ⟨a, e, h⟩ => ⟨a, e, n _ _ h fun _ z => nomatch z⟩
theorem PrI.dp {K : PySem.W.Frag} {H : Hp} {v : V} {p : Pr} : PrI H v p → Dp K H v (prD p) := fun ⟨a, e, h⟩ => by
  subst e
  exact .tup (SqT.of h) (.cons (.int _) (.cons (.int _) .nil))
theorem pri_dp {K : PySem.W.Frag} {H : Hp} {xs : List V} {ps : List Pr} (h : Paired (PrI H) xs ps) : DpAll K H xs (ps.map prD) := by
  induction h with
  | nil => exact .nil
  | cons h _ ih => exact .cons h.dp ih
/-- the least of pairs, by Python's min -/
theorem min_pr {K : PySem.W.Frag} {H : Hp} {l : Addr} {ws : List V} {x : Pr} {xs : List Pr} {Q : VK} (hl : H l = some (.lst ws)) (hw : Paired (PrI H) ws (x :: xs)) (k : ∀ v, PrI H v (minP x xs) → Q v H) : rMinDat K [.ref l] H Q := by
  refine ⟨l, ws, prD x, xs.map prD, rfl, SqL.of hl, pri_dp hw, alike_prs (x :: xs), by have := (prs_depth (x :: xs)).1; rw [List.map_cons] at this; omega, fun i y hy he => ?_⟩
  rw [minD_pr] at he
  obtain ⟨p, hp, hyp⟩ := paired_get hw hy
  have he2 : ((x :: xs).map prD)[i]? = some (prD (minP x xs)) := he
  rw [List.getElem?_map, hp] at he2
  have e := Option.some.inj he2
  have ep : p = minP x xs := by
    unfold prD at e
    injection e with e
    injection e with e1 e2
    injection e1 with e1
    injection e2 with e2 _
    injection e2 with e2
    exact Prod.ext e1 e2
  rw [ep] at hyp
  exact k y hyp
/-! ### ranges of waits, in the program -/
theorem cut_two {xs : List V} {k : Nat} {a b : V} (h1 : xs[k]? = some a) (h2 : xs[k + 1]? = some b) : cutV xs (some (k : Int)) (some ((k : Int) + 2)) = [a, b] := by
  obtain ⟨l1, e1⟩ := List.getElem?_eq_some_iff.mp h1
  obtain ⟨l2, e2⟩ := List.getElem?_eq_some_iff.mp h2
  have c1 : HT.sIx xs.length 0 (some (k : Int)) = k := by
    rw [HT.sIx_nat]
    exact Nat.min_eq_left (by omega)
  have c2 : HT.sIx xs.length xs.length (some ((k : Int) + 2)) = k + 2 := by
    rw [show (k : Int) + 2 = ((k + 2 : Nat) : Int) by omega, HT.sIx_nat]
    exact Nat.min_eq_left (by omega)
  unfold cutV
  rw [c1, c2, List.drop_eq_getElem_cons l1, List.drop_eq_getElem_cons l2, e1, e2, show k + 2 - k = 2 by omega]
  rfl
theorem rg_n {u m : Int} (u1 : 1 ≤ u) (m1 : 1 ≤ m) : Builtin.Range.rangeSize u (m * u) u = ((m - 1).toNat : Nat) := by
  unfold Builtin.Range.rangeSize
  rw [if_pos (show u > 0 by omega)]
  have e : m * u = (m - 1) * u + u := by rw [Int.sub_mul, Int.one_mul]; omega
  by_cases c : m = 1
  · rw [if_neg (by rw [c]; omega), c]
    rfl
  · have p := Int.mul_le_mul_of_nonneg_right (show 1 ≤ m - 1 by omega) (show 0 ≤ u by omega)
    rw [if_pos (by omega), show m * u - u - 1 = (u - 1) + (m - 2) * u by rw [show m - 2 = m - 1 - 1 by omega, Int.sub_mul (m - 1), Int.one_mul]; omega, Int.add_mul_ediv_right _ _ (by omega), Int.ediv_eq_zero_of_lt (by omega) (by omega)]
    omega
theorem rg_n2 {a u : Int} (u1 : 1 ≤ u) (n : Nat) : Builtin.Range.rangeSize (a + u) (a + (n : Int) * u + 1) u = n := by
  unfold Builtin.Range.rangeSize
  rw [if_pos (show u > 0 by omega)]
  by_cases c : n = 0
  · subst c
    rw [if_neg (by rw [show ((0 : Nat) : Int) * u = 0 by omega]; omega)]
    rfl
  · have p := Int.mul_le_mul_of_nonneg_right (show (1 : Int) ≤ n by omega) (show 0 ≤ u by omega)
    rw [if_pos (by omega), show a + (n : Int) * u + 1 - (a + u) - 1 = 0 + ((n : Int) - 1) * u by rw [Int.sub_mul, Int.one_mul]; omega, Int.add_mul_ediv_right _ _ (by omega), Int.zero_ediv]
    omega
def brL (ls : List Int) (u own : Int) (n : Nat) : List Pr := (List.range n).map fun (i : Nat) => (perW (own + u + (i : Int) * u) ls, own + u + (i : Int) * u - u + 1)
theorem brL_succ (ls : List Int) (u own : Int) (n : Nat) : brL ls u own (n + 1) = brL ls u own n ++ [(perW (own + u + (n : Int) * u) ls, own + u + (n : Int) * u - u + 1)] := by
  unfold brL
  rw [List.range_succ, List.map_append]
  rfl
def spBR (C : Addr) : Sp := fun vs H Q _ => ∃ r B xs ts st ph t, ∃ (k n : Nat) (most : Int), vs = [.ref r, .int (k : Int), .int most] ∧ RowAt C H r B xs ts st ph ∧ ts[k]? = some t ∧ t.2.1 ≤ most ∧ most ≤ 1000000000000000000000000000000 ∧
  rupI most (perW st (wtsT (ts.take k))) = rupI t.2.1 (perW st (wtsT (ts.take k))) + (n : Int) * perW st (wtsT (ts.take k)) ∧ n ≤ 2000 ∧ rupI most (perW st (wtsT (ts.take k))) ≤ 1000000000000000000000000000000 ∧
  ∀ v H', PrI H' v (minP (perW (rupI t.2.1 (perW st (wtsT (ts.take k)))) (wtsT (ts.drop (k + 1))), t.2.1) (brL (wtsT (ts.drop (k + 1))) (perW st (wtsT (ts.take k))) (rupI t.2.1 (perW st (wtsT (ts.take k)))) n)) → Same H H' → Q v H'
def hbT (ts : List Tri) (st : Int) (k : Nat) (p : Int) : Bool := decide (perW p (wtsT (ts.drop (k + 1))) > perW st (wtsT ts))
def spPB : Sp := fun vs H Q _ => ∃ p l ys us, vs = [.int p, .ref l] ∧ H l = some (.lst ys) ∧ Brs H ys us ∧ (∀ u ∈ us, OkT u) ∧ us.length ≤ 12 ∧ 1 ≤ p ∧ p ≤ 1000000000000000000000000000000 ∧ Q (.int (perW p (wtsT us))) H
def spHL (C : Addr) : Sp := fun vs H Q _ => ∃ r B xs ts st ph t, ∃ k : Nat, vs = [.ref r, .int (k : Int)] ∧ RowAt C H r B xs ts st ph ∧ ts[k]? = some t ∧ rupI t.2.1 (perW st (wtsT (ts.take k))) ≤ 1000000000000000000000000000000 ∧ stepsUp t.2.1 (perW st (wtsT (ts.take k))) ≤ 2000 ∧
  ∀ l ws H', H' l = some (.lst ws) → Paired (PrI H') ws (Bg (hbT ts st k) (perW st (wtsT (ts.take k))) (stepsUp t.2.1 (perW st (wtsT (ts.take k))) - 1).toNat) → Same H H' → H l = none → Q (.ref l) H'
section
variable {P : Program} {w : World} {K : PySem.W.Frag} {mg : Str → Option Value} {base : Heap} {L : LA}
abbrev N_periodbehind : List Str := ["period", "breakers", "found", "breaker"]
theorem sc_periodbehind : FnScope N_periodbehind ["period", "breakers"] (defScope st_period_behind) := ⟨rfl, rfl, rfl, by decide +kernel, rfl, by decide +kernel, by decide +kernel⟩
theorem fn_periodbehind (T : LX K mg L) {fd : FuncData} (F : Fun K "period_behind" "period_behind" st_period_behind L.f_period_behind fd) : FnOk P w K mg base CX0 3 L.f_period_behind fd ["period", "breakers"] (spPB) := by
  have G_roundedup := ok_roundedup (P := P) (w := w) (base := base) T
  have nd := sc_periodbehind.nd
  refine F.ok sc_periodbehind (fun vs H Q E h => ?_) (fun cdv A outer S H vs Q E hr h => ?_)
  · obtain ⟨p, l, ys, us, rfl, _⟩ := h
    rfl
  · obtain ⟨p, l, ys, us, rfl, hl, hb, ok, ln, p1, p2, k⟩ := h
    refine ⟨_, (pss_cons (ps_set (i := 2) nd rfl (Or.inl rfl) (pv 0))
       (pss_cons (ps_for PassesOwn.never rfl (pi_list (pv 1)) (pg_name (i := 3) nd rfl (Or.inl rfl)) (pss_one (ps_set (i := 2) nd rfl (Or.inl rfl) (pe_c G_roundedup (hr.mono (by decide)) rfl (pa_cons (pe_ix (r := rIxT K) ix_tup (pv 3) pe_int (fun _ _ => rfl)) (pa_cons (pv 2) pa_nil))))))
       (pss_one (ps_ret (pv 2))))), ?_⟩
    have yl := hb.len
    refine ⟨_, rfl, _, rfl, l, rfl, ⟨_, SqL.of hl⟩, ?_⟩
    refine for_list (K := K) (a := l) (xs := ys) (fun i σ Hx => ∃ v3 : Option V, σ = [some (.int p), some (.ref l), some (.int (perW p (wtsT (us.take i)))), v3] ∧ Hx = H) ⟨none, rfl, rfl⟩ (fun i σ Hx _ ⟨_, _, e⟩ => by rw [e]; exact SqL.of hl) ?_ ?_
    · rintro i x σ Hx hxi ⟨v3, rfl, rfl⟩
      obtain ⟨t, ht, c, rfl, hc⟩ := paired_get hb hxi
      have hi := (List.getElem?_eq_some_iff.mp ht).1
      have okt := ok t (List.mem_of_getElem? ht)
      obtain ⟨b1, b2⟩ := pd_bd p1 p2 (ws := wtsT (us.take i)) (wts_ok fun u hu => ok u (List.mem_of_mem_take hu)) (by unfold wtsT; rw [List.length_map, List.length_take]; omega)
      have eB : PdB = 13000000000000000000000000000000 := rfl
      have o1 := okt.2.2.1
      have o2 := okt.2.2.2.1
      obtain ⟨a1, a2, a3⟩ := rup_ask o1 (by omega) b1 b2
      have eP : perW p (wtsT (us.take (i + 1))) = stepsUp t.2.1 (perW p (wtsT (us.take i))) * perW p (wtsT (us.take i)) := by
        rw [List.take_add_one, ht]
        unfold wtsT
        rw [List.map_append, perW_app]
        rfl
      rw [eP]
      exact ⟨_, rfl, c, _, 1, .int t.2.1, rfl, rfl, SqT.of hc, rfl, _, rfl, t.2.1, _, rfl, a1, a2, a3, _, rfl, rfl⟩
    · rintro σ Hx ⟨v3, rfl, rfl⟩
      rw [yl, List.take_length]
      exact ⟨_, rfl, k⟩
theorem ok_periodbehind (T : LX K mg L) : Cal P w K mg base "period_behind" 3 L.f_period_behind ["period", "breakers"] (spPB) := T.d_period_behind.cal fun fd F => fn_periodbehind T F
abbrev N_harmfullowerings : List Str := ["row", "index", "unit", "own", "later", "usual", "found", "period", "low"]
theorem sc_harmfullowerings : FnScope N_harmfullowerings ["row", "index"] (defScope st_harmful_lowerings) := ⟨rfl, rfl, rfl, by decide +kernel, rfl, by decide +kernel, by decide +kernel⟩
theorem fn_harmfullowerings (T : LX K mg L) {fd : FuncData} (F : Fun K "harmful_lowerings" "harmful_lowerings" st_harmful_lowerings L.f_harmful_lowerings fd) : FnOk P w K mg base CX0 9 L.f_harmful_lowerings fd ["row", "index"] (spHL L.c_Row) := by
  have G_checkindex := ok_checkindex (P := P) (w := w) (base := base) T
  have G_Rowbreakerlist := ok_Rowbreakerlist (P := P) (w := w) (base := base) T
  have G_rowperiod := ok_rowperiod (P := P) (w := w) (base := base) T
  have G_periods := ok_periods (P := P) (w := w) (base := base) T
  obtain ⟨tk_MOST_PERIODS, c_MOST_PERIODS⟩ := T.n_MOST_PERIODS
  have G_periodbehind := ok_periodbehind (P := P) (w := w) (base := base) T
  have nd := sc_harmfullowerings.nd
  refine F.ok sc_harmfullowerings (fun vs H Q E h => ?_) (fun cdv A outer S H vs Q E hr h => ?_)
  · obtain ⟨r, B, xs, ts, st, ph, t, i, rfl, _⟩ := h
    rfl
  · obtain ⟨r, B, xs, ts, st, ph, t, i, rfl, R, ht, pB, mB, k⟩ := h
    refine ⟨_, (pss_cons (ps_expr (pe_c G_checkindex (hr.mono (by decide)) rfl (pa_cons (pv 0) (pa_cons (pv 1) pa_nil))))
       (pss_cons (ps_asg (pe_slice (r := rSlL K) sl_list (pe_c G_periods (hr.mono (by decide)) rfl (pa_cons (pv 0) pa_nil)) (po_some (pv 1)) (po_some (pe_op op_add (pv 1) pe_int))) (pg_lst rfl (pgs_cons (pg_name (i := 2) nd rfl (Or.inl rfl)) (pgs_cons (pg_name (i := 3) nd rfl (Or.inl rfl)) pgs_nil))))
       (pss_cons (ps_if (pt_cmpR op_gt (pv 3) (pe_op op_mulW (pe_op op_add (pe_gI c_MOST_PERIODS) pe_int) (pv 2)) (nomark _)) (pss_one (ps_never)) pss_nil)
       (pss_cons (ps_set (i := 4) nd rfl (Or.inl rfl) (pe_slice (r := rSlL K) sl_list (G_Rowbreakerlist.p_m0 T.cf_Row.cl (hr.mono (by decide)) (pv 0)) (po_some (pe_op op_add (pv 1) pe_int)) po_none))
       (pss_cons (ps_set (i := 5) nd rfl (Or.inl rfl) (pe_c G_rowperiod (hr.mono (by decide)) rfl (pa_cons (pv 0) pa_nil)))
       (pss_cons (ps_set (i := 6) nd rfl (Or.inl rfl) (pe_lst pa_nil))
       (pss_cons (ps_for PassesOwn.never rfl (pi_range3W rfl T.b_range (pa_cons (pv 2) (pa_cons (pv 3) (pa_cons (pv 2) pa_nil)))) (pg_name (i := 7) nd rfl (Or.inl rfl)) (pss_one (ps_if (pt_cmpR op_gt (pe_c G_periodbehind (hr.mono (by decide)) rfl (pa_cons (pv 7) (pa_cons (pv 4) pa_nil))) (pv 5) (nomark _)) (pss_cons (ps_set (i := 8) nd rfl (Or.inl rfl) (pe_op op_add (pe_op op_sub (pv 7) (pv 2)) pe_int))
       (pss_cons (ps_if (PW.pt (pw_and (pt_truth (pv 6) (fun _ => rfl)) (pw_and1 (pt_cmpR op_eq (pe_op op_add (pe_ix (r := rIxT K) ix_tup (pe_ix (r := rIxL K) ix_list (pv 6) (pe_un un_neg pe_int) (fun _ _ => rfl)) pe_int (fun _ _ => rfl)) pe_int) (pv 8) (nomark _))))) (pss_one (ps_set (i := 8) nd rfl (Or.inl rfl) (pe_ix (r := rIxT K) ix_tup (pe_bm0 PySem.F.plainAttrs_list PySem.F.slot_list_pop PySem.F.type_list_pop mt_pop (pv 6)) pe_int (fun _ _ => rfl)))) pss_nil)
       (pss_one (ps_expr (pe_bm PySem.F.plainAttrs_list PySem.F.slot_list_append PySem.F.type_list_append mt_append (pv 6) (pa_cons (pe_tup (pa_cons (pv 8) (pa_cons (pv 7) pa_nil))) pa_nil)))))) pss_nil)))
       (pss_one (ps_ret (pv 6)))))))))), ?_⟩
    have xl := R.br.len
    have ln := R.ln
    have hi := (List.getElem?_eq_some_iff.mp ht).1
    have okt := R.ok t (List.mem_of_getElem? ht)
    obtain ⟨u, hu⟩ : ∃ u, u = perW st (wtsT (ts.take i)) := ⟨_, rfl⟩
    have u1 : 1 ≤ u := by rw [hu]; exact perW_1 R.s0 fun w hw => (wts_ok (fun b hb => R.ok b (List.mem_of_mem_take hb)) w hw).1
    rw [← hu] at pB mB k
    obtain ⟨m, hm⟩ : ∃ m, m = stepsUp t.2.1 u := ⟨_, rfl⟩
    obtain ⟨m1, r1, r2, r3, _⟩ := rup_is okt.2.2.1 u1
    have eown : rupI t.2.1 u = m * u := by rw [hm]; rfl
    rw [← hm] at m1 mB k
    rw [eown] at pB r1 r2 r3
    obtain ⟨dr, hr'⟩ := R.ob
    have no1 := rowF_no B st ph (m := "breaker_list") (by decide +kernel) (by decide +kernel) (by decide +kernel)
    refine ⟨_, rfl, _, rfl, r, B, xs, ts, st, ph, i, rfl, R, hi, ?_⟩
    refine ⟨_, rfl, r, B, xs, ts, st, ph, rfl, R, fun lp H1 hlp s1 np => ⟨_, rfl, (i : Int), rfl, _, rfl, _, _, rfl, rfl, (i : Int) + 2, rfl, lp, _, rfl, SqL.of hlp, fun l1 hl1 => ?_⟩⟩
    have g1 : ((List.range (ts.length + 1)).map fun i => V.int (perW st (wtsT (ts.take i))))[i]? = some (.int u) := by
      rw [List.getElem?_map, List.getElem?_range (by omega), hu]
      rfl
    have g2 : ((List.range (ts.length + 1)).map fun i => V.int (perW st (wtsT (ts.take i))))[i + 1]? = some (.int (m * u)) := by
      rw [List.getElem?_map, List.getElem?_range (by omega)]
      show some (V.int (perW st (wtsT (ts.take (i + 1))))) = _
      rw [List.take_add_one, ht, ← eown]
      unfold wtsT
      show some (V.int (perW st ((ts.take i ++ [t]).map _))) = _
      rw [List.map_append, perW_app, hu]
      rfl
    rw [cut_two g1 g2]
    have s2 := Same.upd (o := .lst [.int u, .int (m * u)]) hl1
    refine ⟨l1, _, rfl, SqL.of upd_same, rfl, _, _, rfl, _, _, rfl, rfl, ?_⟩
    generalize upd H1 l1 (.lst [.int u, .int (m * u)]) = H2 at s2 ⊢
    have s02 := s1.trans s2
    -- the limit
    have cm : CMulW 2001 u := by
      have eB : PdB = 13000000000000000000000000000000 := rfl
      have bb := pd_bb
      exact mulBB (by decide) (by have := BB0; omega) (by omega) (by omega)
    have nl : ¬ (2000 + 1) * u < m * u := fun z => by
      have := Int.mul_le_mul_of_nonneg_right (show m ≤ 2001 by omega) (show 0 ≤ u by omega)
      omega
    refine ⟨_, rfl, _, _, rfl, rfl, _, rfl, _, _, rfl, rfl, cm, _, _, rfl, rfl, _, congrArg V.bl (decide_eq_false nl), iteF ?_⟩
    -- the later breakers
    have R2 := R.nl (NL.of s02)
    obtain ⟨d2, h2⟩ := R2.ob
    refine ⟨_, rfl, r, d2, _, rfl, h2, no1, r, B, xs, ts, st, ph, rfl, R2, fun lb Hb hlb eHb => ?_⟩
    subst eHb
    have sb := Same.upd (o := .lst xs) hlb
    have hlb1 : (upd H2 lb (.lst xs)) lb = some (.lst xs) := upd_same
    generalize upd H2 lb (.lst xs) = Hb at sb hlb1 ⊢
    refine ⟨_, rfl, _, _, rfl, rfl, (i : Int) + 1, rfl, lb, xs, rfl, SqL.of hlb1, fun l2 hl2 => ?_⟩
    rw [show (i : Int) + 1 = ((i + 1 : Nat) : Int) by omega, cut_suf (show i + 1 ≤ xs.length by omega)]
    have s3 := Same.upd (o := .lst (xs.drop (i + 1))) hl2
    have h3 : (upd Hb l2 (.lst (xs.drop (i + 1)))) l2 = some (.lst (xs.drop (i + 1))) := upd_same
    show gName 4 (.ref l2) _ (upd Hb l2 (.lst (xs.drop (i + 1)))) _
    generalize upd Hb l2 (.lst (xs.drop (i + 1))) = H3 at s3 h3 ⊢
    have s03 := s02.trans (sb.trans s3)
    have R3 := R.nl (NL.of s03)
    -- the usual period
    refine ⟨_, rfl, r, B, xs, ts, st, ph, rfl, R3, fun H4 s4 => ⟨(by show 0 ≤ sizeLine; decide), fun lf hlf => ?_⟩⟩
    have s04 := s03.trans s4
    have h4 := s4 _ _ h3
    have b4 := paired_dropB (i + 1) (R.nl (NL.of s04)).br
    have s5 := Same.upd (o := .lst []) hlf
    have g5 : (upd H4 lf (.lst [])) lf = some (.lst []) := upd_same
    generalize upd H4 lf (.lst []) = H5 at s5 g5 ⊢
    refine ⟨_, rfl, _, rfl, _, rfl, u, m * u, u, (m - 1).toNat, rfl, ⟨by omega, (by have eB : PdB = 13000000000000000000000000000000 := rfl; have bb := pd_bb; exact divBB u1 (by omega)), rg_n u1 m1⟩, ?_⟩
    refine for_rangeC (lo := u) (c := u) (n := (m - 1).toNat) (fun j σ Hx => ∃ (ws : List V) (v7 v8 : Option V), σ = [some (.ref r), some (.int (i : Int)), some (.int u), some (.int (m * u)), some (.ref l2), some (.int (perW st (wtsT ts))), some (.ref lf), v7, v8] ∧ Hx lf = some (.lst ws) ∧ Paired (PrI Hx) ws (Bg (hbT ts st i) u j) ∧ Same H4 Hx)
      ⟨[], none, none, rfl, g5, .nil, s5⟩ ?_ ?_
    rotate_left
    · rintro σ Hx ⟨ws, v7, v8, rfl, hf, hp, sx⟩
      exact ⟨_, rfl, k lf ws Hx hf hp (s04.trans sx) (none_of s04 hlf)⟩
    rintro j σ Hx hj ⟨ws, v7, v8, rfl, hf, hp, sx⟩
    have wl := paired_len hp
    have bl := Bg_len (hbT ts st i) u j
    have ju := Int.mul_le_mul_of_nonneg_right (show (j : Int) + 1 ≤ m by omega) (show 0 ≤ u by omega)
    rw [Int.add_mul, Int.one_mul] at ju
    have j0 := Int.mul_nonneg (show (0 : Int) ≤ (j : Nat) by omega) (show 0 ≤ u by omega)
    have bx : Brs Hx (xs.drop (i + 1)) (ts.drop (i + 1)) := Brs.nl (NL.of sx) b4
    refine ⟨_, rfl, _, rfl, u + (j : Int) * u, l2, xs.drop (i + 1), ts.drop (i + 1), rfl, sx _ _ h4, bx, fun u hu => R.ok u (List.mem_of_mem_drop hu), by rw [List.length_drop]; omega, by omega, by omega, _, rfl, _, _, rfl, rfl, _, rfl, ?_⟩
    have eB : decide (perW st (wtsT ts) < perW (u + (j : Int) * u) (wtsT (ts.drop (i + 1)))) = hbT ts st i (u + (j : Int) * u) := rfl
    rw [eB, Bg_succ]
    refine ite2 (fun c => ?_) (fun c => ?_)
    rotate_left
    · rw [if_neg c]
      exact ⟨ws, _, _, rfl, hf, hp, sx⟩
    rw [if_pos c]
    refine ⟨_, rfl, _, rfl, _, _, rfl, rfl, _, _, rfl, rfl, ?_⟩
    obtain ⟨lo, hlo⟩ : ∃ lo, lo = u + (j : Int) * u - u + 1 := ⟨_, rfl⟩
    show gName 8 (.int (u + (j : Int) * u - u + 1)) _ _ _
    rw [← hlo, show (j : Int) * u + 1 = lo by omega]
    -- the last step: a pair more
    have fin : ∀ {Hy : Hp} {ws' : List V} {F' : List Pr} {lo' : Int} {tq : Addr}, Hy lf = some (.lst ws') → Paired (PrI Hy) ws' F' → Same H4 Hy → Hy tq = none → F' ++ [(lo', u + (j : Int) * u)] = addB (Bg (hbT ts st i) u j) lo (u + (j : Int) * u) →
        (upd Hy tq (.tup [.int lo', .int (u + (j : Int) * u)])) lf = some (.lst ws') ∧ (upd (upd Hy tq (.tup [.int lo', .int (u + (j : Int) * u)])) lf (.lst (ws' ++ [.ref tq]))) lf = some (.lst (ws' ++ [.ref tq])) ∧ Paired (PrI (upd (upd Hy tq (.tup [.int lo', .int (u + (j : Int) * u)])) lf (.lst (ws' ++ [.ref tq])))) (ws' ++ [.ref tq]) (addB (Bg (hbT ts st i) u j) lo (u + (j : Int) * u)) ∧ Same H4 (upd (upd Hy tq (.tup [.int lo', .int (u + (j : Int) * u)])) lf (.lst (ws' ++ [.ref tq]))) := fun {Hy ws' F' lo' tq} h1 h2 h3 h4 h5 => by
      have sq := Same.upd (o := .tup [.int lo', .int (u + (j : Int) * u)]) h4
      have hq := sq _ _ h1
      have n7 := NL.upd (o := .lst (ws' ++ [.ref tq])) hq
      refine ⟨hq, upd_same, ?_, fun b o e => by rw [upd_ne (ne_of_none e hlf)]; exact sq _ _ (h3 _ _ e)⟩
      rw [← h5]
      exact paired_app (L2.Paired.mapP h2 fun _ _ z => z.nl ((NL.of sq).trans n7)) (.cons ⟨tq, rfl, n7 _ _ upd_same fun _ z => nomatch z⟩ .nil)
    obtain ⟨F, hF⟩ : ∃ F, F = Bg (hbT ts st i) u j := ⟨_, rfl⟩
    rw [← hF] at hp wl bl fin ⊢
    rcases snoc_cases F with rfl | ⟨G, q, rfl⟩
    · cases hp
      refine ⟨_, rfl, false, .inl ⟨[], SqL.of hf, rfl⟩, iteF (iteF ?_)⟩
      refine ⟨_, rfl, .inl ⟨rfl, _, SqL.of hf⟩, _, rfl, _, rfl, (by show 2 ≤ sizeLine; decide), fun tq htq => ?_⟩
      obtain ⟨a1, a2, a3, a4⟩ := fin (lo' := lo) hf .nil sx htq (addB_nil _ _).symm
      exact ⟨lf, _, _, rfl, rfl, a1, small1 (by decide), _, _, _, rfl, a2, a3, a4⟩
    have fin2 := addB_snoc G q lo (u + (j : Int) * u)
    obtain ⟨wG, v, rfl⟩ : ∃ wG v, ws = wG ++ [v] := by
      rcases List.eq_nil_or_concat ws with h | ⟨a, b, h⟩
      · rw [h, List.length_append] at wl
        exact absurd wl (Nat.succ_ne_zero _).symm
      · exact ⟨a, b, by rw [h, List.concat_eq_append]⟩
    have wgl : wG.length = G.length := by
      rw [List.length_append, List.length_append] at wl
      exact Nat.succ.inj wl
    obtain ⟨q', hq', Tq, rfl, hTq⟩ := paired_get hp (i := wG.length) (x := v) (by rw [List.getElem?_append_right (Nat.le_refl _), Nat.sub_self]; rfl)
    rw [wgl, List.getElem?_append_right (Nat.le_refl _), Nat.sub_self] at hq'
    obtain rfl : q = q' := Option.some.inj hq'
    have hpG : Paired (PrI Hx) wG G := by
      have := paired_takeB G.length hp
      rwa [← wgl, List.take_left, wgl, List.take_left] at this
    rw [List.length_append] at bl
    have bl : G.length + 1 ≤ j := bl
    refine ⟨_, rfl, true, .inl ⟨wG ++ [.ref Tq], SqL.of hf, by cases wG <;> rfl⟩, iteT ?_⟩
    refine ⟨_, rfl, 1, rfl, lf, _, -1, .ref Tq, rfl, rfl, SqL.of hf, atI_last _ _, Tq, _, 1, .int q.2, rfl, rfl, SqT.of hTq, rfl, _, _, rfl, rfl, _, rfl, rfl, _, rfl, ?_⟩
    refine ite2 (fun z => ?_) (fun z => ?_)
    · have z : q.2 + 1 = lo := V.int.inj (of_decide_eq_true z)
      rw [if_pos z] at fin2
      refine ⟨_, rfl, .inl ⟨rfl, _, SqL.of hf⟩, lf, _, .ref Tq, rfl, rfl, hf, by rw [List.length_append, List.getElem?_append_right (by show wG.length ≤ wG.length + 1 - 1; omega), show wG.length + [V.ref Tq].length - 1 - wG.length = 0 by show wG.length + 1 - 1 - wG.length = 0; omega]; rfl, ?_⟩
      rw [List.dropLast_concat]
      have n7 := NL.upd (o := .lst wG) hf
      have hf7 : (upd Hx lf (.lst wG)) lf = some (.lst wG) := upd_same
      have s7 : Same H4 (upd Hx lf (.lst wG)) := fun b o e => by rw [upd_ne (ne_of_none e hlf)]; exact sx _ _ e
      have hp7 : Paired (PrI (upd Hx lf (.lst wG))) wG G := L2.Paired.mapP hpG fun _ _ z => z.nl n7
      refine ⟨Tq, _, 0, .int q.1, rfl, rfl, SqT.of (n7 _ _ hTq fun _ z => nomatch z), rfl, ?_⟩
      generalize upd Hx lf (.lst wG) = H7 at n7 hf7 s7 hp7 ⊢
      refine ⟨_, rfl, .inl ⟨rfl, _, SqL.of hf7⟩, _, rfl, _, rfl, (by show 2 ≤ sizeLine; decide), fun tq htq => ?_⟩
      obtain ⟨a1, a2, a3, a4⟩ := fin (lo' := q.1) hf7 hp7 s7 htq fin2.symm
      exact ⟨lf, _, _, rfl, rfl, a1, small1 (by omega), _, _, _, rfl, a2, a3, a4⟩
    · have z : ¬ q.2 + 1 = lo := fun y => z (decide_eq_true (congrArg V.int y))
      rw [if_neg z] at fin2
      refine ⟨_, rfl, .inl ⟨rfl, _, SqL.of hf⟩, _, rfl, _, rfl, (by show 2 ≤ sizeLine; decide), fun tq htq => ?_⟩
      obtain ⟨a1, a2, a3, a4⟩ := fin (lo' := lo) hf hp sx htq fin2.symm
      exact ⟨lf, _, _, rfl, rfl, a1, small1 (by rw [List.length_append]; show wG.length + 1 ≤ 100000; omega), _, _, _, rfl, a2, a3, a4⟩
theorem ok_harmfullowerings (T : LX K mg L) : Cal P w K mg base "harmful_lowerings" 9 L.f_harmful_lowerings ["row", "index"] (spHL L.c_Row) := T.d_harmful_lowerings.cal fun fd F => fn_harmfullowerings T F
abbrev N_bestraise : List Str := ["row", "index", "most", "wait", "unit", "own", "top", "later", "found", "period"]
theorem sc_bestraise : FnScope N_bestraise ["row", "index", "most"] (defScope st_best_raise) := ⟨rfl, rfl, rfl, by decide +kernel, rfl, by decide +kernel, by decide +kernel⟩
theorem fn_bestraise (T : LX K mg L) {fd : FuncData} (F : Fun K "best_raise" "best_raise" st_best_raise L.f_best_raise fd) : FnOk P w K mg base CX0 9 L.f_best_raise fd ["row", "index", "most"] (spBR L.c_Row) := by
  have G_checkindex := ok_checkindex (P := P) (w := w) (base := base) T
  have G_Rowgetitem := ok_Rowgetitem (P := P) (w := w) (base := base) T
  have G_roundedup := ok_roundedup (P := P) (w := w) (base := base) T
  have G_Rowbreakerlist := ok_Rowbreakerlist (P := P) (w := w) (base := base) T
  have G_iswithin := ok_iswithin (P := P) (w := w) (base := base) T
  obtain ⟨tk_MOST_TIME, c_MOST_TIME⟩ := T.n_MOST_TIME
  have G_periods := ok_periods (P := P) (w := w) (base := base) T
  obtain ⟨tk_MOST_PERIODS, c_MOST_PERIODS⟩ := T.n_MOST_PERIODS
  have G_periodbehind := ok_periodbehind (P := P) (w := w) (base := base) T
  have nd := sc_bestraise.nd
  refine F.ok sc_bestraise (fun vs H Q E h => ?_) (fun cdv A outer S H vs Q E hr h => ?_)
  · obtain ⟨r, B, xs, ts, st, ph, t, i, n, most, rfl, _⟩ := h
    rfl
  · obtain ⟨r, B, xs, ts, st, ph, t, i, n, most, rfl, R, ht, w1, w2, etop, n2, tB, k⟩ := h
    refine ⟨_, (pss_cons (ps_expr (pe_c G_checkindex (hr.mono (by decide)) rfl (pa_cons (pv 0) (pa_cons (pv 1) pa_nil))))
       (pss_cons (ps_set (i := 3) nd rfl (Or.inl rfl) (pe_ix (r := rIxT K) ix_tup (G_Rowgetitem.p_ix (hr.mono (by decide)) (pv 0) (pv 1)) pe_int (fun _ _ => rfl)))
       (pss_cons (ps_if (pt_not (pt_val (pe_c G_iswithin (hr.mono (by decide)) rfl (pa_cons (pv 2) (pa_cons (pv 3) (pa_cons (pe_gI c_MOST_TIME) pa_nil)))))) (pss_one (ps_never)) pss_nil)
       (pss_cons (ps_asg (pe_slice (r := rSlL K) sl_list (pe_c G_periods (hr.mono (by decide)) rfl (pa_cons (pv 0) pa_nil)) (po_some (pv 1)) (po_some (pe_op op_add (pv 1) pe_int))) (pg_lst rfl (pgs_cons (pg_name (i := 4) nd rfl (Or.inl rfl)) (pgs_cons (pg_name (i := 5) nd rfl (Or.inl rfl)) pgs_nil))))
       (pss_cons (ps_set (i := 6) nd rfl (Or.inl rfl) (pe_c G_roundedup (hr.mono (by decide)) rfl (pa_cons (pv 2) (pa_cons (pv 4) pa_nil))))
       (pss_cons (ps_if (pt_cmpR op_gt (pe_op op_sub (pv 6) (pv 5)) (pe_op op_mulW (pe_gI c_MOST_PERIODS) (pv 4)) (nomark _)) (pss_one (ps_never)) pss_nil)
       (pss_cons (ps_set (i := 7) nd rfl (Or.inl rfl) (pe_slice (r := rSlL K) sl_list (G_Rowbreakerlist.p_m0 T.cf_Row.cl (hr.mono (by decide)) (pv 0)) (po_some (pe_op op_add (pv 1) pe_int)) po_none))
       (pss_cons (ps_set (i := 8) nd rfl (Or.inl rfl) (pe_lst (pa_cons (pe_tup (pa_cons (pe_c G_periodbehind (hr.mono (by decide)) rfl (pa_cons (pv 5) (pa_cons (pv 7) pa_nil))) (pa_cons (pv 3) pa_nil))) pa_nil)))
       (pss_cons (ps_for PassesOwn.never rfl (pi_range3W rfl T.b_range (pa_cons (pe_op op_add (pv 5) (pv 4)) (pa_cons (pe_op op_add (pv 6) pe_int) (pa_cons (pv 4) pa_nil)))) (pg_name (i := 9) nd rfl (Or.inl rfl)) (pss_one (ps_expr (pe_bm PySem.F.plainAttrs_list PySem.F.slot_list_append PySem.F.type_list_append mt_append (pv 8) (pa_cons (pe_tup (pa_cons (pe_c G_periodbehind (hr.mono (by decide)) rfl (pa_cons (pv 9) (pa_cons (pv 7) pa_nil))) (pa_cons (pe_op op_add (pe_op op_sub (pv 9) (pv 4)) pe_int) pa_nil))) pa_nil)))))
       (pss_one (ps_ret (pe_callB (call_minD hr.units) (by rfl) T.b_min (by decide +kernel) (pa_cons (pv 8) pa_nil))))))))))))), ?_⟩
    have xl := R.br.len
    have ln := R.ln
    have hi := (List.getElem?_eq_some_iff.mp ht).1
    have okt := R.ok t (List.mem_of_getElem? ht)
    obtain ⟨u, hu⟩ : ∃ u, u = perW st (wtsT (ts.take i)) := ⟨_, rfl⟩
    have u1 : 1 ≤ u := by rw [hu]; exact perW_1 R.s0 fun w hw => (wts_ok (fun b hb => R.ok b (List.mem_of_mem_take hb)) w hw).1
    rw [← hu] at etop tB k
    obtain ⟨own, ho⟩ : ∃ own, own = rupI t.2.1 u := ⟨_, rfl⟩
    obtain ⟨m1, r1, r2, r3, _⟩ := rup_is okt.2.2.1 u1
    rw [← ho] at etop k r1 r2 r3
    have nu0 := Int.mul_nonneg (show (0 : Int) ≤ (n : Nat) by omega) (show 0 ≤ u by omega)
    have eB : PdB = 13000000000000000000000000000000 := rfl
    have bb := pd_bb
    obtain ⟨dr, hr'⟩ := R.ob
    have no1 := rowF_no B st ph (m := "breaker_list") (by decide +kernel) (by decide +kernel) (by decide +kernel)
    refine ⟨_, rfl, _, rfl, r, B, xs, ts, st, ph, i, rfl, R, hi, ?_⟩
    -- the wait
    obtain ⟨y, hy⟩ : ∃ y, xs[i]? = some y := ⟨_, List.getElem?_eq_getElem (by omega)⟩
    obtain ⟨t', ht', c, rfl, hc⟩ := paired_get R.br hy
    rw [ht] at ht'
    cases ht'
    refine ⟨_, rfl, _, rfl, r, dr, _, rfl, hr', r, B, xs, ts, st, ph, (i : Int), .ref c, rfl, R, by omega, atI_nat hy, by omega, c, _, 1, .int t.2.1, rfl, rfl, SqT.of hc, rfl, ?_⟩
    refine ⟨_, rfl, _, rfl, _, _, _, _, rfl, .int _, _, rfl, ?_⟩
    show if (!(decide (t.2.1 ≤ most) && decide (most ≤ 1000000000000000000000000000000))) = true then _ else _
    rw [k6_pos w1 w2]
    refine iteF ?_
    refine ⟨_, rfl, r, B, xs, ts, st, ph, rfl, R, fun lp H1 hlp s1 np => ⟨_, rfl, (i : Int), rfl, _, rfl, _, _, rfl, rfl, (i : Int) + 2, rfl, lp, _, rfl, SqL.of hlp, fun l1 hl1 => ?_⟩⟩
    have g1 : ((List.range (ts.length + 1)).map fun i => V.int (perW st (wtsT (ts.take i))))[i]? = some (.int u) := by
      rw [List.getElem?_map, List.getElem?_range (by omega), hu]
      rfl
    have g2 : ((List.range (ts.length + 1)).map fun i => V.int (perW st (wtsT (ts.take i))))[i + 1]? = some (.int own) := by
      rw [List.getElem?_map, List.getElem?_range (by omega)]
      show some (V.int (perW st (wtsT (ts.take (i + 1))))) = _
      rw [List.take_add_one, ht, ho]
      unfold wtsT
      show some (V.int (perW st ((ts.take i ++ [t]).map _))) = _
      rw [List.map_append, perW_app, hu]
      rfl
    rw [cut_two g1 g2]
    have s2 := Same.upd (o := .lst [.int u, .int own]) hl1
    refine ⟨l1, _, rfl, SqL.of upd_same, rfl, _, _, rfl, _, _, rfl, rfl, ?_⟩
    generalize upd H1 l1 (.lst [.int u, .int own]) = H2 at s2 ⊢
    have s02 := s1.trans s2
    -- the top
    obtain ⟨a1, a2, a3⟩ := rup_ask (show 1 ≤ most by have := okt.2.2.1; omega) (show most ≤ PdB by omega) u1 (show u ≤ PdB by omega)
    refine ⟨_, rfl, _, rfl, most, u, rfl, a1, a2, a3, ?_⟩
    have etop2 : stepsUp most u * u = own + (n : Int) * u := etop
    show gName 6 (.int (stepsUp most u * u)) _ _ _
    rw [etop2]
    rw [etop] at tB
    have cm : CMulW 2000 u := mulBB (by decide) (by have := BB0; omega) (by omega) (by omega)
    have nl : ¬ 2000 * u < own + (n : Int) * u - own := fun z => by
      have := Int.mul_le_mul_of_nonneg_right (show (n : Int) ≤ 2000 by omega) (show 0 ≤ u by omega)
      omega
    refine ⟨_, rfl, _, rfl, _, _, rfl, rfl, _, rfl, _, _, rfl, rfl, cm, _, _, rfl, rfl, _, congrArg V.bl (decide_eq_false nl), iteF ?_⟩
    -- the later breakers
    have R2 := R.nl (NL.of s02)
    obtain ⟨d2, h2⟩ := R2.ob
    refine ⟨_, rfl, r, d2, _, rfl, h2, no1, r, B, xs, ts, st, ph, rfl, R2, fun lb Hb hlb eHb => ?_⟩
    subst eHb
    have sb := Same.upd (o := .lst xs) hlb
    have hlb1 : (upd H2 lb (.lst xs)) lb = some (.lst xs) := upd_same
    generalize upd H2 lb (.lst xs) = Hb at sb hlb1 ⊢
    refine ⟨_, rfl, _, _, rfl, rfl, (i : Int) + 1, rfl, lb, xs, rfl, SqL.of hlb1, fun l2 hl2 => ?_⟩
    rw [show (i : Int) + 1 = ((i + 1 : Nat) : Int) by omega, cut_suf (show i + 1 ≤ xs.length by omega)]
    have s3 := Same.upd (o := .lst (xs.drop (i + 1))) hl2
    have h3 : (upd Hb l2 (.lst (xs.drop (i + 1)))) l2 = some (.lst (xs.drop (i + 1))) := upd_same
    show gName 7 (.ref l2) _ (upd Hb l2 (.lst (xs.drop (i + 1)))) _
    generalize upd Hb l2 (.lst (xs.drop (i + 1))) = H3 at s3 h3 ⊢
    have s03 := s02.trans (sb.trans s3)
    have b3 := paired_dropB (i + 1) (R.nl (NL.of s03)).br
    have okd : ∀ u ∈ ts.drop (i + 1), OkT u := fun u hu => R.ok u (List.mem_of_mem_drop hu)
    have lnd : (ts.drop (i + 1)).length ≤ 12 := by rw [List.length_drop]; omega
    refine ⟨_, rfl, _, rfl, own, l2, xs.drop (i + 1), ts.drop (i + 1), rfl, h3, b3, okd, lnd, by omega, by omega, _, rfl, (by show 2 ≤ sizeLine; decide), fun tq htq => ⟨(by show 1 ≤ sizeLine; decide), fun lf hlf => ?_⟩⟩
    have s4 := Same.upd (o := .tup [.int (perW own (wtsT (ts.drop (i + 1)))), .int t.2.1]) htq
    have s5 := Same.upd (o := .lst [.ref tq]) hlf
    have g4 := s5 _ _ (upd_same (H := H3) (a := tq) (o := .tup [.int (perW own (wtsT (ts.drop (i + 1)))), .int t.2.1]))
    have g5 : (upd (upd H3 tq (.tup [.int (perW own (wtsT (ts.drop (i + 1)))), .int t.2.1])) lf (.lst [.ref tq])) lf = some (.lst [.ref tq]) := upd_same
    have s45 := s4.trans s5
    have nlf3 : H3 lf = none := none_of s4 hlf
    generalize upd (upd H3 tq (.tup [.int (perW own (wtsT (ts.drop (i + 1)))), .int t.2.1])) lf (.lst [.ref tq]) = H5 at s45 g4 g5 ⊢
    refine ⟨_, rfl, _, rfl, _, _, rfl, rfl, _, rfl, _, _, rfl, rfl, _, rfl, own + u, own + (n : Int) * u + 1, u, n, rfl, ⟨by omega, divBB u1 (by omega), rg_n2 u1 n⟩, ?_⟩
    refine for_rangeC (lo := own + u) (c := u) (n := n) (fun j σ Hx => ∃ (ws : List V) (v9 : Option V), σ = [some (.ref r), some (.int (i : Int)), some (.int most), some (.int t.2.1), some (.int u), some (.int own), some (.int (own + (n : Int) * u)), some (.ref l2), some (.ref lf), v9] ∧ Hx lf = some (.lst ws) ∧ Paired (PrI Hx) ws ((perW own (wtsT (ts.drop (i + 1))), t.2.1) :: brL (wtsT (ts.drop (i + 1))) u own j) ∧ Same H3 Hx)
      ⟨[.ref tq], none, rfl, g5, .cons ⟨tq, rfl, g4⟩ .nil, s45⟩ ?_ ?_
    rotate_left
    · rintro σ Hx ⟨ws, v9, rfl, hf, hp, sx⟩
      exact ⟨.ref lf, rfl, min_pr hf hp fun v hv => k v Hx hv (s03.trans sx)⟩
    rintro j σ Hx hj ⟨ws, v9, rfl, hf, hp, sx⟩
    have wl := paired_len hp
    have bl : (brL (wtsT (ts.drop (i + 1))) u own j).length = j := by unfold brL; rw [List.length_map, List.length_range]
    rw [List.length_cons, bl] at wl
    have ju := Int.mul_le_mul_of_nonneg_right (show (j : Int) + 1 ≤ n by omega) (show 0 ≤ u by omega)
    rw [Int.add_mul, Int.one_mul] at ju
    have j0 := Int.mul_nonneg (show (0 : Int) ≤ (j : Nat) by omega) (show 0 ≤ u by omega)
    have bx : Brs Hx (xs.drop (i + 1)) (ts.drop (i + 1)) := Brs.nl (NL.of sx) b3
    refine ⟨_, rfl, .inl ⟨rfl, _, SqL.of hf⟩, _, rfl, _, rfl, own + u + (j : Int) * u, l2, xs.drop (i + 1), ts.drop (i + 1), rfl, sx _ _ h3, bx, okd, lnd, by omega, by omega, _, rfl, _, rfl, _, _, rfl, rfl, _, _, rfl, rfl, (by show 2 ≤ sizeLine; decide), fun tp htp => ?_⟩
    have sp := Same.upd (o := .tup [.int (perW (own + u + (j : Int) * u) (wtsT (ts.drop (i + 1)))), .int (own + u + (j : Int) * u - u + 1)]) htp
    have gp : (upd Hx tp (.tup [.int (perW (own + u + (j : Int) * u) (wtsT (ts.drop (i + 1)))), .int (own + u + (j : Int) * u - u + 1)])) tp = some (.tup [.int (perW (own + u + (j : Int) * u) (wtsT (ts.drop (i + 1)))), .int (own + u + (j : Int) * u - u + 1)]) := upd_same
    have hfp := sp _ _ hf
    have n7 := NL.upd (o := .lst (ws ++ [.ref tp])) hfp
    refine ⟨lf, ws, _, rfl, rfl, hfp, small1 (by omega), ws ++ [.ref tp], _, rfl, upd_same, ?_, fun b o e => by rw [upd_ne (ne_of_none e nlf3)]; exact sp _ _ (sx _ _ e)⟩
    rw [brL_succ]
    exact paired_app (L2.Paired.mapP hp fun _ _ z => z.nl ((NL.of sp).trans n7)) (.cons ⟨tp, rfl, n7 _ _ gp fun _ z => nomatch z⟩ .nil)
theorem ok_bestraise (T : LX K mg L) : Cal P w K mg base "best_raise" 9 L.f_best_raise ["row", "index", "most"] (spBR L.c_Row) := T.d_best_raise.cal fun fd F => fn_bestraise T F
end
/-! ### rows drawn -/
def spSpecs : Sp := fun vs H Q _ => ∃ (s : Addr) (n : Nat) (m f g : Int), vs = [.ref s, .int m, .int f, .int g] ∧ Src H s n ∧ n ≤ 500000 ∧ 0 ≤ m ∧ m ≤ 12 ∧ 3 ≤ f ∧ f ≤ 1000000000000000000000000000000 ∧ 2 ≤ g ∧ g ≤ 1000000000000 ∧
  ∀ l xs ts H', H' l = some (.lst xs) → Brs H' xs ts → (∀ t ∈ ts, OkT t) → (∀ t ∈ ts, t.2.1 ≤ f ∧ t.1 ≤ g) → (ts.length : Int) ≤ m → Src H' s (n + 90000) → Kp s H H' → H l = none → Q (.ref l) H'
section
variable {P : Program} {w : World} {K : PySem.W.Frag} {mg : Str → Option Value} {base : Heap} {L : LA}
abbrev N_wspecs : List Str := ["_law_source", "_law_high", "_law_wide", "_law_many", "_law_found", "_law_k", "_law_wait", "_law_fails"]
theorem sc_wspecs : FnScope N_wspecs ["_law_source", "_law_high", "_law_wide", "_law_many"] (defScope st__law_specs) := ⟨rfl, rfl, rfl, by decide +kernel, rfl, by decide +kernel, by decide +kernel⟩
theorem fn_wspecs (T : LX K mg L) {fd : FuncData} (F : Fun K "_law_specs" "_law_specs" st__law_specs L.f__law_specs fd) : FnOk P w K mg base CX0 3 L.f__law_specs fd ["_law_source", "_law_high", "_law_wide", "_law_many"] (spSpecs) := by
  have G_wnext := ok_wnext (P := P) (w := w) (base := base) T
  have G_wone := ok_wone (P := P) (w := w) (base := base) T
  have nd := sc_wspecs.nd
  refine F.ok sc_wspecs (fun vs H Q E h => ?_) (fun cdv A outer S H vs Q E hr h => ?_)
  · obtain ⟨s, n, m, f, g, rfl, _⟩ := h
    rfl
  · obtain ⟨s, n, m, f, g, rfl, src, hn, m0, m1, f0, f1, g0, g1, k⟩ := h
    refine ⟨_, (pss_cons (ps_set (i := 4) nd rfl (Or.inl rfl) (pe_lst pa_nil))
       (pss_cons (ps_for PassesOwn.never rfl (pi_range1 rfl T.b_range (pa_cons (pe_c G_wnext (hr.mono (by decide)) rfl (pa_cons (pv 0) (pa_cons (pe_op op_add (pv 1) pe_int) pa_nil))) pa_nil)) (pg_name (i := 5) nd rfl (Or.inl rfl)) (pss_cons (ps_set (i := 6) nd rfl (Or.inl rfl) (pe_op op_add pe_int (pe_c G_wnext (hr.mono (by decide)) rfl (pa_cons (pv 0) (pa_cons (pe_c G_wone (hr.mono (by decide)) rfl (pa_cons (pv 0) (pa_cons (pe_lst (pa_cons pe_int (pa_cons (pv 2) pa_nil))) pa_nil))) pa_nil)))))
       (pss_cons (ps_set (i := 7) nd rfl (Or.inl rfl) (pe_op op_add pe_int (pe_c G_wnext (hr.mono (by decide)) rfl (pa_cons (pv 0) (pa_cons (pe_c G_wone (hr.mono (by decide)) rfl (pa_cons (pv 0) (pa_cons (pe_lst (pa_cons pe_int (pa_cons (pv 3) pa_nil))) pa_nil))) pa_nil)))))
       (pss_one (ps_expr (pe_bm PySem.F.plainAttrs_list PySem.F.slot_list_append PySem.F.type_list_append mt_append (pv 4) (pa_cons (pe_tup (pa_cons (pv 7) (pa_cons (pv 6) (pa_cons (pe_op op_add pe_int (pe_c G_wnext (hr.mono (by decide)) rfl (pa_cons (pv 0) (pa_cons (pe_c G_wone (hr.mono (by decide)) rfl (pa_cons (pv 0) (pa_cons (pe_lst (pa_cons pe_int (pa_cons (pv 3) pa_nil))) pa_nil))) pa_nil)))) pa_nil)))) pa_nil)))))))
       (pss_one (ps_ret (pv 4))))), ?_⟩
    obtain ⟨ys, hys⟩ := src.has
    refine ⟨(by show 0 ≤ sizeLine; decide), fun l1 hl1 => ?_⟩
    have s1 := Same.upd (o := .lst []) hl1
    have nls : s ≠ l1 := ne_of_none hys hl1
    refine ⟨_, rfl, _, rfl, _, _, rfl, rfl, s, m + 1, n, rfl, by omega, Nat.lt_of_le_of_lt (show (m + 1).natAbs ≤ 13 by omega) (by decide +kernel), src.same s1, by omega, fun q H1 q0 q1 src1 k1 => ?_⟩
    refine ⟨q, rfl, by omega, by omega, ?_⟩
    refine for_range (lo := 0) (n := q.toNat) (fun j σ H2 => ∃ v5 v6 v7 : Option V, ∃ zs ts, σ = [some (.ref s), some (.int m), some (.int f), some (.int g), some (.ref l1), v5, v6, v7] ∧ H2 l1 = some (.lst zs) ∧ Brs H2 zs ts ∧ (∀ t ∈ ts, OkT t) ∧ (∀ t ∈ ts, t.2.1 ≤ f ∧ t.1 ≤ g) ∧ zs.length ≤ j ∧ Kp s H H2 ∧ Src H2 s (n + 1101 + 6606 * j))
      ⟨none, none, none, [], [], rfl, k1 _ _ nls.symm upd_same, .nil, fun t ht => (nomatch ht), fun t ht => (nomatch ht), Nat.le_refl _, (Kp.of s1).trans k1, src1⟩ ?_ ?_
    · rintro j σ H2 hj ⟨v5, v6, v7, zs, ts, rfl, h2, hb, ok, okf, zl, k2, src2⟩
      have gb : g.natAbs < 2 ^ 1100 := Nat.lt_of_le_of_lt (show g.natAbs ≤ 1000000000000 by omega) (by decide +kernel)
      refine draw_gen (P := P) (w := w) (mg := mg) (a := s) (n := n + 1101 + 6606 * j) (ns := [3, f]) (hi := f) rfl src2 (by omega) (fun R h => ⟨_, rfl, h⟩) (by simp) (by simp) (fun m hm => ?_) (Nat.lt_of_le_of_lt (show f.natAbs ≤ 1000000000000000000000000000000 by omega) (by decide +kernel)) fun wt H3 wt0 wt1 _ src3 k3 => ⟨_, _, rfl, rfl, ?_⟩
      · simp only [List.mem_cons, List.mem_nil_iff, or_false] at hm
        rcases hm with rfl | rfl <;> exact ⟨by omega, by omega⟩
      refine draw_gen (P := P) (w := w) (mg := mg) (a := s) (n := n + 1101 + 6606 * j + 2202) (ns := [2, g]) (hi := g) rfl src3 (by omega) (fun R h => ⟨_, rfl, h⟩) (by simp) (by simp) (fun m hm => ?_) gb fun fa H4 fa0 fa1 _ src4 k4 => ⟨_, _, rfl, rfl, ?_⟩
      · simp only [List.mem_cons, List.mem_nil_iff, or_false] at hm
        rcases hm with rfl | rfl <;> exact ⟨by omega, by omega⟩
      have h24 := k4 _ _ nls.symm (k3 _ _ nls.symm h2)
      refine ⟨_, rfl, .inl ⟨rfl, _, SqL.of h24⟩, _, rfl, _, rfl, ?_⟩
      refine draw_gen (P := P) (w := w) (mg := mg) (a := s) (n := n + 1101 + 6606 * j + 4404) (ns := [2, g]) (hi := g) rfl src4 (by omega) (fun R h => ⟨_, rfl, h⟩) (by simp) (by simp) (fun m hm => ?_) gb fun su H5 su0 su1 _ src5 k5 => ⟨_, _, rfl, rfl, (by show 3 ≤ sizeLine; decide), fun tp htp => ?_⟩
      · simp only [List.mem_cons, List.mem_nil_iff, or_false] at hm
        rcases hm with rfl | rfl <;> exact ⟨by omega, by omega⟩
      have h25 := k5 _ _ nls.symm h24
      have s6 := Same.upd (o := .tup [.int (1 + fa), .int (1 + wt), .int (1 + su)]) htp
      have h26 := s6 _ _ h25
      refine ⟨l1, _, _, rfl, rfl, h26, small1 (by omega), ?_⟩
      have n7 := NL.upd (o := .lst (zs ++ [.ref tp])) h26
      obtain ⟨y2, hy2⟩ := src2.has
      obtain ⟨y3, hy3⟩ := src3.has
      obtain ⟨y4, hy4⟩ := src4.has
      have nl25 : NL H2 H5 := ((Kp.nl k3 hy2).trans (Kp.nl k4 hy3)).trans (Kp.nl k5 hy4)
      refine ⟨_, _, _, zs ++ [.ref tp], ts ++ [(1 + fa, 1 + wt, 1 + su)], rfl, upd_same, ?_, fun t ht => ?_, fun t ht => ?_, by rw [List.length_append]; show zs.length + 1 ≤ j + 1; omega, fun u w nu e => ?_, ?_⟩
      · exact Brs.app (((hb.nl nl25).nl (NL.of s6)).nl n7) (.cons ⟨tp, rfl, n7 _ _ upd_same fun _ z => nomatch z⟩ .nil)
      · rcases List.mem_append.mp ht with ht | ht
        · exact ok t ht
        · rw [List.mem_singleton.mp ht]
          show 1 ≤ 1 + fa ∧ 1 + fa ≤ 1000000000000 ∧ 1 ≤ 1 + wt ∧ 1 + wt ≤ 1000000000000000000000000000000 ∧ 1 ≤ 1 + su ∧ 1 + su ≤ 1000000000000
          exact ⟨by omega, by omega, by omega, by omega, by omega, by omega⟩
      · rcases List.mem_append.mp ht with ht | ht
        · exact okf t ht
        · rw [List.mem_singleton.mp ht]
          show 1 + wt ≤ f ∧ 1 + fa ≤ g
          omega
      · rw [upd_ne (ne_of_none e hl1)]
        exact s6 _ _ (k5 _ _ nu (k4 _ _ nu (k3 _ _ nu (k2 _ _ nu e))))
      · refine src_kp ?_ nls (src5.same s6 |>.mono (by omega))
        exact Kp.upd
    · rintro σ H2 ⟨v5, v6, v7, zs, ts, rfl, h2, hb, ok, okf, zl, k2, src2⟩
      have bl := Brs.len hb
      exact ⟨_, rfl, k l1 zs ts H2 h2 hb ok okf (by omega) (src2.mono (by omega)) k2 hl1⟩
theorem ok_wspecs (T : LX K mg L) : Cal P w K mg base "_law_specs" 3 L.f__law_specs ["_law_source", "_law_high", "_law_wide", "_law_many"] (spSpecs) := T.d__law_specs.cal fun fd F => fn_wspecs T F
end
/-! ### k39: the law's own periods and orders -/
def OrAt (H0 H : Hp) (v : V) (o : List Nat) : Prop := ∃ a, v = .ref a ∧ H a = some (.lst (o.map onV)) ∧ H0 a = none
theorem OrAt.same {H0 H H' : Hp} (s : Same H H') {v : V} {o : List Nat} (h : OrAt H0 H v o) : OrAt H0 H' v o := by
  obtain ⟨a, e, h, n⟩ := h
  exact ⟨a, e, s _ _ h, n⟩
def OrN (H0 : Hp) (D : Addr) (H : Hp) (v : V) (o : List Nat) : Prop := ∃ a, v = .ref a ∧ H a = some (.lst (o.map onV)) ∧ H0 a = none ∧ a ≠ D
theorem OrN.at {H0 : Hp} {D : Addr} {H : Hp} {v : V} {o : List Nat} : OrN H0 D H v o → OrAt H0 H v o := fun ⟨a, e, h, n, _⟩ => ⟨a, e, h, n⟩
theorem OrN.mv {H0 : Hp} {D : Addr} {H H' : Hp} {v : V} {o : List Nat} (k : ∀ b u, b ≠ D → H b = some u → H' b = some u) : OrN H0 D H v o → OrN H0 D H' v o := fun ⟨a, e, h, m, n⟩ => ⟨a, e, k _ _ n h, m, n⟩
def stepG (m : Nat) (o : List Nat) (q : Nat) : List (List Nat) := ((List.range q).filter fun a => decide (a ∉ o)).map fun a => o ++ [a]
theorem stepG_succ (m : Nat) (o : List Nat) (q : Nat) : stepG m o (q + 1) = stepG m o q ++ if q ∈ o then [] else [o ++ [q]] := by
  unfold stepG
  rw [List.range_succ, List.filter_append, List.map_append]
  congr 1
  by_cases c : q ∈ o
  · rw [if_pos c, List.filter_cons, if_neg (by simpa using c)]
    rfl
  · rw [if_neg c, List.filter_cons, if_pos (by simpa using c)]
    rfl
theorem ordG_flat (m j : Nat) : ordG m (j + 1) = (ordG m j).flatMap fun o => stepG m o m := rfl
def spLPer : Sp := fun vs H Q _ => ∃ l ws st, vs = [.ref l, .int st] ∧ H l = some (.lst (ws.map V.int)) ∧ 1 ≤ st ∧ st ≤ 1000000000000000000000000000000 ∧ (∀ w ∈ ws, 1 ≤ w ∧ w ≤ 1000000000000000000000000000000) ∧ ws.length ≤ 12 ∧ Q (.int (perW st ws)) H
def spLOrd : Sp := fun vs H Q _ => ∃ m : Nat, vs = [.int (m : Int)] ∧ m ≤ 6 ∧ ∀ l xs H', H' l = some (.lst xs) → Paired (OrAt H H') xs (ordG m m) → Same H H' → H l = none → Q (.ref l) H'
theorem ne_same {C : Addr} {H : Hp} {z v W W' : Addr} {xs ys : List V} {ts : List Tri} {st ph : Int} {Q : VK} (R : RowAt C H z W xs ts st ph) (R' : RowAt C H v W' ys ts st ph) (k : Q (.bl false) H) : rOwnEq C (spEqR C) E0 Bool.not (.ref z) (.ref v) H Q := ne_row R (.row R') (by rw [decide_eq_true rfl]; exact k)
def spChg (C : Addr) : Sp := fun vs H Q _ => ∃ s n r B xs ts st ph l ys, vs = [.ref s, .ref r, .ref l, .int st] ∧ Src H s n ∧ n ≤ 600000 ∧ RowAt C H r B xs ts st ph ∧ H l = some (.lst ys) ∧ Brs H ys ts ∧ l ≠ s ∧ ∀ H', Kp s H H' → Q (.bl true) H'
section
variable {P : Program} {w : World} {K : PySem.W.Frag} {mg : Str → Option Value} {base : Heap} {L : LA}
abbrev N_wperiod : List Str := ["_law_waits", "_law_step", "_law_wait"]
theorem sc_wperiod : FnScope N_wperiod ["_law_waits", "_law_step"] (defScope st__law_period) := ⟨rfl, rfl, rfl, by decide +kernel, rfl, by decide +kernel, by decide +kernel⟩
theorem fn_wperiod (T : LX K mg L) {fd : FuncData} (F : Fun K "_law_period" "_law_period" st__law_period L.f__law_period fd) : FnOk P w K mg base CX0 1 L.f__law_period fd ["_law_waits", "_law_step"] (spLPer) := by
  have nd := sc_wperiod.nd
  refine F.ok sc_wperiod (fun vs H Q E h => ?_) (fun cdv A outer S H vs Q E hr h => ?_)
  · obtain ⟨l, ws, st, rfl, _⟩ := h
    rfl
  · obtain ⟨l, ws, st, rfl, hl, s0, s1, ok, ln, k⟩ := h
    refine ⟨_, (pss_cons (ps_for PassesOwn.never rfl (pi_list (pv 0)) (pg_name (i := 2) nd rfl (Or.inl rfl)) (pss_one (ps_set (i := 1) nd rfl (Or.inl rfl) (pe_op op_mulW (pe_op op_fdivW (pe_op op_sub (pe_op op_add (pv 2) (pv 1)) pe_int) (pv 1)) (pv 1)))))
       (pss_one (ps_ret (pv 1)))), ?_⟩
    refine ⟨_, rfl, l, rfl, ⟨_, SqL.of hl⟩, ?_⟩
    refine for_list (K := K) (a := l) (xs := ws.map V.int) (fun i σ Hx => ∃ v2 : Option V, σ = [some (.ref l), some (.int (perW st (ws.take i))), v2] ∧ Hx = H) ⟨none, rfl, rfl⟩ (fun i σ Hx _ ⟨_, _, e⟩ => by rw [e]; exact SqL.of hl) ?_ ?_
    · rintro i x σ Hx hxi ⟨v2, rfl, rfl⟩
      rw [List.getElem?_map] at hxi
      obtain ⟨w', hw, rfl⟩ := Option.map_eq_some_iff.mp hxi
      have okw := ok w' (List.mem_of_getElem? hw)
      have hi := (List.getElem?_eq_some_iff.mp hw).1
      obtain ⟨p1, p2⟩ := pd_bd s0 s1 (ws := ws.take i) (fun u hu => ok u (List.mem_of_mem_take hu)) (by rw [List.length_take]; omega)
      have eP : perW st (ws.take (i + 1)) = (w' + perW st (ws.take i) - 1) / perW st (ws.take i) * perW st (ws.take i) := by
        rw [List.take_add_one, hw, perW_app, rup_div okw.1 p1]
        rfl
      rw [eP]
      generalize perW st (ws.take i) = p at p1 p2 ⊢
      have eB : PdB = 13000000000000000000000000000000 := rfl
      have bb := pd_bb
      have q1 : (w' + p - 1) / p ≤ w' + p - 1 := Int.ediv_le_self _ (by omega)
      have q0 : 0 ≤ (w' + p - 1) / p := Int.ediv_nonneg (by omega) (by omega)
      have bb2 : 14000000000000000000000000000000 ≤ BB := Int.le_trans (PB_of (n := 108) (by decide +kernel)) (PB_le (by decide))
      exact ⟨_, rfl, _, rfl, _, _, rfl, rfl, _, _, rfl, rfl, _, rfl, _, _, rfl, rfl, ⟨by omega, divBB p1 (by omega)⟩, _, rfl, _, _, rfl, rfl, mulBB q0 (by omega) (by omega) (by omega), _, rfl, rfl⟩
    · rintro σ Hx ⟨v2, rfl, rfl⟩
      rw [List.length_map, List.take_length]
      exact ⟨_, rfl, k⟩
theorem ok_wperiod (T : LX K mg L) : Cal P w K mg base "_law_period" 1 L.f__law_period ["_law_waits", "_law_step"] (spLPer) := T.d__law_period.cal fun fd F => fn_wperiod T F
end
/-! ### k40: the law's own ranges -/
def spRngs : Sp := fun vs H Q _ => ∃ (l : Addr) (ns : List Int), vs = [.ref l] ∧ H l = some (.lst (ns.map V.int)) ∧ ns.length ≤ 90000 ∧ ∀ lf ws H', H' lf = some (.lst ws) → Paired (PrI H') ws (ns.foldl (fun F x => addB F x x) []) → Same H H' → H lf = none → Q (.ref lf) H'
theorem rngs_len : ∀ (ns : List Int) (F : List Pr), (ns.foldl (fun F x => addB F x x) F).length ≤ F.length + ns.length
  | [], F => Nat.le_refl _
  | x :: r, F => by
    have a := rngs_len r (addB F x x)
    have b := addB_len F x x
    rw [List.length_cons]
    show (r.foldl (fun F x => addB F x x) (addB F x x)).length ≤ _
    omega
theorem ixN_last {n : Nat} : ixN (n + 1) (-1) = some n := by
  unfold ixN
  rw [if_neg (show ¬ (0 : Int) ≤ -1 by omega)]
  rw [if_pos (by omega)]
  congr 1
  omega
section
variable {P : Program} {w : World} {K : PySem.W.Frag} {mg : Str → Option Value} {base : Heap} {L : LA}
abbrev N_wranges : List Str := ["_law_some", "_law_found", "_law_one_here"]
theorem sc_wranges : FnScope N_wranges ["_law_some"] (defScope st__law_ranges) := ⟨rfl, rfl, rfl, by decide +kernel, rfl, by decide +kernel, by decide +kernel⟩
theorem fn_wranges (T : LX K mg L) {fd : FuncData} (F : Fun K "_law_ranges" "_law_ranges" st__law_ranges L.f__law_ranges fd) : FnOk P w K mg base CX0 1 L.f__law_ranges fd ["_law_some"] (spRngs) := by
  have nd := sc_wranges.nd
  refine F.ok sc_wranges (fun vs H Q E h => ?_) (fun cdv A outer S H vs Q E hr h => ?_)
  · obtain ⟨l, ns, rfl, _⟩ := h
    rfl
  · obtain ⟨l, ns, rfl, hl, ln, k⟩ := h
    refine ⟨_, (pss_cons (ps_set (i := 1) nd rfl (Or.inl rfl) (pe_lst pa_nil))
       (pss_cons (ps_for PassesOwn.never rfl (pi_list (pv 0)) (pg_name (i := 2) nd rfl (Or.inl rfl)) (pss_one (ps_if (PW.pt (pw_and (pt_cmpR (op_neD hr.units) (pv 1) (pe_lst pa_nil) (nomark _)) (pw_and1 (pt_cmpR op_eq (pe_ix (r := rIxT K) ix_tup (pe_ix (r := rIxL K) ix_list (pv 1) (pe_un un_neg pe_int) (fun _ _ => rfl)) pe_int (fun _ _ => rfl)) (pe_op op_sub (pv 2) pe_int) (nomark _))))) (pss_one (ps_asg (pe_tup (pa_cons (pe_ix (r := rIxT K) ix_tup (pe_ix (r := rIxL K) ix_list (pv 1) (pe_un un_neg pe_int) (fun _ _ => rfl)) pe_int (fun _ _ => rfl)) (pa_cons (pv 2) pa_nil))) (pg_sub (pv 1) (pe_un un_neg pe_int) set_list))) (pss_one (ps_expr (pe_bm PySem.F.plainAttrs_list PySem.F.slot_list_append PySem.F.type_list_append mt_append (pv 1) (pa_cons (pe_tup (pa_cons (pv 2) (pa_cons (pv 2) pa_nil))) pa_nil)))))))
       (pss_one (ps_ret (pv 1))))), ?_⟩
    refine ⟨(by show 0 ≤ sizeLine; decide), fun lf hlf => ?_⟩
    have s1 := Same.upd (o := .lst []) hlf
    refine ⟨_, rfl, l, rfl, ⟨_, SqL.of (s1 _ _ hl)⟩, ?_⟩
    refine for_list (K := K) (a := l) (xs := ns.map V.int) (fun i σ Hx => ∃ (ws : List V) (v2 : Option V), σ = [some (.ref l), some (.ref lf), v2] ∧ Hx lf = some (.lst ws) ∧ Paired (PrI Hx) ws ((ns.take i).foldl (fun F x => addB F x x) []) ∧ Same H Hx) ⟨[], none, rfl, upd_same, .nil, s1⟩ (fun i σ Hx _ ⟨_, _, _, _, _, s⟩ => SqL.of (s _ _ hl)) ?_ ?_
    rotate_left
    · rintro σ Hx ⟨ws, v2, rfl, hf, hp, sx⟩
      rw [List.length_map, List.take_length] at hp
      exact ⟨_, rfl, k lf ws Hx hf hp sx hlf⟩
    rintro i x σ Hx hxi ⟨ws, v2, rfl, hf, hp, sx⟩
    rw [List.getElem?_map] at hxi
    obtain ⟨z, hz, rfl⟩ := Option.map_eq_some_iff.mp hxi
    have hi := (List.getElem?_eq_some_iff.mp hz).1
    have wl := paired_len hp
    have bl := rngs_len (ns.take i) []
    rw [List.length_take] at bl
    have bl : ((ns.take i).foldl (fun F x => addB F x x) []).length ≤ 90000 := by
      have : ([] : List Pr).length = 0 := rfl
      omega
    rw [List.take_add_one, hz, List.foldl_append]
    have fin : ∀ {Hy : Hp} {tq : Addr} {a b : Int} {ws0 : List V} {F0 : List Pr}, Same Hx Hy → Hy tq = none → Paired (PrI Hy) ws0 F0 → F0 ++ [(a, b)] = addB ((ns.take i).foldl (fun F x => addB F x x) []) z z →
        (upd Hy tq (.tup [.int a, .int b])) lf = some (.lst ws) ∧ (upd (upd Hy tq (.tup [.int a, .int b])) lf (.lst (ws0 ++ [.ref tq]))) lf = some (.lst (ws0 ++ [.ref tq])) ∧ Paired (PrI (upd (upd Hy tq (.tup [.int a, .int b])) lf (.lst (ws0 ++ [.ref tq])))) (ws0 ++ [.ref tq]) (addB ((ns.take i).foldl (fun F x => addB F x x) []) z z) ∧ Same H (upd (upd Hy tq (.tup [.int a, .int b])) lf (.lst (ws0 ++ [.ref tq]))) := fun {Hy tq a b ws0 F0} h0 h4 h2 h5 => by
      have sq := Same.upd (o := .tup [.int a, .int b]) h4
      have hq := sq _ _ (h0 _ _ hf)
      have n7 := NL.upd (o := .lst (ws0 ++ [.ref tq])) hq
      refine ⟨hq, upd_same, ?_, fun b o e => by rw [upd_ne (ne_of_none e hlf)]; exact sq _ _ (h0 _ _ (sx _ _ e))⟩
      rw [← h5]
      exact paired_app (L2.Paired.mapP h2 fun _ _ z => z.nl ((NL.of sq).trans n7)) (.cons ⟨tq, rfl, n7 _ _ upd_same fun _ z => nomatch z⟩ .nil)
    have eS : ∀ F : List Pr, List.foldl (fun F x => addB F x x) F (some z).toList = addB F z z := fun _ => rfl
    rw [eS]
    obtain ⟨F, hF⟩ : ∃ F, F = (ns.take i).foldl (fun F x => addB F x x) [] := ⟨_, rfl⟩
    rw [← hF] at hp wl bl fin ⊢
    have dF : ∀ {Hy : Hp}, Same Hx Hy → Dp K Hy (.ref lf) (.list (F.map prD)) := fun s => .lst (SqL.of (s _ _ hf)) (pri_dp (L2.Paired.mapP hp fun _ _ z => z.nl (NL.of s)))
    refine ⟨_, rfl, (by show 0 ≤ sizeLine; decide), fun l0 hl0 => ?_⟩
    have s0 := Same.upd (o := .lst []) hl0
    have g0 : (upd Hx l0 (.lst [])) l0 = some (.lst []) := upd_same
    generalize upd Hx l0 (.lst []) = Hy at s0 g0 ⊢
    have hpy : Paired (PrI Hy) ws F := L2.Paired.mapP hp fun _ _ z => z.nl (NL.of s0)
    have hfy := s0 _ _ hf
    have emp : SeqAt.shaped (.list []) = true := sh_prs []
    rcases snoc_cases F with rfl | ⟨G, q, rfl⟩
    · cases hp
      refine ⟨_, _, dF s0, .lst (ds := []) (SqL.of g0) .nil, sh_prs _, emp, false, by simp [PyData.eqv, PyData.eqvAll], iteF (iteF ?_)⟩
      refine ⟨_, rfl, .inl ⟨rfl, _, SqL.of hfy⟩, _, rfl, _, rfl, (by show 2 ≤ sizeLine; decide), fun tq htq => ?_⟩
      obtain ⟨a1, a2, a3, a4⟩ := fin (a := z) (b := z) s0 htq .nil (addB_nil _ _).symm
      exact ⟨lf, _, _, rfl, rfl, a1, small1 (by decide), _, _, rfl, a2, a3, a4⟩
    have fin2 := addB_snoc G q z z
    obtain ⟨wG, v, rfl⟩ : ∃ wG v, ws = wG ++ [v] := by
      rcases List.eq_nil_or_concat ws with h | ⟨a, b, h⟩
      · rw [h, List.length_append] at wl
        exact absurd wl (Nat.succ_ne_zero _).symm
      · exact ⟨a, b, by rw [h, List.concat_eq_append]⟩
    have wgl : wG.length = G.length := by
      rw [List.length_append, List.length_append] at wl
      exact Nat.succ.inj wl
    obtain ⟨q', hq', Tq, rfl, hTq⟩ := paired_get hpy (i := wG.length) (x := v) (by rw [List.getElem?_append_right (Nat.le_refl _), Nat.sub_self]; rfl)
    rw [wgl, List.getElem?_append_right (Nat.le_refl _), Nat.sub_self] at hq'
    obtain rfl : q = q' := Option.some.inj hq'
    have hpG : Paired (PrI Hy) wG G := by
      have := paired_takeB G.length hpy
      rwa [← wgl, List.take_left, wgl, List.take_left] at this
    rw [List.length_append] at bl
    have bl : G.length + 1 ≤ 90000 := bl
    refine ⟨_, _, dF s0, .lst (ds := []) (SqL.of g0) .nil, sh_prs _, emp, true, by cases G <;> simp [PyData.eqv, PyData.eqvAll], iteT ?_⟩
    refine ⟨_, rfl, 1, rfl, lf, _, -1, .ref Tq, rfl, rfl, SqL.of hfy, atI_last _ _, Tq, _, 1, .int q.2, rfl, rfl, SqT.of hTq, rfl, _, rfl, _, _, rfl, rfl, rfl, _, rfl, ?_⟩
    refine ite2 (fun y => ?_) (fun y => ?_)
    · have y : q.2 + 1 = z := by have := V.int.inj (of_decide_eq_true y); omega
      rw [if_pos y] at fin2
      refine ⟨_, rfl, 1, rfl, lf, _, -1, .ref Tq, rfl, rfl, SqL.of hfy, atI_last _ _, Tq, _, 0, .int q.1, rfl, rfl, SqT.of hTq, rfl, _, rfl, (by show 2 ≤ sizeLine; decide), fun tq htq => ?_⟩
      obtain ⟨a1, a2, a3, a4⟩ := fin (a := q.1) (b := z) s0 htq hpG fin2.symm
      refine ⟨_, rfl, 1, rfl, lf, wG ++ [.ref Tq], -1, wG.length, rfl, rfl, a1, by rw [List.length_append]; exact ixN_last, ?_⟩
      rw [List.set_append_right _ _ (Nat.le_refl _), Nat.sub_self]
      exact ⟨_, _, rfl, a2, a3, a4⟩
    · have y : ¬ q.2 + 1 = z := fun e => y (decide_eq_true (congrArg V.int (by omega)))
      rw [if_neg y] at fin2
      refine ⟨_, rfl, .inl ⟨rfl, _, SqL.of hfy⟩, _, rfl, _, rfl, (by show 2 ≤ sizeLine; decide), fun tq htq => ?_⟩
      obtain ⟨a1, a2, a3, a4⟩ := fin (a := z) (b := z) s0 htq hpy fin2.symm
      exact ⟨lf, _, _, rfl, rfl, a1, small1 (by rw [List.length_append]; show wG.length + 1 ≤ 100000; omega), _, _, rfl, a2, a3, a4⟩
theorem ok_wranges (T : LX K mg L) : Cal P w K mg base "_law_ranges" 1 L.f__law_ranges ["_law_some"] (spRngs) := T.d__law_ranges.cal fun fd F => fn_wranges T F
end
/-! ### k40: what the law asks, as numbers -/
theorem rup_in {u x i : Int} (u1 : 1 ≤ u) (i0 : 0 ≤ i) (h1 : i * u < x) (h2 : x ≤ u + i * u) : rupI x u = u + i * u := by
  obtain ⟨a, b, c⟩ := st_char (d := x) u1
  have e1 : stepsUp x u ≤ i + 1 := c (i + 1) (by omega) (by rw [Int.add_mul, Int.one_mul]; omega)
  have e2 : i < stepsUp x u := by
    by_cases z : stepsUp x u ≤ i
    · have := Int.mul_le_mul_of_nonneg_right z (show 0 ≤ u by omega)
      omega
    · omega
  unfold rupI
  rw [show stepsUp x u = i + 1 by omega, Int.add_mul, Int.one_mul]
  omega
def unT (ts : List Tri) (st : Int) (k : Nat) : Int := perW st (wtsT (ts.take k))
def prT (ts : List Tri) (st : Int) (k : Nat) (x : Int) : Int := perW (rupI x (unT ts st k)) (wtsT (ts.drop (k + 1)))
theorem un_1 {ts : List Tri} {st : Int} (s1 : 1 ≤ st) (ok : ∀ t ∈ ts, OkT t) (k : Nat) : 1 ≤ unT ts st k := perW_1 s1 fun w hw => (wts_ok (fun b hb => ok b (List.mem_of_mem_take hb)) w hw).1
theorem prT_is (ts : List Tri) (st : Int) (k : Nat) (x : Int) : perW st ((wtsT ts).take k ++ [x] ++ (wtsT ts).drop (k + 1)) = prT ts st k x := by
  rw [perW_app, perW_app]
  unfold prT unT wtsT
  rw [List.map_take, List.map_drop]
  rfl
theorem prT_now {ts : List Tri} {st : Int} {k : Nat} {t : Tri} (ht : ts[k]? = some t) : prT ts st k t.2.1 = perW st (wtsT ts) := by
  obtain ⟨hk, e⟩ := List.getElem?_eq_some_iff.mp ht
  rw [← prT_is]
  congr 1
  have e0 : (wtsT ts)[k]? = some t.2.1 := by
    unfold wtsT
    rw [List.getElem?_map, ht]
    rfl
  obtain ⟨kl, e2⟩ := List.getElem?_eq_some_iff.mp e0
  rw [← e2, List.take_append_getElem, List.take_append_drop]
def hT (ts : List Tri) (st : Int) (k : Nat) (x : Int) : Bool := decide (prT ts st k x > perW st (wtsT ts))
theorem due_is {ts : List Tri} {st : Int} {k : Nat} {t : Tri} (s1 : 1 ≤ st) (ok : ∀ t ∈ ts, OkT t) (ht : ts[k]? = some t) : Rg (hT ts st k) (t.2.1.toNat - 1) = Bg (hbT ts st k) (unT ts st k) (stepsUp t.2.1 (unT ts st k) - 1).toNat := by
  have u1 := un_1 s1 ok k
  have w1 := (ok t (List.mem_of_getElem? ht)).2.2.1
  have now := prT_now (st := st) ht
  have hh : ∀ (i : Nat) (x : Int), (i : Int) * unT ts st k < x → x ≤ unT ts st k + (i : Int) * unT ts st k → hT ts st k x = hbT ts st k (unT ts st k + (i : Int) * unT ts st k) := fun i x a b => by
    unfold hT prT hbT
    rw [rup_in u1 (by omega) a b]
  obtain ⟨m1, r1, r2, r3, _⟩ := rup_is w1 u1
  have er : rupI t.2.1 (unT ts st k) = stepsUp t.2.1 (unT ts st k) * unT ts st k := rfl
  generalize hm : stepsUp t.2.1 (unT ts st k) = m at *
  obtain ⟨j, rfl⟩ : ∃ j : Nat, m = (j : Int) + 1 := ⟨(m - 1).toNat, by omega⟩
  have hn : hbT ts st k (unT ts st k + (j : Int) * unT ts st k) = false := by
    unfold prT at now
    rw [er, Int.add_mul, Int.one_mul, Int.add_comm] at now
    unfold hbT
    rw [now]
    exact decide_eq_false (by omega)
  rw [er, Int.add_mul, Int.one_mul] at r1 r3
  obtain ⟨un, hun⟩ : ∃ un : Nat, unT ts st k = (un : Int) := ⟨(unT ts st k).toNat, by omega⟩
  rw [hun] at hh hn r1 r3 u1 ⊢
  rw [show ((j : Int) + 1 - 1).toNat = j by omega]
  have c1 : ((j * un : Nat) : Int) = (j : Int) * un := by push_cast; rfl
  refine rg_all (u := un) (w := t.2.1.toNat) (j := j) (by omega) (by omega) (by omega) (fun i _ x a b => hh i x a b) hn
/-- all times a number -/
def grT (c : Int) (ts : List Tri) : List Tri := ts.map fun t => (t.1, t.2.1 * c, t.2.2)
theorem wts_gr (c : Int) (ts : List Tri) : wtsT (grT c ts) = (wtsT ts).map (· * c) := by
  unfold wtsT grT
  rw [List.map_map, List.map_map]
  rfl
theorem gr_take (c : Int) (ts : List Tri) (k : Nat) : (grT c ts).take k = grT c (ts.take k) := by unfold grT; rw [List.map_take]
theorem gr_drop (c : Int) (ts : List Tri) (k : Nat) : (grT c ts).drop k = grT c (ts.drop k) := by unfold grT; rw [List.map_drop]
theorem gr_get {c : Int} {ts : List Tri} {k : Nat} {t : Tri} (ht : ts[k]? = some t) : (grT c ts)[k]? = some (t.1, t.2.1 * c, t.2.2) := by
  unfold grT
  rw [List.getElem?_map, ht]
  rfl
theorem per_gr {c : Int} (c1 : 1 ≤ c) {ts : List Tri} {st : Int} (s1 : 1 ≤ st) (ok : ∀ t ∈ ts, OkT t) : perW (st * c) (wtsT (grT c ts)) = perW st (wtsT ts) * c := by
  rw [wts_gr]
  exact perW_sc c1 s1 fun w hw => (wts_ok ok w hw).1
theorem un_gr {c : Int} (c1 : 1 ≤ c) {ts : List Tri} {st : Int} (s1 : 1 ≤ st) (ok : ∀ t ∈ ts, OkT t) (k : Nat) : unT (grT c ts) (st * c) k = unT ts st k * c := by
  unfold unT
  rw [gr_take]
  exact per_gr c1 s1 fun b hb => ok b (List.mem_of_mem_take hb)
theorem due_gr {c : Int} (c1 : 1 ≤ c) {ts : List Tri} {st : Int} {k : Nat} {w : Int} (s1 : 1 ≤ st) (ok : ∀ t ∈ ts, OkT t) : Bg (hbT (grT c ts) (st * c) k) (unT (grT c ts) (st * c) k) (stepsUp (w * c) (unT (grT c ts) (st * c) k) - 1).toNat = (Bg (hbT ts st k) (unT ts st k) (stepsUp w (unT ts st k) - 1).toNat).map (scP c) := by
  have u1 := un_1 s1 ok k
  rw [un_gr c1 s1 ok, su_mul u1 c1]
  refine Bg_map c1 _ fun i _ => ?_
  have p1 : 1 ≤ unT ts st k + (i : Int) * unT ts st k := by
    have := Int.mul_nonneg (show (0 : Int) ≤ (i : Nat) by omega) (show 0 ≤ unT ts st k by omega)
    omega
  unfold hbT
  rw [per_gr c1 s1 ok, gr_drop, show unT ts st k * c + (i : Int) * (unT ts st k * c) = (unT ts st k + (i : Int) * unT ts st k) * c by rw [Int.add_mul, Int.mul_assoc], per_gr c1 p1 fun b hb => ok b (List.mem_of_mem_drop hb), decide_eq_decide]
  constructor
  · intro h
    exact Int.lt_of_mul_lt_mul_right h (by omega)
  · intro h
    exact Int.mul_lt_mul_of_pos_right h (by omega)
/-- the best raise -/
def trP (ts : List Tri) (st : Int) (k : Nat) (x : Int) : Pr := (prT ts st k x, x)
theorem top_is {u w h : Int} (u1 : 1 ≤ u) (w1 : 1 ≤ w) (wh : w ≤ h) : ∃ n : Nat, rupI h u = rupI w u + (n : Int) * u ∧ (n : Int) ≤ h - w := by
  obtain ⟨a1, a2, a3⟩ := st_char (d := w) u1
  obtain ⟨b1, b2, b3⟩ := st_char (d := h) u1
  have le := a3 _ b1 (by omega)
  obtain ⟨n, hn⟩ : ∃ n : Nat, stepsUp h u = stepsUp w u + n := ⟨(stepsUp h u - stepsUp w u).toNat, by omega⟩
  obtain ⟨_, r1, _, _, _⟩ := rup_is w1 u1
  obtain ⟨_, _, _, r4, _⟩ := rup_is (w := h) (p := u) (by omega) u1
  have e : rupI h u = rupI w u + (n : Int) * u := by
    unfold rupI
    rw [hn, Int.add_mul]
  refine ⟨n, e, ?_⟩
  by_cases c : (n : Int) ≤ h - w
  · exact c
  · have := Int.mul_le_mul_of_nonneg_right (show h - w + 1 ≤ n by omega) (show 0 ≤ u by omega)
    have q := Int.mul_le_mul_of_nonneg_left u1 (show 0 ≤ h - w by omega)
    rw [Int.add_mul, Int.one_mul] at this
    omega
theorem br_min {ts : List Tri} {st : Int} {k n : Nat} {w h : Int} {x : Pr} {xs : List Pr} (u1 : 1 ≤ unT ts st k) (w1 : 1 ≤ w) (wh : w ≤ h) (en : rupI h (unT ts st k) = rupI w (unT ts st k) + (n : Int) * unT ts st k)
    (e : (List.range (h + 1 - w).toNat).map (fun (i : Nat) => trP ts st k (w + i)) = x :: xs) : minP x xs = minP (perW (rupI w (unT ts st k)) (wtsT (ts.drop (k + 1))), w) (brL (wtsT (ts.drop (k + 1))) (unT ts st k) (rupI w (unT ts st k)) n) := by
  obtain ⟨m1, r1, r2, r3, _⟩ := rup_is w1 u1
  obtain ⟨_, q1, q2, q3, _⟩ := rup_is (w := h) (p := unT ts st k) (by omega) u1
  have mem : ∀ z, w ≤ z → z ≤ h → trP ts st k z ∈ x :: xs := fun z z1 z2 => by
    rw [← e]
    exact List.mem_map.mpr ⟨(z - w).toNat, List.mem_range.mpr (by omega), by rw [show w + ((z - w).toNat : Int) = z by omega]⟩
  have eo : rupI w (unT ts st k) = stepsUp w (unT ts st k) * unT ts st k := rfl
  refine minP_eq (fun b hb => ?_) fun a ha => ?_
  · rcases List.mem_cons.mp hb with rfl | hb
    · exact mem w (Int.le_refl _) wh
    · obtain ⟨i, hi, rfl⟩ := List.mem_map.mp hb
      have il := List.mem_range.mp hi
      have i0 := Int.mul_nonneg (show (0 : Int) ≤ (i : Nat) by omega) (show 0 ≤ unT ts st k by omega)
      have iu := Int.mul_le_mul_of_nonneg_right (show (i : Int) + 1 ≤ n by omega) (show 0 ≤ unT ts st k by omega)
      rw [Int.add_mul, Int.one_mul] at iu
      have ee : (stepsUp w (unT ts st k) + (i : Int)) * unT ts st k = rupI w (unT ts st k) + (i : Int) * unT ts st k := by rw [Int.add_mul, eo]
      have er : rupI (rupI w (unT ts st k) + unT ts st k + (i : Int) * unT ts st k - unT ts st k + 1) (unT ts st k) = rupI w (unT ts st k) + unT ts st k + (i : Int) * unT ts st k := by
        rw [rup_in (i := stepsUp w (unT ts st k) + i) u1 (by omega) (by omega) (by omega)]
        omega
      have := mem (rupI w (unT ts st k) + unT ts st k + (i : Int) * unT ts st k - unT ts st k + 1) (by omega) (by omega)
      unfold trP prT at this
      rw [er] at this
      exact this
  · rw [← e] at ha
    obtain ⟨i, hi, rfl⟩ := List.mem_map.mp ha
    have il := List.mem_range.mp hi
    obtain ⟨z, hz⟩ : ∃ z, z = w + (i : Int) := ⟨_, rfl⟩
    rw [← hz]
    obtain ⟨_, s1, s2, s3, _⟩ := rup_is (w := z) (p := unT ts st k) (by omega) u1
    obtain ⟨a1, a2, a3⟩ := st_char (d := w) u1
    obtain ⟨b1, b2, b3⟩ := st_char (d := z) u1
    obtain ⟨c1, c2, c3⟩ := st_char (d := h) u1
    have l1 := a3 _ b1 (by omega)
    have l2 := b3 _ c1 (by omega)
    have ez : rupI z (unT ts st k) = stepsUp z (unT ts st k) * unT ts st k := rfl
    by_cases c : stepsUp z (unT ts st k) = stepsUp w (unT ts st k)
    · refine ⟨_, List.mem_cons_self .., (ltP_not _ _).mpr (.inr ⟨?_, by show w ≤ z; omega⟩)⟩
      show perW (rupI z (unT ts st k)) _ = perW (rupI w (unT ts st k)) _
      rw [ez, c, ← eo]
    · obtain ⟨j, hj⟩ : ∃ j : Nat, stepsUp z (unT ts st k) = stepsUp w (unT ts st k) + 1 + j := ⟨(stepsUp z (unT ts st k) - stepsUp w (unT ts st k) - 1).toNat, by omega⟩
      have hn : stepsUp h (unT ts st k) = stepsUp w (unT ts st k) + n := by
        have : stepsUp h (unT ts st k) * unT ts st k = (stepsUp w (unT ts st k) + n) * unT ts st k := by
          rw [Int.add_mul]
          exact en
        exact Int.eq_of_mul_eq_mul_right (by omega) this
      have ej : rupI z (unT ts st k) = rupI w (unT ts st k) + unT ts st k + (j : Int) * unT ts st k := by
        rw [ez, hj, Int.add_mul, Int.add_mul, Int.one_mul, eo]
      refine ⟨_, List.mem_cons_of_mem _ (List.mem_map.mpr ⟨j, List.mem_range.mpr (by omega), rfl⟩), (ltP_not _ _).mpr (.inr ⟨?_, ?_⟩)⟩
      · show perW (rupI z (unT ts st k)) _ = perW (rupI w (unT ts st k) + unT ts st k + (j : Int) * unT ts st k) _
        rw [ej]
      · show rupI w (unT ts st k) + unT ts st k + (j : Int) * unT ts st k - unT ts st k + 1 ≤ z
        omega
theorem br_gr {c : Int} (c1 : 1 ≤ c) {ts : List Tri} {st : Int} {k n : Nat} {w : Int} (s1 : 1 ≤ st) (w1 : 1 ≤ w) (ok : ∀ t ∈ ts, OkT t) :
    (minP (perW (rupI (w * c) (unT (grT c ts) (st * c) k)) (wtsT ((grT c ts).drop (k + 1))), w * c) (brL (wtsT ((grT c ts).drop (k + 1))) (unT (grT c ts) (st * c) k) (rupI (w * c) (unT (grT c ts) (st * c) k)) n)).1 = (minP (perW (rupI w (unT ts st k)) (wtsT (ts.drop (k + 1))), w) (brL (wtsT (ts.drop (k + 1))) (unT ts st k) (rupI w (unT ts st k)) n)).1 * c := by
  have u1 := un_1 s1 ok k
  have okd : ∀ t ∈ ts.drop (k + 1), OkT t := fun b hb => ok b (List.mem_of_mem_drop hb)
  obtain ⟨_, _, r2, _, _⟩ := rup_is w1 u1
  rw [un_gr c1 s1 ok, rup_mul u1 c1, gr_drop]
  refine minP_one c1 ?_
  rw [List.map_cons, List.map_cons]
  show perW (rupI w (unT ts st k) * c) _ :: _ = perW (rupI w (unT ts st k)) _ * c :: _
  rw [per_gr c1 (by omega) okd]
  congr 1
  unfold brL
  rw [List.map_map, List.map_map]
  refine List.map_congr_left fun i _ => ?_
  have i0 := Int.mul_nonneg (show (0 : Int) ≤ (i : Nat) by omega) (show 0 ≤ unT ts st k by omega)
  show perW (rupI w (unT ts st k) * c + unT ts st k * c + (i : Int) * (unT ts st k * c)) (wtsT (grT c (ts.drop (k + 1)))) = perW (rupI w (unT ts st k) + unT ts st k + (i : Int) * unT ts st k) (wtsT (ts.drop (k + 1))) * c
  rw [← Int.mul_assoc, ← Int.add_mul, ← Int.add_mul, per_gr c1 (by omega) okd]
/-! ### k40: the law -/
def spLaw (K : PySem.W.Frag) : Sp := fun vs H Q _ => ∃ (a : Addr) (ns : List Int), vs = [.ref a] ∧ SqL K H a (ns.map V.int) ∧ ns.length ≤ 63 ∧ ∀ H', Q (.bl true) H'
theorem bg_mem {hb : Int → Bool} {u : Int} (u1 : 1 ≤ u) : ∀ (n : Nat), ∀ p ∈ Bg hb u n, 1 ≤ p.1 ∧ 0 ≤ p.2 ∧ p.2 ≤ (n : Int) * u ∧ p.1 ≤ (n : Int) * u
  | 0, p, h => by cases h
  | n + 1, p, h => by
    have n0 := Int.mul_nonneg (show (0 : Int) ≤ (n : Nat) by omega) (show 0 ≤ u by omega)
    have e : ((n + 1 : Nat) : Int) * u = (n : Int) * u + u := by rw [show ((n + 1 : Nat) : Int) = (n : Int) + 1 by omega, Int.add_mul, Int.one_mul]
    have ih := bg_mem (hb := hb) u1 n
    rw [e]
    rw [Bg_succ] at h
    by_cases c : hb (u + (n : Int) * u) = true
    · rw [if_pos c] at h
      rcases snoc_cases (Bg hb u n) with hF | ⟨G, q, hF⟩
      · rw [hF, addB_nil] at h
        rw [List.mem_singleton.mp h]
        show 1 ≤ (n : Int) * u + 1 ∧ 0 ≤ u + (n : Int) * u ∧ u + (n : Int) * u ≤ (n : Int) * u + u ∧ (n : Int) * u + 1 ≤ (n : Int) * u + u
        omega
      · rw [hF] at ih
        rw [hF, addB_snoc] at h
        have iq := ih q (List.mem_append.mpr (.inr (List.mem_singleton.mpr rfl)))
        by_cases d : q.2 + 1 = (n : Int) * u + 1
        · rw [if_pos d] at h
          rcases List.mem_append.mp h with h | h
          · have := ih p (List.mem_append.mpr (.inl h))
            omega
          · rw [List.mem_singleton.mp h]
            show 1 ≤ q.1 ∧ 0 ≤ u + (n : Int) * u ∧ u + (n : Int) * u ≤ (n : Int) * u + u ∧ q.1 ≤ (n : Int) * u + u
            omega
        · rw [if_neg d] at h
          rcases List.mem_append.mp h with h | h
          · have := ih p h
            omega
          · rw [List.mem_singleton.mp h]
            show 1 ≤ (n : Int) * u + 1 ∧ 0 ≤ u + (n : Int) * u ∧ u + (n : Int) * u ≤ (n : Int) * u + u ∧ (n : Int) * u + 1 ≤ (n : Int) * u + u
            omega
    · rw [if_neg c] at h
      have := ih p h
      omega
section
variable {P : Program} {w : World} {K : PySem.W.Frag} {mg : Str → Option Value} {base : Heap} {L : LA}
abbrev N_law : List Str := ["_law_script", "_law_cell", "_law_source", "_law_step", "_law_specs_here", "_law_lane", "_law_waits", "_law_now", "_law_more", "_law_great", "_law_k", "_law_wait", "_law_tried", "_law_due", "_law_far", "_law_high", "_law_best", "_law_spec", "_law_first", "_law_last", "_law_period_here"]
theorem sc_law : FnScope N_law ["_law_script"] (defScope st_law) := ⟨rfl, rfl, rfl, by decide +kernel, rfl, by decide +kernel, by decide +kernel⟩
theorem ok_law {aLaw : Addr} {fd : FuncData} (F : Fun K "law" "law" st_law aLaw fd) (T : LX K mg L) : FnOk P w K mg base CX0 12 aLaw fd ["_law_script"] (spLaw K) := by
  have G_wsourceof := ok_wsourceof (P := P) (w := w) (base := base) T
  have G_wspecs := ok_wspecs (P := P) (w := w) (base := base) T
  have G_wperiod := ok_wperiod (P := P) (w := w) (base := base) T
  have G_wcellat := ok_wcellat (P := P) (w := w) (base := base) T
  have G_wnext := ok_wnext (P := P) (w := w) (base := base) T
  have G_wone := ok_wone (P := P) (w := w) (base := base) T
  have G_wranges := ok_wranges (P := P) (w := w) (base := base) T
  have G_harmfullowerings := ok_harmfullowerings (P := P) (w := w) (base := base) T
  have G_bestraise := ok_bestraise (P := P) (w := w) (base := base) T
  have nd := sc_law.nd
  refine F.ok sc_law (fun vs H Q E h => ?_) (fun cdv A outer S H vs Q E hr h => ?_)
  · obtain ⟨a, ns, rfl, _⟩ := h
    rfl
  · obtain ⟨a, ns, rfl, hS, ln, k⟩ := h
    refine ⟨_, (pss_cons (ps_for PassesOwn.never rfl (pi_list (pe_op op_cat (pe_lst (pa_cons (pe_c G_wcellat (hr.mono (by decide)) rfl (pa_cons (pv 0) (pa_cons pe_int pa_nil))) pa_nil)) (pe_slice (r := rSlL K) sl_list (pv 0) (po_some pe_int) (po_some pe_int)))) (pg_name (i := 1) nd rfl (Or.inl rfl)) (pss_cons (ps_set (i := 2) nd rfl (Or.inl rfl) (pe_c G_wsourceof (hr.mono (by decide)) rfl (pa_cons (pv 1) pa_nil)))
       (pss_cons (ps_set (i := 3) nd rfl (Or.inr rfl) (pe_op op_add pe_int (pe_c G_wnext (hr.mono (by decide)) rfl (pa_cons (pv 2) (pa_cons pe_int pa_nil)))))
       (pss_cons (ps_set (i := 4) nd rfl (Or.inl rfl) (pe_c G_wspecs (hr.mono (by decide)) rfl (pa_cons (pv 2) (pa_cons pe_int (pa_cons (pe_c G_wone (hr.mono (by decide)) rfl (pa_cons (pv 2) (pa_cons (pe_lst (pa_cons pe_int (pa_cons pe_int (pa_cons pe_int (pa_cons pe_int pa_nil))))) pa_nil))) (pa_cons pe_int pa_nil))))))
       (pss_cons (ps_set (i := 5) nd rfl (Or.inl rfl) (pe_mkRow T (hr.mono (by decide)) rfl (pa_cons (pv 4) (pa_cons (pv 3) pa_nil))))
       (pss_cons (ps_set (i := 6) nd rfl (Or.inr rfl) (pe_lc (own := [("_law_spec", 17)]) (g := gName 17) (tt := tYes) rfl nd (pi_list (pv 4)) (blkOk_by (own := [("_law_spec", 17)]) (N := N_law) (sc := defScope st_law) (by decide +kernel)) (fun _ _ _ _ _ => pg_name (i := 17) nd rfl (Or.inl rfl)) (fun _ _ _ _ _ => pts_nil) (fun _ _ _ _ _ => (pe_ix (r := rIxT K) ix_tup (pv 17) pe_int (fun _ _ => rfl)))))
       (pss_cons (ps_set (i := 7) nd rfl (Or.inr rfl) (pe_c G_wperiod (hr.mono (by decide)) rfl (pa_cons (pv 6) (pa_cons (pv 3) pa_nil))))
       (pss_cons (ps_set (i := 8) nd rfl (Or.inr rfl) (pe_op op_add pe_int (pe_c G_wnext (hr.mono (by decide)) rfl (pa_cons (pv 2) (pa_cons (pe_op op_pow pe_int pe_int) pa_nil)))))
       (pss_cons (ps_set (i := 9) nd rfl (Or.inl rfl) (pe_mkRow T (hr.mono (by decide)) rfl (pa_cons (pe_lc (own := [("_law_spec", 17)]) (g := gName 17) (tt := tYes) rfl nd (pi_list (pv 4)) (blkOk_by (own := [("_law_spec", 17)]) (N := N_law) (sc := defScope st_law) (by decide +kernel)) (fun _ _ _ _ _ => pg_name (i := 17) nd rfl (Or.inl rfl)) (fun _ _ _ _ _ => pts_nil) (fun _ _ _ _ _ => (pe_tup (pa_cons (pe_ix (r := rIxT K) ix_tup (pv 17) pe_int (fun _ _ => rfl)) (pa_cons (pe_op op_mulW (pe_ix (r := rIxT K) ix_tup (pv 17) pe_int (fun _ _ => rfl)) (pv 8)) (pa_cons (pe_ix (r := rIxT K) ix_tup (pv 17) pe_int (fun _ _ => rfl)) pa_nil)))))) (pa_cons (pe_op op_mulW (pv 3) (pv 8)) pa_nil))))
       (pss_one (ps_for PassesOwn.never rfl (pi_range1 rfl T.b_range (pa_cons (pe_callB call_len_seq (by rfl) T.b_len PySem.boot_len (pa_cons (pv 4) pa_nil)) pa_nil)) (pg_name (i := 10) nd rfl (Or.inr rfl)) (pss_cons (ps_setLc (i := 12) (own := [("_law_wait", 11)]) (g := gName 11) (tt := tYes) rfl nd rfl rfl (sw_true rfl rfl rfl (by decide +kernel)) (pi_range2 rfl T.b_range (pa_cons pe_int (pa_cons (pe_ix (r := rIxL K) ix_list (pv 6) (pv 10) (fun _ _ => rfl)) pa_nil))) (blkOk_by (own := [("_law_wait", 11)]) (N := N_law) (sc := defScope st_law) (by decide +kernel)) (fun _ _ _ _ _ => pg_name (i := 11) nd rfl (Or.inl rfl)) (fun _ _ _ _ _ => pts_nil) (fun _ _ _ _ _ => (pe_tup (pa_cons (pe_c G_wperiod (hr.mono (by decide)) rfl (pa_cons (pe_op op_cat (pe_op op_cat (pe_slice (r := rSlL K) sl_list (pv 6) po_none (po_some (pv 10))) (pe_lst (pa_cons (pv 11) pa_nil))) (pe_slice (r := rSlL K) sl_list (pv 6) (po_some (pe_op op_add (pv 10) pe_int)) po_none)) (pa_cons (pv 3) pa_nil))) (pa_cons (pv 11) pa_nil)))))
       (pss_cons (ps_set (i := 13) nd rfl (Or.inl rfl) (pe_c G_wranges (hr.mono (by decide)) rfl (pa_cons (pe_lc (own := [("_law_period_here", 20), ("_law_wait", 11)]) (g := gTup K 2 (gCons (gName 20) (gCons (gName 11) (gNil)))) rfl nd (pi_list (pv 12)) (blkOk_by (own := [("_law_period_here", 20), ("_law_wait", 11)]) (N := N_law) (sc := defScope st_law) (by decide +kernel)) (fun _ _ _ _ _ => pg_tup rfl (pgs_cons (pg_name (i := 20) nd rfl (Or.inl rfl)) (pgs_cons (pg_name (i := 11) nd rfl (Or.inl rfl)) pgs_nil))) (fun _ _ _ _ _ => pts_one (pt_cmpR op_gt (pv 20) (pv 7) (nomark _))) (fun _ _ _ _ _ => (pv 11))) pa_nil)))
       (pss_cons (ps_if (PW.pt (pw_or (pt_cmpR (op_neD hr.units) (pe_c G_harmfullowerings (hr.mono (by decide)) rfl (pa_cons (pv 5) (pa_cons (pv 10) pa_nil))) (pv 13) (nomark _)) (pw_or1 (pt_cmpR (op_neD hr.units) (pe_kr T.d_harmful_lowerings (fun fd F => fn_harmfullowerings (P := P) (w := w) (base := base) T F) (fun _ _ _ _ _ _ us hl => by match us, hl with | [_, _], _ => rfl) (hr.mono (by decide)) rfl (pk_cons (pv 10) (pk_cons (pv 5) pk_nil))) (pv 13) (nomark _))))) (pss_one (ps_ret pe_bl)) pss_nil)
       (pss_cons (ps_setLc (i := 14) (own := [("_law_first", 18), ("_law_last", 19)]) (g := gTup K 2 (gCons (gName 18) (gCons (gName 19) (gNil)))) (tt := tYes) rfl nd rfl rfl (sw_true rfl rfl rfl (by decide +kernel)) (pi_list (pv 13)) (blkOk_by (own := [("_law_first", 18), ("_law_last", 19)]) (N := N_law) (sc := defScope st_law) (by decide +kernel)) (fun _ _ _ _ _ => pg_tup rfl (pgs_cons (pg_name (i := 18) nd rfl (Or.inl rfl)) (pgs_cons (pg_name (i := 19) nd rfl (Or.inl rfl)) pgs_nil))) (fun _ _ _ _ _ => pts_nil) (fun _ _ _ _ _ => (pe_tup (pa_cons (pe_op op_add (pe_op op_mulW (pe_op op_sub (pv 18) pe_int) (pv 8)) pe_int) (pa_cons (pe_op op_mulW (pv 19) (pv 8)) pa_nil)))))
       (pss_cons (ps_if (pt_cmpR (op_neD hr.units) (pe_c G_harmfullowerings (hr.mono (by decide)) rfl (pa_cons (pv 9) (pa_cons (pv 10) pa_nil))) (pv 14) (nomark _)) (pss_one (ps_ret pe_bl)) pss_nil)
       (pss_cons (ps_set (i := 15) nd rfl (Or.inl rfl) (pe_op op_add (pe_ix (r := rIxL K) ix_list (pv 6) (pv 10) (fun _ _ => rfl)) (pe_c G_wnext (hr.mono (by decide)) rfl (pa_cons (pv 2) (pa_cons (pe_c G_wone (hr.mono (by decide)) rfl (pa_cons (pv 2) (pa_cons (pe_lst (pa_cons pe_int (pa_cons pe_int (pa_cons pe_int pa_nil)))) pa_nil))) pa_nil)))))
       (pss_cons (ps_set (i := 12) nd rfl (Or.inl rfl) (pe_lst pa_nil))
       (pss_cons (ps_for PassesOwn.never rfl (pi_range2 rfl T.b_range (pa_cons (pe_ix (r := rIxL K) ix_list (pv 6) (pv 10) (fun _ _ => rfl)) (pa_cons (pe_op op_add (pv 15) pe_int) pa_nil))) (pg_name (i := 11) nd rfl (Or.inl rfl)) (pss_one (ps_expr (pe_bm PySem.F.plainAttrs_list PySem.F.slot_list_append PySem.F.type_list_append mt_append (pv 12) (pa_cons (pe_tup (pa_cons (pe_c G_wperiod (hr.mono (by decide)) rfl (pa_cons (pe_op op_cat (pe_op op_cat (pe_slice (r := rSlL K) sl_list (pv 6) po_none (po_some (pv 10))) (pe_lst (pa_cons (pv 11) pa_nil))) (pe_slice (r := rSlL K) sl_list (pv 6) (po_some (pe_op op_add (pv 10) pe_int)) po_none)) (pa_cons (pv 3) pa_nil))) (pa_cons (pv 11) pa_nil))) pa_nil)))))
       (pss_cons (ps_set (i := 16) nd rfl (Or.inl rfl) (pe_callB (call_minD hr.units) (by rfl) T.b_min (by decide +kernel) (pa_cons (pv 12) pa_nil)))
       (pss_cons (ps_if (PW.pt (pw_or (pt_cmpR (op_neD hr.units) (pe_c G_bestraise (hr.mono (by decide)) rfl (pa_cons (pv 5) (pa_cons (pv 10) (pa_cons (pv 15) pa_nil)))) (pv 16) (nomark _)) (pw_or1 (pt_cmpR (op_neD hr.units) (pe_kr T.d_best_raise (fun fd F => fn_bestraise (P := P) (w := w) (base := base) T F) (fun _ _ _ _ _ _ us hl => by match us, hl with | [_, _, _], _ => rfl) (hr.mono (by decide)) rfl (pk_cons (pv 15) (pk_cons (pv 10) (pk_cons (pv 5) pk_nil)))) (pv 16) (nomark _))))) (pss_one (ps_ret pe_bl)) pss_nil)
       (pss_cons (ps_if (pt_cmpR op_ne (pe_ix (r := rIxT K) ix_tup (pe_c G_bestraise (hr.mono (by decide)) rfl (pa_cons (pv 9) (pa_cons (pv 10) (pa_cons (pe_op op_mulW (pv 15) (pv 8)) pa_nil)))) pe_int (fun _ _ => rfl)) (pe_op op_mulW (pe_ix (r := rIxT K) ix_tup (pv 16) pe_int (fun _ _ => rfl)) (pv 8)) (nomark _)) (pss_one (ps_ret pe_bl)) pss_nil)
       (pss_cons (ps_expr (pe_bm PySem.F.plainAttrs_list PySem.F.slot_list_append PySem.F.type_list_append mt_append (pe_c G_harmfullowerings (hr.mono (by decide)) rfl (pa_cons (pv 5) (pa_cons (pv 10) pa_nil))) (pa_cons pe_non pa_nil)))
       (pss_one (ps_if (pt_cmpR (op_neD hr.units) (pe_c G_harmfullowerings (hr.mono (by decide)) rfl (pa_cons (pv 5) (pa_cons (pv 10) pa_nil))) (pv 13) (nomark _)) (pss_one (ps_ret pe_bl)) pss_nil)))))))))))))))))))))))))
       (pss_one (ps_ret pe_bl))), ?_⟩
    refine ⟨_, rfl, a, ns, 0, rfl, hS, Int.le_refl _, fun z => ⟨(by show 1 ≤ sizeLine; decide), fun l1 hl1 => ?_⟩⟩
    have z1 : Same H (upd H l1 (.lst [.int z])) := Same.upd hl1
    refine ⟨_, rfl, 1, rfl, 5, rfl, a, ns.map V.int, rfl, z1.seq hS, fun l2 hl2 => ?_⟩
    refine ⟨l1, l2, _, _, rfl, rfl, (Same.upd hl2) _ _ upd_same, upd_same, small2 (by have := cutV_length (ns.map V.int) (some 1) (some 5); rw [List.length_map] at this; show 1 + _ ≤ 100000; omega), fun l3 hl3 => ?_⟩
    have items : ∀ v ∈ [V.int z] ++ cutV (ns.map V.int) (some 1) (some 5), ∃ c, v = .int c := fun v hv => by
      rcases List.mem_append.mp hv with hv | hv
      · exact ⟨z, by simpa using hv⟩
      · obtain ⟨c, _, e⟩ := List.mem_map.mp (List.mem_of_mem_drop (List.mem_of_mem_take hv))
        exact ⟨c, e.symm⟩
    have sI : Same H (upd (upd (upd H l1 (.lst [.int z])) l2 (.lst (cutV (ns.map V.int) (some 1) (some 5)))) l3 (.lst ([.int z] ++ cutV (ns.map V.int) (some 1) (some 5)))) := (z1.trans (Same.upd hl2)).trans (Same.upd hl3)
    generalize hit : [V.int z] ++ cutV (ns.map V.int) (some 1) (some 5) = its at items sI ⊢
    refine ⟨l3, rfl, ⟨_, SqL.of upd_same⟩, ?_⟩
    refine for_list (K := K) (a := l3) (xs := its) (fun i σ H2 => ∃ v1 v2 v3 v4 v5 v6 v7 v8 v9 v10 v11 v12 v13 v14 v15 v16 v17 v18 v19 v20 : Option V, σ = [some (.ref a), v1, v2, v3, v4, v5, v6, v7, v8, v9, v10, v11, v12, v13, v14, v15, v16, v17, v18, v19, v20] ∧ H2 l3 = some (.lst its))
      ⟨none, none, none, none, none, none, none, none, none, none, none, none, none, none, none, none, none, none, none, none, rfl, by rw [upd_same]⟩ (fun i σ H2 _ ⟨_, _, _, _, _, _, _, _, _, _, _, _, _, _, _, _, _, _, _, _, _, e⟩ => SqL.of e) ?_ ?_
    rotate_left
    · rintro σ H2 ⟨_, _, _, _, _, _, _, _, _, _, _, _, _, _, _, _, _, _, _, _, rfl, _⟩
      exact k H2
    rintro ic v σ H0 hi ⟨v1, v2, v3, v4, v5, v6, v7, v8, v9, v10, v11, v12, v13, v14, v15, v16, v17, v18, v19, v20, rfl, hL⟩
    obtain ⟨cc, rfl⟩ := items v (List.mem_of_getElem? hi)
    refine ⟨_, rfl, cc, rfl, fun s H1 hs0 y1 src1 => ?_⟩
    have nls : l3 ≠ s := ne_of_none hL hs0
    have hL1 := y1 _ _ hL
    have p26 : (10 : Int) ^ (26 : Int).toNat = 100000000000000000000000000 := by decide +kernel
    -- the step
    refine ⟨_, rfl, s, 3, _, rfl, by decide, by decide, src1, by omega, fun q H2 q0 q1 src2 k2 => ⟨_, _, rfl, rfl, ?_⟩⟩
    obtain ⟨st, hst⟩ : ∃ st, st = 1 + q := ⟨_, rfl⟩
    show gName 3 (.int (1 + q)) _ _ _
    rw [← hst]
    have st1 : 1 ≤ st ∧ st ≤ 3 := by omega
    -- the breakers
    refine ⟨_, rfl, ?_⟩
    refine choice_gen (P := P) (w := w) (mg := mg) (a := s) (n := _) (ns := [40, 40, 40, 300]) rfl src2 (by decide) (fun R h => h) (by simp) (by simp) fun mB HB hmB srcB kB => ?_
    have mB1 : 3 ≤ mB ∧ mB ≤ 300 := by
      simp only [List.mem_cons, List.mem_nil_iff, or_false] at hmB
      omega
    refine ⟨s, _, 5, mB, 3, rfl, srcB, by omega, by decide, by decide, mB1.1, by omega, by decide, by decide, fun la xa ts H3 hla hba okt okf lts src3 k3 nla => ?_⟩
    obtain ⟨yB, hyB⟩ := srcB.has
    have nlas : la ≠ s := (ne_of_none hyB nla).symm
    have t5 : ts.length ≤ 5 := by omega
    have xal := hba.len
    obtain ⟨y3, hy3⟩ := src3.has
    -- the row
    refine ⟨_, rfl, _, rfl, ?_⟩
    refine row_made (xs := xa) (ts := ts) (st := st) (ph := 0) hla hba okt (by omega) ⟨by omega, by omega, by decide, by decide⟩ fun lane B H4 RL s4 nlane => ?_
    have src4 := src3.same s4
    have hla4 := s4 _ _ hla
    have hba4 := hba.nl (NL.of s4)
    have hL4 := s4 _ _ (((k2.trans kB).trans k3) _ _ nls hL1)
    clear src1 src2 srcB hL1 hL y1 hs0 hS
    -- the waits
    refine ⟨_, rfl, la, rfl, ⟨_, SqL.of hla4⟩, fun lw hlw => ?_⟩
    refine lc_list (K := K) (a := la) (xs := xa) (fun j Hx => Hx lw = some (.lst ((wtsT (ts.take j)).map V.int)) ∧ Same H4 Hx) ⟨upd_same, Same.upd hlw⟩ (fun j Hx _ ⟨_, s⟩ => SqL.of (s _ _ hla4)) ?_ ?_
    · rintro j x Hx hxj ⟨hDx, sx⟩
      obtain ⟨t, ht, c, rfl, hc⟩ := paired_get hba4 hxj
      have hj := (List.getElem?_eq_some_iff.mp ht).1
      refine ⟨rfl, tYes_of ⟨_, rfl, c, _, 1, .int t.2.1, rfl, rfl, SqT.of (sx _ _ hc), rfl, _, hDx, small1 (by unfold wtsT; rw [List.length_map, List.length_map, List.length_take]; omega), ?_, fun b u e => by rw [upd_ne (ne_of_none e hlw)]; exact sx _ _ e⟩⟩
      rw [upd_same]
      unfold wtsT
      rw [List.take_add_one, ht, List.map_append, List.map_append]
      rfl
    rintro H5 ⟨hlw5, s5⟩
    rw [xal, List.take_length] at hlw5
    have wl : (wtsT ts).length = ts.length := List.length_map ..
    have wok := wts_ok okt
    have nlws : lw ≠ s := by
      obtain ⟨y4, hy4⟩ := src4.has
      exact (ne_of_none hy4 hlw).symm
    have src5 := src4.same s5
    -- the period
    refine ⟨_, rfl, _, rfl, lw, wtsT ts, st, rfl, hlw5, by omega, by omega, wok, by omega, ?_⟩
    -- the factor
    refine ⟨_, rfl, _, _, rfl, rfl, ⟨by decide, by decide, by decide⟩, s, _, _, rfl, (by show (0 : Int) < (10 : Int) ^ (26 : Int).toNat; rw [p26]; decide), (by show ((10 : Int) ^ (26 : Int).toNat).natAbs < _; rw [p26]; decide +kernel), src5, by omega, fun qc H6 qc0 qc1 src6 k6 => ⟨_, _, rfl, rfl, ?_⟩⟩
    rw [p26] at qc1
    obtain ⟨c, hc⟩ : ∃ c, c = 1 + qc := ⟨_, rfl⟩
    show gName 8 (.int (1 + qc)) _ _ _
    rw [← hc]
    have c1 : 1 ≤ c ∧ c ≤ 100000000000000000000000000 := by omega
    obtain ⟨y5, hy5⟩ := src5.has
    have n56 := Kp.nl k6 hy5
    have hla6 := k6 _ _ nlas (s5 _ _ hla4)
    have hba6 := (hba4.nl (NL.of s5)).nl n56
    have hlw6 := k6 _ _ nlws hlw5
    have RL6 := (RL.nl (NL.of s5)).nl n56
    have hL6 := k6 _ _ nls (s5 _ _ hL4)
    have okf2 : ∀ t ∈ ts, t.2.1 ≤ 300 := fun t ht => by have := (okf t ht).1; omega
    have cmw : ∀ {x : Int}, 0 ≤ x → x ≤ 10000 → CMulW x c := fun {x} x0 x1 => wide_mul (a := 20) (b := 100) (Nat.lt_of_le_of_lt (show x.natAbs ≤ 10000 by omega) (by decide)) (Nat.lt_of_le_of_lt (show c.natAbs ≤ 100000000000000000000000000 by omega) (by decide)) (by decide) (by decide) (by decide)
    have okg : ∀ t ∈ grT c ts, OkT t := fun t ht => by
      obtain ⟨u, hu, rfl⟩ := List.mem_map.mp ht
      have o := okt u hu
      have m1 := Int.mul_le_mul (okf2 u hu) c1.2 (by omega) (by decide)
      have m2 := Int.mul_le_mul o.2.2.1 c1.1 (by decide) (by have := o.2.2.1; omega)
      exact ⟨o.1, o.2.1, by show 1 ≤ u.2.1 * c; omega, by show u.2.1 * c ≤ _; omega, o.2.2.2.2⟩
    -- the great row
    refine ⟨_, rfl, la, rfl, ⟨_, SqL.of hla6⟩, fun lg hlg => ?_⟩
    refine lc_list (K := K) (a := la) (xs := xa) (fun j Hx => ∃ ys, Hx lg = some (.lst ys) ∧ Brs Hx ys (grT c (ts.take j)) ∧ Same H6 Hx) ⟨[], upd_same, .nil, Same.upd hlg⟩ (fun j Hx _ ⟨_, _, _, s⟩ => SqL.of (s _ _ hla6)) ?_ ?_
    · rintro j x Hx hxj ⟨ys, hDx, hy, sx⟩
      obtain ⟨t, ht, cq, rfl, hcq⟩ := paired_get hba6 hxj
      have hj := (List.getElem?_eq_some_iff.mp ht).1
      have tm := List.mem_of_getElem? ht
      have yl := hy.len
      have gl : (grT c (ts.take j)).length ≤ 5 := by unfold grT; rw [List.length_map, List.length_take]; omega
      have hcx := sx _ _ hcq
      refine ⟨rfl, tYes_of ⟨_, rfl, cq, _, 0, .int t.1, rfl, rfl, SqT.of hcx, rfl, _, rfl, cq, _, 1, .int t.2.1, rfl, rfl, SqT.of hcx, rfl, _, rfl, _, _, rfl, rfl, cmw (by have := (okt t tm).2.2.1; omega) (by have := okf2 t tm; omega), _, rfl, cq, _, 2, .int t.2.2, rfl, rfl, SqT.of hcx, rfl, (by show 3 ≤ sizeLine; decide), fun tq htq => ?_⟩⟩
      have sq := Same.upd (o := .tup [.int t.1, .int (t.2.1 * c), .int t.2.2]) htq
      have gq : (upd Hx tq (.tup [.int t.1, .int (t.2.1 * c), .int t.2.2])) tq = some (.tup [.int t.1, .int (t.2.1 * c), .int t.2.2]) := upd_same
      have hDq := sq _ _ hDx
      have n5 := NL.upd (o := .lst (ys ++ [.ref tq])) hDq
      refine ⟨ys, hDq, small1 (by omega), ys ++ [.ref tq], upd_same, ?_, fun b u e => by rw [upd_ne (ne_of_none e hlg)]; exact sq _ _ (sx _ _ e)⟩
      have e : grT c (ts.take (j + 1)) = grT c (ts.take j) ++ [(t.1, t.2.1 * c, t.2.2)] := by
        unfold grT
        rw [List.take_add_one, ht, List.map_append]
        rfl
      rw [e]
      exact Brs.app ((hy.nl (NL.of sq)).nl n5) (.cons ⟨tq, rfl, n5 _ _ gq fun _ z => nomatch z⟩ .nil)
    rintro H7 ⟨yg, hlg7, hyg, s7⟩
    rw [xal, List.take_length] at hyg
    have glen : (grT c ts).length = ts.length := List.length_map ..
    have sc2 := Int.mul_le_mul st1.2 c1.2 (by omega) (by decide)
    have sc1 := Int.mul_le_mul st1.1 c1.1 (by decide) (by omega)
    refine ⟨_, rfl, _, rfl, _, _, rfl, rfl, cmw (by omega) (by omega), ?_⟩
    refine row_made (xs := yg) (ts := grT c ts) (st := st * c) (ph := 0) hlg7 hyg okg (by omega) ⟨by omega, by omega, by decide, by decide⟩ fun great BG H8 RG s8 ngr => ?_
    have s68 := s7.trans s8
    have RL8 := RL6.nl (NL.of s68)
    have hla8 := s68 _ _ hla6
    have hlw8 := s68 _ _ hlw6
    have hL8 := s68 _ _ hL6
    have src8 := (src6.same s68).mono (show _ ≤ 100000 by omega)
    obtain ⟨y8, hy8⟩ := src8.has
    clear src3 src4 src5 src6 k2 kB k3 k6 s4 s5 s7 s8 s68 hla hba hla4 hba4 hla6 hlw5 hlw6 hL4 hL6 RL RL6 hba6 n56 hlw
    refine ⟨_, rfl, la, _, rfl, .inl (SqL.of hla8), _, rfl, by omega, by omega, ?_⟩
    refine for_range (lo := 0) (n := ((xa.length : Int)).toNat) (fun i σ Hx => ∃ v10 v11 v12 v13 v14 v15 v16 v17 v18 v19 v20 : Option V, σ = [some (.ref a), some (.int cc), some (.ref s), some (.int st), some (.ref la), some (.ref lane), some (.ref lw), some (.int (perW st (wtsT ts))), some (.int c), some (.ref great), v10, v11, v12, v13, v14, v15, v16, v17, v18, v19, v20] ∧ Src Hx s (100000 + 2202 * i) ∧ Kp s H8 Hx)
      ⟨_, _, _, _, _, _, _, _, _, _, _, rfl, src8, Kp.refl⟩ ?_ ?_
    rotate_left
    · rintro σ Hx ⟨_, _, _, _, _, _, _, _, _, _, _, rfl, _, kx⟩
      exact ⟨_, _, _, _, _, _, _, _, _, _, _, _, _, _, _, _, _, _, _, _, rfl, kx _ _ nls hL8⟩
    rintro i σ Hx hi ⟨v10, v11, v12, v13, v14, v15, v16, v17, v18, v19, v20, rfl, srcx, kx⟩
    rw [Int.toNat_natCast] at hi
    have it : i < ts.length := by omega
    have nx := Kp.nl kx hy8
    have RLx := RL8.nl nx
    have RGx := RG.nl nx
    have hlwx := kx _ _ nlws hlw8
    have hLx := kx _ _ nls hL8
    obtain ⟨t, ht⟩ : ∃ t, ts[i]? = some t := ⟨_, List.getElem?_eq_getElem it⟩
    have tm := List.mem_of_getElem? ht
    have okT := okt t tm
    have t1 := okT.2.2.1
    have t3 := okf2 t tm
    have u1 := un_1 st1.1 okt i
    have wk3 : ∀ w ∈ wtsT (ts.take i), 1 ≤ w ∧ w ≤ 300 := fun w hw => by
      obtain ⟨v, hv, rfl⟩ := List.mem_map.mp hw
      have vm := List.mem_of_mem_take hv
      exact ⟨(okt v vm).2.2.1, okf2 v vm⟩
    have ub : unT ts st i ≤ 2000 := by
      have p2 := perW_bd (M := 300) (B := 3) st1.1 st1.2 wk3
      have wl5 : (wtsT (ts.take i)).length ≤ 5 := by unfold wtsT; rw [List.length_map, List.length_take]; omega
      unfold unT
      omega
    obtain ⟨m1, r1, r2, r3, _⟩ := rup_is t1 u1
    have ml := su_le t1 u1
    have hwt : ((wtsT ts).map V.int)[i]? = some (.int t.2.1) := by
      rw [List.getElem?_map]
      unfold wtsT
      rw [List.getElem?_map, ht]
      rfl
    have mixOk : ∀ x : Int, 1 ≤ x → x ≤ 1000 → ∀ w ∈ (wtsT ts).take i ++ [x] ++ (wtsT ts).drop (i + 1), 1 ≤ w ∧ w ≤ 1000000000000000000000000000000 := fun x x1 x2 w hw => by
      rcases List.mem_append.mp hw with hw | hw
      · rcases List.mem_append.mp hw with hw | hw
        · exact wok w (List.mem_of_mem_take hw)
        · rw [List.mem_singleton.mp hw]
          omega
      · exact wok w (List.mem_of_mem_drop hw)
    have mixLen : ∀ x : Int, ((wtsT ts).take i ++ [x] ++ (wtsT ts).drop (i + 1)).length ≤ 12 := fun x => by
      rw [List.length_append, List.length_append, List.length_take, List.length_drop]
      show _ + 1 + _ ≤ 12
      omega
    rw [Int.zero_add]
    -- all lower waits
    refine ⟨_, rfl, _, rfl, lw, _, (i : Int), .int t.2.1, rfl, rfl, SqL.of hlwx, atI_nat hwt, 1, t.2.1, rfl, ⟨by decide, by decide, by omega, by omega⟩, fun D hD => ?_⟩
    refine lc_range (lo := 1) (n := (t.2.1 - 1).toNat) (fun j Hw => ∃ tw, Hw D = some (.lst tw) ∧ Paired (PrI Hw) tw ((List.range j).map fun (i' : Nat) => trP ts st i (1 + i')) ∧ Same Hx Hw) ⟨[], upd_same, .nil, Same.upd hD⟩ ?_ ?_
    · rintro j Hw hj ⟨tw, hDw, htw, sw⟩
      have tl := paired_len htw
      rw [List.length_map, List.length_range] at tl
      refine ⟨rfl, tYes_of ?_⟩
      refine ⟨_, rfl, _, rfl, (i : Int), rfl, lw, _, rfl, SqL.of (sw _ _ hlwx), fun b1 hb1 => ?_⟩
      rw [cut_pre (show i ≤ ((wtsT ts).map V.int).length by rw [List.length_map]; omega)]
      have w1 := Same.upd (o := .lst (((wtsT ts).map V.int).take i)) hb1
      have f1 : (upd Hw b1 (.lst (((wtsT ts).map V.int).take i))) b1 = some (.lst (((wtsT ts).map V.int).take i)) := upd_same
      refine ⟨_, rfl, (by show 1 ≤ sizeLine; decide), fun b2 hb2 => ?_⟩
      have w2 := Same.upd (o := .lst [.int (1 + (j : Int))]) hb2
      have f2 : (upd (upd Hw b1 (.lst (((wtsT ts).map V.int).take i))) b2 (.lst [.int (1 + (j : Int))])) b2 = some (.lst [.int (1 + (j : Int))]) := upd_same
      refine ⟨b1, b2, _, _, rfl, rfl, w2 _ _ f1, f2, small2 (by rw [List.length_take, List.length_map]; show _ + 1 ≤ 100000; omega), fun b3 hb3 => ?_⟩
      have w3 := Same.upd (o := .lst (((wtsT ts).map V.int).take i ++ [.int (1 + (j : Int))])) hb3
      have f3 : (upd (upd (upd Hw b1 (.lst (((wtsT ts).map V.int).take i))) b2 (.lst [.int (1 + (j : Int))])) b3 (.lst (((wtsT ts).map V.int).take i ++ [.int (1 + (j : Int))]))) b3 = some (.lst (((wtsT ts).map V.int).take i ++ [.int (1 + (j : Int))])) := upd_same
      have w13 := w1.trans (w2.trans w3)
      show ∃ _, _
      generalize upd (upd (upd Hw b1 (.lst (((wtsT ts).map V.int).take i))) b2 (.lst [.int (1 + (j : Int))])) b3 (.lst (((wtsT ts).map V.int).take i ++ [.int (1 + (j : Int))])) = Hy at w13 f3 ⊢
      refine ⟨_, rfl, _, rfl, _, _, rfl, rfl, (i : Int) + 1, rfl, lw, _, rfl, SqL.of (w13 _ _ (sw _ _ hlwx)), fun b4 hb4 => ?_⟩
      rw [show (i : Int) + 1 = ((i + 1 : Nat) : Int) by omega, cut_suf (show i + 1 ≤ ((wtsT ts).map V.int).length by rw [List.length_map]; omega)]
      have w4 := Same.upd (o := .lst (((wtsT ts).map V.int).drop (i + 1))) hb4
      refine ⟨b3, b4, _, _, rfl, rfl, w4 _ _ f3, upd_same, small2 (by rw [List.length_append, List.length_take, List.length_drop, List.length_map]; show _ + 1 + _ ≤ 100000; omega), fun b5 hb5 => ?_⟩
      have w5 := Same.upd (o := .lst (((wtsT ts).map V.int).take i ++ [.int (1 + (j : Int))] ++ ((wtsT ts).map V.int).drop (i + 1))) hb5
      have f5 : (upd (upd Hy b4 (.lst (((wtsT ts).map V.int).drop (i + 1)))) b5 (.lst (((wtsT ts).map V.int).take i ++ [.int (1 + (j : Int))] ++ ((wtsT ts).map V.int).drop (i + 1)))) b5 = some (.lst (((wtsT ts).take i ++ [(1 + (j : Int))] ++ (wtsT ts).drop (i + 1)).map V.int)) := by
        rw [upd_same, List.map_append, List.map_append, List.map_take, List.map_drop]
        rfl
      have w15 := w13.trans (w4.trans w5)
      generalize upd (upd Hy b4 (.lst (((wtsT ts).map V.int).drop (i + 1)))) b5 (.lst (((wtsT ts).map V.int).take i ++ [.int (1 + (j : Int))] ++ ((wtsT ts).map V.int).drop (i + 1))) = Hz at w15 f5 ⊢
      refine ⟨_, rfl, b5, (wtsT ts).take i ++ [(1 + (j : Int))] ++ (wtsT ts).drop (i + 1), st, rfl, f5, by omega, by omega, mixOk (1 + (j : Int)) (by omega) (by omega), mixLen (1 + (j : Int)), ?_⟩
      rw [prT_is]
      refine ⟨_, rfl, (by show 2 ≤ sizeLine; decide), fun tq htq => ?_⟩
      have sq := Same.upd (o := .tup [.int (prT ts st i (1 + (j : Int))), .int (1 + (j : Int))]) htq
      have gq : (upd Hz tq (.tup [.int (prT ts st i (1 + (j : Int))), .int (1 + (j : Int))])) tq = some (.tup [.int (prT ts st i (1 + (j : Int))), .int (1 + (j : Int))]) := upd_same
      have swq := w15.trans sq
      have hDq := swq _ _ hDw
      have n7 := NL.upd (o := .lst (tw ++ [.ref tq])) hDq
      refine ⟨tw, hDq, small1 (by omega), tw ++ [.ref tq], upd_same, ?_, fun b o e => by rw [upd_ne (ne_of_none e hD)]; exact swq _ _ (sw _ _ e)⟩
      rw [List.range_succ, List.map_append]
      exact paired_app (L2.Paired.mapP htw fun _ _ z => z.nl ((NL.of swq).trans n7)) (.cons ⟨tq, rfl, n7 _ _ gq fun _ z => nomatch z⟩ .nil)
    rintro H9 ⟨tw, hD9, htw, s9⟩
    have twl := paired_len htw
    rw [List.length_map, List.length_range] at twl
    -- the harmful ones
    refine ⟨_, rfl, D, rfl, ⟨_, SqL.of hD9⟩, fun D2 hD2 => ?_⟩
    refine lc_list (K := K) (a := D) (xs := tw) (fun j Hw => Hw D2 = some (.lst ((((List.range j).map fun (i' : Nat) => 1 + (i' : Int)).filter (hT ts st i)).map V.int)) ∧ Same H9 Hw) ⟨upd_same, Same.upd hD2⟩ (fun j Hw _ ⟨_, s⟩ => SqL.of (s _ _ hD9)) ?_ ?_
    · rintro j x Hw hxj ⟨hDw, sw⟩
      obtain ⟨p, hp, Tp, rfl, hTp⟩ := paired_get htw hxj
      have hj := (List.getElem?_eq_some_iff.mp hp).1
      rw [List.length_map, List.length_range] at hj
      rw [List.getElem?_map, List.getElem?_range hj] at hp
      obtain rfl := Option.some.inj hp
      have fl := List.length_filter_le (hT ts st i) ((List.range j).map fun (i' : Nat) => 1 + (i' : Int))
      rw [List.length_map, List.length_range] at fl
      refine ⟨Tp, _, rfl, SqT.of (sw _ _ hTp), rfl, _, _, rfl, _, _, rfl, rfl, rfl, _, rfl, _, rfl, _, _, rfl, rfl, _, rfl, ?_⟩
      have eD : decide (perW st (wtsT ts) < prT ts st i (1 + (j : Int))) = hT ts st i (1 + (j : Int)) := rfl
      show if decide (perW st (wtsT ts) < prT ts st i (1 + (j : Int))) = true then _ else _
      rw [eD, List.range_succ, List.map_append, List.filter_append, List.map_append]
      refine ite2 (fun z => ?_) (fun z => ?_)
      · rw [show (List.map (fun (i' : Nat) => 1 + (i' : Int)) [j]).filter (hT ts st i) = [1 + (j : Int)] by rw [List.map_cons, List.map_nil, List.filter_cons, if_pos z]; rfl]
        exact ⟨_, rfl, _, hDw, small1 (by rw [List.length_map]; omega), by rw [upd_same]; rfl, fun b o e => by rw [upd_ne (ne_of_none e hD2)]; exact sw _ _ e⟩
      · rw [show (List.map (fun (i' : Nat) => 1 + (i' : Int)) [j]).filter (hT ts st i) = [] by rw [List.map_cons, List.map_nil, List.filter_cons, if_neg z]; rfl, List.map_nil, List.append_nil]
        exact ⟨hDw, sw⟩
    rintro H10 ⟨hD10, s10⟩
    rw [twl] at hD10
    have fl := List.length_filter_le (hT ts st i) ((List.range (t.2.1 - 1).toNat).map fun (i' : Nat) => 1 + (i' : Int))
    rw [List.length_map, List.length_range] at fl
    refine ⟨D2, _, rfl, hD10, by omega, fun ld wd H11 hld hwd s11 nld => ?_⟩
    have eDue : (((List.range (t.2.1 - 1).toNat).map fun (i' : Nat) => 1 + (i' : Int)).filter (hT ts st i)).foldl (fun F x => addB F x x) [] = Bg (hbT ts st i) (unT ts st i) (stepsUp t.2.1 (unT ts st i) - 1).toNat := by
      rw [rg_list, show (t.2.1 - 1).toNat = t.2.1.toNat - 1 by omega]
      exact due_is st1.1 okt ht
    rw [eDue] at hwd
    have bgm := bg_mem (hb := hbT ts st i) u1 (stepsUp t.2.1 (unT ts st i) - 1).toNat
    have bgl := Bg_len (hbT ts st i) (unT ts st i) (stepsUp t.2.1 (unT ts st i) - 1).toNat
    have bgu : (((stepsUp t.2.1 (unT ts st i) - 1).toNat : Nat) : Int) * unT ts st i ≤ 10000 := by
      have e : rupI t.2.1 (unT ts st i) = stepsUp t.2.1 (unT ts st i) * unT ts st i := rfl
      rw [show (((stepsUp t.2.1 (unT ts st i) - 1).toNat : Nat) : Int) = stepsUp t.2.1 (unT ts st i) - 1 by omega, Int.sub_mul, Int.one_mul]
      omega
    obtain ⟨BL, hBL⟩ : ∃ BL, BL = Bg (hbT ts st i) (unT ts st i) (stepsUp t.2.1 (unT ts st i) - 1).toNat := ⟨_, rfl⟩
    have due2 := hwd
    rw [← hBL] at due2 bgm bgl
    have dueD : ∀ {Hw : Hp}, Same H11 Hw → Dp K Hw (.ref ld) (.list (BL.map prD)) := fun s => .lst (SqL.of (s _ _ hld)) (pri_dp (L2.Paired.mapP due2 fun _ _ z => z.nl (NL.of s)))
    have s911 := s9.trans (s10.trans s11)
    have RL11 := RLx.nl (NL.of s911)
    have RG11 := RGx.nl (NL.of s911)
    have pB1 : rupI t.2.1 (perW st (wtsT (ts.take i))) ≤ 1000000000000000000000000000000 := by
      show rupI t.2.1 (unT ts st i) ≤ _
      omega
    have mB1' : stepsUp t.2.1 (perW st (wtsT (ts.take i))) ≤ 2000 := by
      show stepsUp t.2.1 (unT ts st i) ≤ _
      omega
    -- as the program tells them
    refine ⟨_, rfl, _, rfl, lane, B, xa, ts, st, 0, t, i, rfl, RL11, ht, pB1, mB1', fun l4 w4' H12 hl4 hw4 s12 n4 => ⟨_, rfl, ?_⟩⟩
    have hw4 : Paired (PrI H12) w4' BL := by rw [hBL]; exact hw4
    refine ⟨_, _, .lst (SqL.of hl4) (pri_dp hw4), dueD s12, sh_prs _, sh_prs _, false, by rw [PyData.eqv, eq_prs]; rfl, iteF ?_⟩
    refine ⟨_, rfl, _, rfl, rfl, rfl, lane, B, xa, ts, st, 0, t, i, rfl, RL11.nl (NL.of s12), ht, pB1, mB1', fun l5 w5' H13 hl5 hw5 s13 n5 => ⟨_, rfl, ?_⟩⟩
    have hw5 : Paired (PrI H13) w5' BL := by rw [hBL]; exact hw5
    refine ⟨_, _, .lst (SqL.of hl5) (pri_dp hw5), dueD (s12.trans s13), sh_prs _, sh_prs _, false, by rw [PyData.eqv, eq_prs]; rfl, iteF ?_⟩
    have s1113 := s12.trans s13
    -- the great ranges
    have hld13 := s1113 _ _ hld
    have due13 : Paired (PrI H13) wd BL := L2.Paired.mapP due2 fun _ _ z => z.nl (NL.of s1113)
    refine ⟨_, rfl, ld, rfl, ⟨_, SqL.of hld13⟩, fun D3 hD3 => ?_⟩
    refine lc_list (K := K) (a := ld) (xs := wd) (fun j Hw => ∃ fw, Hw D3 = some (.lst fw) ∧ Paired (PrI Hw) fw ((BL.take j).map (scP c)) ∧ Same H13 Hw) ⟨[], upd_same, .nil, Same.upd hD3⟩ (fun j Hw _ ⟨_, _, _, s⟩ => SqL.of (s _ _ hld13)) ?_ ?_
    · rintro j x Hw hxj ⟨fw, hDw, hfw, sw⟩
      obtain ⟨p, hp, Tp, rfl, hTp⟩ := paired_get due13 hxj
      have hj := (List.getElem?_eq_some_iff.mp hp).1
      obtain ⟨b1, b2, b3, b4⟩ := bgm p (List.mem_of_getElem? hp)
      have fwl := paired_len hfw
      rw [List.length_map, List.length_take] at fwl
      refine ⟨Tp, _, rfl, SqT.of (sw _ _ hTp), rfl, _, _, rfl, _, _, rfl, rfl, rfl, tYes_of ⟨_, rfl, _, _, rfl, rfl, _, rfl, _, _, rfl, rfl, cmw (by omega) (by omega), _, _, rfl, rfl, _, rfl, _, rfl, _, _, rfl, rfl, cmw (by omega) (by omega), (by show 2 ≤ sizeLine; decide), fun tq htq => ?_⟩⟩
      have sq := Same.upd (o := .tup [.int ((p.1 - 1) * c + 1), .int (p.2 * c)]) htq
      have gq : (upd Hw tq (.tup [.int ((p.1 - 1) * c + 1), .int (p.2 * c)])) tq = some (.tup [.int ((p.1 - 1) * c + 1), .int (p.2 * c)]) := upd_same
      have hDq := sq _ _ hDw
      have n7 := NL.upd (o := .lst (fw ++ [.ref tq])) hDq
      refine ⟨fw, hDq, small1 (by omega), fw ++ [.ref tq], upd_same, ?_, fun b o e => by rw [upd_ne (ne_of_none e hD3)]; exact sq _ _ (sw _ _ e)⟩
      rw [List.take_add_one, hp, List.map_append]
      exact paired_app (L2.Paired.mapP hfw fun _ _ z => z.nl ((NL.of sq).trans n7)) (.cons ⟨tq, rfl, n7 _ _ gq fun _ z => nomatch z⟩ .nil)
    rintro H14 ⟨fw, hD14, hfw, s14⟩
    rw [paired_len due2, List.take_length] at hfw
    have s1114 := s1113.trans s14
    have s914 := s911.trans s1114
    have ug := un_gr (c := c) c1.1 st1.1 okt i
    have uge : perW (st * c) (wtsT ((grT c ts).take i)) = unT ts st i * c := ug
    have pBg : rupI (t.2.1 * c) (perW (st * c) (wtsT ((grT c ts).take i))) ≤ 1000000000000000000000000000000 := by
      rw [uge, rup_mul u1 c1.1]
      have := Int.mul_le_mul (show rupI t.2.1 (unT ts st i) ≤ 3000 by omega) c1.2 (by omega) (by decide)
      omega
    have mBg : stepsUp (t.2.1 * c) (perW (st * c) (wtsT ((grT c ts).take i))) ≤ 2000 := by
      rw [uge, su_mul u1 c1.1]
      omega
    have RG14 := RG11.nl (NL.of s1114)
    refine ⟨_, rfl, _, rfl, great, BG, yg, grT c ts, st * c, 0, (t.1, t.2.1 * c, t.2.2), i, rfl, RG14, gr_get ht, pBg, mBg, fun l6 w6' H15 hl6 hw6 s15 n6 => ⟨_, rfl, ?_⟩⟩
    have hw6 : Paired (PrI H15) w6' (BL.map (scP c)) := by
      have := due_gr (w := t.2.1) (k := i) (st := st) c1.1 st1.1 okt
      rw [hBL, ← this]
      exact hw6
    refine ⟨_, _, .lst (SqL.of hl6) (pri_dp hw6), .lst (SqL.of (s15 _ _ hD14)) (pri_dp (L2.Paired.mapP hfw fun _ _ z => z.nl (NL.of s15))), sh_prs _, sh_prs _, false, by rw [PyData.eqv, eq_prs]; rfl, iteF ?_⟩
    have s1115 := s1114.trans s15
    have s915 := s914.trans s15
    -- the top
    have src15 := srcx.same s915
    refine ⟨_, rfl, _, rfl, lw, _, (i : Int), .int t.2.1, rfl, rfl, SqL.of (s915 _ _ hlwx), atI_nat hwt, ?_⟩
    refine draw_gen (P := P) (w := w) (mg := mg) (a := s) (n := _) (ns := [60, 60, 400]) (hi := 400) rfl src15 (by omega) (fun R h => h) (by simp) (by simp) (fun m hm => ?_) (by decide +kernel) fun dh H16 dh0 dh1 _ src16 k16 => ⟨_, _, rfl, rfl, ?_⟩
    · simp only [List.mem_cons, List.mem_nil_iff, or_false] at hm
      rcases hm with rfl | rfl | rfl <;> exact ⟨by decide, by decide⟩
    obtain ⟨h, hh⟩ : ∃ h, h = t.2.1 + dh := ⟨_, rfl⟩
    show gName 15 (.int (t.2.1 + dh)) _ _ _
    rw [← hh]
    have h1 : t.2.1 ≤ h ∧ h ≤ 700 := by omega
    obtain ⟨yf, hyf⟩ := src15.has
    have n16 := Kp.nl k16 hyf
    have kx16 : Kp s Hx H16 := (Kp.of s915).trans k16
    have hlw16 := kx16 _ _ nlws hlwx
    have RL16 := (RL11.nl (NL.of s1115)).nl n16
    have RG16 := (RG14.nl (NL.of s15)).nl n16
    have nlds : ld ≠ s := by
      obtain ⟨yy, hyy⟩ := ((srcx.same s9).same s10).has
      exact (ne_of_none hyy nld).symm
    have hld16 := k16 _ _ nlds (s1115 _ _ hld)
    have due16 : Paired (PrI H16) wd BL := L2.Paired.mapP due2 fun _ _ z => (z.nl (NL.of s1115)).nl n16
    -- all greater waits
    refine ⟨(by show 0 ≤ sizeLine; decide), fun lt hlt => ?_⟩
    have sA := Same.upd (o := .lst []) hlt
    have gA : (upd H16 lt (.lst [])) lt = some (.lst []) := upd_same
    generalize upd H16 lt (.lst []) = H17 at sA gA ⊢
    refine ⟨_, rfl, _, rfl, lw, _, (i : Int), .int t.2.1, rfl, rfl, SqL.of (sA _ _ hlw16), atI_nat hwt, _, rfl, _, _, rfl, rfl, t.2.1, h + 1, rfl, ⟨by omega, by omega, by omega, by omega⟩, ?_⟩
    refine for_range (lo := t.2.1) (n := (h + 1 - t.2.1).toNat) (fun j σ Hw => ∃ (tw : List V) (v11 v16 v17 v18 v19 v20 : Option V), σ = [some (.ref a), some (.int cc), some (.ref s), some (.int st), some (.ref la), some (.ref lane), some (.ref lw), some (.int (perW st (wtsT ts))), some (.int c), some (.ref great), some (.int (i : Int)), v11, some (.ref lt), some (.ref ld), some (.ref D3), some (.int h), v16, v17, v18, v19, v20] ∧ Hw lt = some (.lst tw) ∧ Paired (PrI Hw) tw ((List.range j).map fun (i' : Nat) => trP ts st i (t.2.1 + i')) ∧ Same H16 Hw)
      ⟨[], _, _, _, _, _, _, rfl, gA, .nil, sA⟩ ?_ ?_
    · rintro j σ Hw hj ⟨tw2, v11, v16, v17, v18, v19, v20, rfl, hDw, htw2, sw⟩
      have tl := paired_len htw2
      rw [List.length_map, List.length_range] at tl
      refine ⟨_, rfl, .inl ⟨rfl, _, SqL.of hDw⟩, ?_⟩
      refine ⟨_, rfl, _, rfl, (i : Int), rfl, lw, _, rfl, SqL.of (sw _ _ hlw16), fun b1 hb1 => ?_⟩
      rw [cut_pre (show i ≤ ((wtsT ts).map V.int).length by rw [List.length_map]; omega)]
      have w1 := Same.upd (o := .lst (((wtsT ts).map V.int).take i)) hb1
      have f1 : (upd Hw b1 (.lst (((wtsT ts).map V.int).take i))) b1 = some (.lst (((wtsT ts).map V.int).take i)) := upd_same
      refine ⟨_, rfl, (by show 1 ≤ sizeLine; decide), fun b2 hb2 => ?_⟩
      have w2 := Same.upd (o := .lst [.int (t.2.1 + (j : Int))]) hb2
      have f2 : (upd (upd Hw b1 (.lst (((wtsT ts).map V.int).take i))) b2 (.lst [.int (t.2.1 + (j : Int))])) b2 = some (.lst [.int (t.2.1 + (j : Int))]) := upd_same
      refine ⟨b1, b2, _, _, rfl, rfl, w2 _ _ f1, f2, small2 (by rw [List.length_take, List.length_map]; show _ + 1 ≤ 100000; omega), fun b3 hb3 => ?_⟩
      have w3 := Same.upd (o := .lst (((wtsT ts).map V.int).take i ++ [.int (t.2.1 + (j : Int))])) hb3
      have f3 : (upd (upd (upd Hw b1 (.lst (((wtsT ts).map V.int).take i))) b2 (.lst [.int (t.2.1 + (j : Int))])) b3 (.lst (((wtsT ts).map V.int).take i ++ [.int (t.2.1 + (j : Int))]))) b3 = some (.lst (((wtsT ts).map V.int).take i ++ [.int (t.2.1 + (j : Int))])) := upd_same
      have w13 := w1.trans (w2.trans w3)
      show ∃ _, _
      generalize upd (upd (upd Hw b1 (.lst (((wtsT ts).map V.int).take i))) b2 (.lst [.int (t.2.1 + (j : Int))])) b3 (.lst (((wtsT ts).map V.int).take i ++ [.int (t.2.1 + (j : Int))])) = Hy at w13 f3 ⊢
      refine ⟨_, rfl, _, rfl, _, _, rfl, rfl, (i : Int) + 1, rfl, lw, _, rfl, SqL.of (w13 _ _ (sw _ _ hlw16)), fun b4 hb4 => ?_⟩
      rw [show (i : Int) + 1 = ((i + 1 : Nat) : Int) by omega, cut_suf (show i + 1 ≤ ((wtsT ts).map V.int).length by rw [List.length_map]; omega)]
      have w4 := Same.upd (o := .lst (((wtsT ts).map V.int).drop (i + 1))) hb4
      refine ⟨b3, b4, _, _, rfl, rfl, w4 _ _ f3, upd_same, small2 (by rw [List.length_append, List.length_take, List.length_drop, List.length_map]; show _ + 1 + _ ≤ 100000; omega), fun b5 hb5 => ?_⟩
      have w5 := Same.upd (o := .lst (((wtsT ts).map V.int).take i ++ [.int (t.2.1 + (j : Int))] ++ ((wtsT ts).map V.int).drop (i + 1))) hb5
      have f5 : (upd (upd Hy b4 (.lst (((wtsT ts).map V.int).drop (i + 1)))) b5 (.lst (((wtsT ts).map V.int).take i ++ [.int (t.2.1 + (j : Int))] ++ ((wtsT ts).map V.int).drop (i + 1)))) b5 = some (.lst (((wtsT ts).take i ++ [(t.2.1 + (j : Int))] ++ (wtsT ts).drop (i + 1)).map V.int)) := by
        rw [upd_same, List.map_append, List.map_append, List.map_take, List.map_drop]
        rfl
      have w15 := w13.trans (w4.trans w5)
      generalize upd (upd Hy b4 (.lst (((wtsT ts).map V.int).drop (i + 1)))) b5 (.lst (((wtsT ts).map V.int).take i ++ [.int (t.2.1 + (j : Int))] ++ ((wtsT ts).map V.int).drop (i + 1))) = Hz at w15 f5 ⊢
      refine ⟨_, rfl, b5, (wtsT ts).take i ++ [(t.2.1 + (j : Int))] ++ (wtsT ts).drop (i + 1), st, rfl, f5, by omega, by omega, mixOk (t.2.1 + (j : Int)) (by omega) (by omega), mixLen (t.2.1 + (j : Int)), ?_⟩
      rw [prT_is]
      refine ⟨_, rfl, (by show 2 ≤ sizeLine; decide), fun tq htq => ?_⟩
      have sq := Same.upd (o := .tup [.int (prT ts st i (t.2.1 + (j : Int))), .int (t.2.1 + (j : Int))]) htq
      have gq : (upd Hz tq (.tup [.int (prT ts st i (t.2.1 + (j : Int))), .int (t.2.1 + (j : Int))])) tq = some (.tup [.int (prT ts st i (t.2.1 + (j : Int))), .int (t.2.1 + (j : Int))]) := upd_same
      have swq := w15.trans sq
      have hDq := swq _ _ hDw
      have n7 := NL.upd (o := .lst (tw2 ++ [.ref tq])) hDq
      refine ⟨lt, tw2, _, rfl, rfl, hDq, small1 (by omega), tw2 ++ [.ref tq], _, _, _, _, _, _, rfl, upd_same, ?_, fun b o e => by rw [upd_ne (ne_of_none e hlt)]; exact swq _ _ (sw _ _ e)⟩
      rw [List.range_succ, List.map_append]
      exact paired_app (L2.Paired.mapP htw2 fun _ _ z => z.nl ((NL.of swq).trans n7)) (.cons ⟨tq, rfl, n7 _ _ gq fun _ z => nomatch z⟩ .nil)
    rintro σ H18 ⟨tw2, v11, v16, v17, v18, v19, v20, rfl, hD18, htw2, s18⟩
    obtain ⟨x, xs, eX⟩ : ∃ x xs, ((List.range (h + 1 - t.2.1).toNat).map fun (i' : Nat) => trP ts st i (t.2.1 + i')) = x :: xs := by
      cases e : ((List.range (h + 1 - t.2.1).toNat).map fun (i' : Nat) => trP ts st i (t.2.1 + i')) with
      | nil =>
        have := congrArg List.length e
        rw [List.length_map, List.length_range] at this
        have : (h + 1 - t.2.1).toNat = 0 := this
        omega
      | cons x xs => exact ⟨x, xs, rfl⟩
    rw [eX] at htw2
    obtain ⟨n, en, nl⟩ := top_is u1 t1 h1.1
    have bmin := br_min u1 t1 h1.1 en eX
    have bgr := br_gr (n := n) (k := i) (w := t.2.1) c1.1 st1.1 t1 okt
    rw [← bmin] at bgr
    have nu0 := Int.mul_nonneg (show (0 : Int) ≤ (n : Nat) by omega) (show 0 ≤ unT ts st i by omega)
    have topB : rupI h (unT ts st i) ≤ 3000 := by
      obtain ⟨_, _, _, q4, _⟩ := rup_is (w := h) (p := unT ts st i) (by omega) u1
      omega
    have bound : 0 ≤ (minP x xs).1 ∧ (minP x xs).1 ≤ 10000 := by
      obtain ⟨hm, _⟩ := minP_is xs x
      rw [← eX] at hm
      obtain ⟨j, hj, e⟩ := List.mem_map.mp hm
      have jl := List.mem_range.mp hj
      rw [← e]
      show 0 ≤ prT ts st i (t.2.1 + j) ∧ prT ts st i (t.2.1 + j) ≤ 10000
      obtain ⟨_, _, q3, q4, _⟩ := rup_is (w := t.2.1 + j) (p := unT ts st i) (by omega) u1
      have wkd : ∀ w ∈ wtsT (ts.drop (i + 1)), 1 ≤ w ∧ w ≤ 300 := fun w hw => by
        obtain ⟨v, hv, rfl⟩ := List.mem_map.mp hw
        have vm := List.mem_of_mem_drop hv
        exact ⟨(okt v vm).2.2.1, okf2 v vm⟩
      have p1 := perW_1 (ws := wtsT (ts.drop (i + 1))) (p := rupI (t.2.1 + j) (unT ts st i)) (by omega) fun w hw => (wkd w hw).1
      have p2 := perW_bd (M := 300) (B := 3000) (ws := wtsT (ts.drop (i + 1))) (p := rupI (t.2.1 + j) (unT ts st i)) (by omega) (by omega) wkd
      have wl5 : (wtsT (ts.drop (i + 1))).length ≤ 5 := by unfold wtsT; rw [List.length_map, List.length_drop]; omega
      unfold prT
      omega
    refine ⟨_, rfl, min_pr hD18 htw2 fun vb hvb => ?_⟩
    have RL18 := RL16.nl (NL.of s18)
    have RG18 := RG16.nl (NL.of s18)
    -- the best raise
    refine ⟨_, rfl, _, rfl, _, rfl, lane, B, xa, ts, st, 0, t, i, n, h, rfl, RL18, ht, h1.1, by omega, en, by omega, by show rupI h (unT ts st i) ≤ _; omega, fun v1' H19 hv1 s19 => ⟨_, rfl, ?_⟩⟩
    have hv1 : PrI H19 v1' (minP x xs) := by rw [bmin]; exact hv1
    refine ⟨_, _, hv1.dp, (hvb.nl (NL.of s19)).dp, sh_pr _, sh_pr _, false, by rw [eq_pr]; rfl, iteF ?_⟩
    refine ⟨_, rfl, _, rfl, _, rfl, rfl, rfl, lane, B, xa, ts, st, 0, t, i, n, h, rfl, RL18.nl (NL.of s19), ht, h1.1, by omega, en, by omega, by show rupI h (unT ts st i) ≤ _; omega, fun v2' H20 hv2 s20 => ⟨_, rfl, ?_⟩⟩
    have hv2 : PrI H20 v2' (minP x xs) := by rw [bmin]; exact hv2
    have s1820 := s19.trans s20
    refine ⟨_, _, hv2.dp, (hvb.nl (NL.of s1820)).dp, sh_pr _, sh_pr _, false, by rw [eq_pr]; rfl, iteF ?_⟩
    -- the great one
    have eng : rupI (h * c) (perW (st * c) (wtsT ((grT c ts).take i))) = rupI (t.2.1 * c) (perW (st * c) (wtsT ((grT c ts).take i))) + (n : Int) * perW (st * c) (wtsT ((grT c ts).take i)) := by
      rw [uge, rup_mul u1 c1.1, rup_mul u1 c1.1, en, Int.add_mul, Int.mul_assoc]
    have tBg : rupI (h * c) (perW (st * c) (wtsT ((grT c ts).take i))) ≤ 1000000000000000000000000000000 := by
      rw [uge, rup_mul u1 c1.1]
      have := Int.mul_le_mul topB c1.2 (by omega) (by decide)
      omega
    have hc1 := Int.mul_le_mul h1.2 c1.2 (by omega) (by decide)
    refine ⟨_, rfl, _, rfl, _, rfl, _, rfl, _, _, rfl, rfl, cmw (by omega) (by omega), great, BG, yg, grT c ts, st * c, 0, (t.1, t.2.1 * c, t.2.2), i, n, h * c, rfl, RG18.nl (NL.of s1820), gr_get ht, Int.mul_le_mul_of_nonneg_right h1.1 (by omega), by omega, eng, by omega, tBg, fun v3' H21 hv3 s21 => ?_⟩
    obtain ⟨T3, rfl, hT3⟩ := hv3
    obtain ⟨Tb, rfl, hTb⟩ := hvb.nl (NL.of (s1820.trans s21))
    have bgr2 : (minP (perW (rupI (t.2.1 * c) (perW (st * c) (wtsT ((grT c ts).take i)))) (wtsT ((grT c ts).drop (i + 1))), t.2.1 * c) (brL (wtsT ((grT c ts).drop (i + 1))) (perW (st * c) (wtsT ((grT c ts).take i))) (rupI (t.2.1 * c) (perW (st * c) (wtsT ((grT c ts).take i)))) n)).1 = (minP x xs).1 * c := bgr
    refine ⟨T3, _, 0, _, rfl, rfl, SqT.of hT3, rfl, _, rfl, Tb, _, 0, .int (minP x xs).1, rfl, rfl, SqT.of hTb, rfl, _, rfl, _, _, rfl, rfl, cmw bound.1 bound.2, rfl, false, ?_, iteF ?_⟩
    · rw [bgr2, decide_eq_true rfl]
      rfl
    -- what is told is new
    have s1821 := s1820.trans s21
    have s1621 := s18.trans s1821
    refine ⟨_, rfl, _, rfl, lane, B, xa, ts, st, 0, t, i, rfl, RL18.nl (NL.of s1821), ht, pB1, mB1', fun l7 w7' H22 hl7 hw7 s22 n7 => ?_⟩
    have hw7 : Paired (PrI H22) w7' BL := by rw [hBL]; exact hw7
    have w7l := paired_len hw7
    refine ⟨.inl ⟨rfl, _, SqL.of hl7⟩, l7, w7', .non, rfl, rfl, hl7, small1 (by omega), ?_⟩
    have s23 : Same H21 (upd H22 l7 (.lst (w7' ++ [V.non]))) := fun b o e => by
      rw [upd_ne (ne_of_none e n7)]
      exact s22 _ _ e
    generalize upd H22 l7 (.lst (w7' ++ [V.non])) = H23 at s23 ⊢
    have s1623 := s1621.trans s23
    refine ⟨_, rfl, _, rfl, lane, B, xa, ts, st, 0, t, i, rfl, RL16.nl (NL.of s1623), ht, pB1, mB1', fun l8 w8' H24 hl8 hw8 s24 n8 => ⟨_, rfl, ?_⟩⟩
    have hw8 : Paired (PrI H24) w8' BL := by rw [hBL]; exact hw8
    have s1624 := s1623.trans s24
    refine ⟨_, _, .lst (SqL.of hl8) (pri_dp hw8), .lst (SqL.of (s1624 _ _ hld16)) (pri_dp (L2.Paired.mapP due16 fun _ _ z => z.nl (NL.of s1624))), sh_prs _, sh_prs _, false, by rw [PyData.eqv, eq_prs]; rfl, iteF ?_⟩
    exact ⟨_, _, _, _, _, _, _, _, _, _, _, rfl, (src16.same s1624).mono (by rw [Nat.mul_succ]; omega), kx.trans (kx16.trans (Kp.of s1624))⟩
end
/-! ### the end -/
theorem bn_q0 (kV doc pm : Value) (an : Option Addr) (cdv ct : Value) (us : List Value) (hl : us.length = (["k"] : List Str).length) : bindArgs (PySem.W.fnOf "_wall" "_wall" (defArgs st__wall) (defBody st__wall) (defScope st__wall) .none kV doc pm an cdv ct) ⟨us, []⟩ = pure ((["k"] : List Str).zip us) :=
  match us, hl with | [_], _ => rfl
theorem bn_q1 (kV doc pm : Value) (an : Option Addr) (cdv ct : Value) (us : List Value) (hl : us.length = (["value"] : List Str).length) : bindArgs (PySem.W.fnOf "is_integer" "is_integer" (defArgs st_is_integer) (defBody st_is_integer) (defScope st_is_integer) .none kV doc pm an cdv ct) ⟨us, []⟩ = pure ((["value"] : List Str).zip us) :=
  match us, hl with | [_], _ => rfl
theorem bn_q2 (kV doc pm : Value) (an : Option Addr) (cdv ct : Value) (us : List Value) (hl : us.length = (["value", "least"] : List Str).length) : bindArgs (PySem.W.fnOf "is_at_least" "is_at_least" (defArgs st_is_at_least) (defBody st_is_at_least) (defScope st_is_at_least) .none kV doc pm an cdv ct) ⟨us, []⟩ = pure ((["value", "least"] : List Str).zip us) :=
  match us, hl with | [_, _], _ => rfl
theorem bn_q3 (kV doc pm : Value) (an : Option Addr) (cdv ct : Value) (us : List Value) (hl : us.length = (["value", "least", "most"] : List Str).length) : bindArgs (PySem.W.fnOf "is_within" "is_within" (defArgs st_is_within) (defBody st_is_within) (defScope st_is_within) .none kV doc pm an cdv ct) ⟨us, []⟩ = pure ((["value", "least", "most"] : List Str).zip us) :=
  match us, hl with | [_, _, _], _ => rfl
theorem bn_q4 (kV doc pm : Value) (an : Option Addr) (cdv ct : Value) (us : List Value) (hl : us.length = (["distance", "step"] : List Str).length) : bindArgs (PySem.W.fnOf "steps_to" "steps_to" (defArgs st_steps_to) (defBody st_steps_to) (defScope st_steps_to) .none kV doc pm an cdv ct) ⟨us, []⟩ = pure ((["distance", "step"] : List Str).zip us) :=
  match us, hl with | [_, _], _ => rfl
theorem bn_q5 (kV doc pm : Value) (an : Option Addr) (cdv ct : Value) (us : List Value) (hl : us.length = (["value", "unit"] : List Str).length) : bindArgs (PySem.W.fnOf "rounded_up" "rounded_up" (defArgs st_rounded_up) (defBody st_rounded_up) (defScope st_rounded_up) .none kV doc pm an cdv ct) ⟨us, []⟩ = pure ((["value", "unit"] : List Str).zip us) :=
  match us, hl with | [_, _], _ => rfl
theorem bn_q6 (kV doc pm : Value) (an : Option Addr) (cdv ct : Value) (us : List Value) (hl : us.length = (["value"] : List Str).length) : bindArgs (PySem.W.fnOf "is_breaker" "is_breaker" (defArgs st_is_breaker) (defBody st_is_breaker) (defScope st_is_breaker) .none kV doc pm an cdv ct) ⟨us, []⟩ = pure ((["value"] : List Str).zip us) :=
  match us, hl with | [_], _ => rfl
theorem bn_q7 (kV doc pm : Value) (an : Option Addr) (cdv ct : Value) (us : List Value) (hl : us.length = (["breakers", "part"] : List Str).length) : bindArgs (PySem.W.fnOf "check_breakers" "check_breakers" (defArgs st_check_breakers) (defBody st_check_breakers) (defScope st_check_breakers) .none kV doc pm an cdv ct) ⟨us, []⟩ = pure ((["breakers", "part"] : List Str).zip us) :=
  match us, hl with | [_, _], _ => rfl
theorem bn_q8 (kV doc pm : Value) (an : Option Addr) (cdv ct : Value) (us : List Value) (hl : us.length = (["step"] : List Str).length) : bindArgs (PySem.W.fnOf "check_step" "check_step" (defArgs st_check_step) (defBody st_check_step) (defScope st_check_step) .none kV doc pm an cdv ct) ⟨us, []⟩ = pure ((["step"] : List Str).zip us) :=
  match us, hl with | [_], _ => rfl
theorem bn_q9 (kV doc pm : Value) (an : Option Addr) (cdv ct : Value) (us : List Value) (hl : us.length = (["row"] : List Str).length) : bindArgs (PySem.W.fnOf "periods" "periods" (defArgs st_periods) (defBody st_periods) (defScope st_periods) .none kV doc pm an cdv ct) ⟨us, []⟩ = pure ((["row"] : List Str).zip us) :=
  match us, hl with | [_], _ => rfl
theorem bn_q10 (kV doc pm : Value) (an : Option Addr) (cdv ct : Value) (us : List Value) (hl : us.length = (["row"] : List Str).length) : bindArgs (PySem.W.fnOf "row_period" "row_period" (defArgs st_row_period) (defBody st_row_period) (defScope st_row_period) .none kV doc pm an cdv ct) ⟨us, []⟩ = pure ((["row"] : List Str).zip us) :=
  match us, hl with | [_], _ => rfl
theorem bn_q11 (kV doc pm : Value) (an : Option Addr) (cdv ct : Value) (us : List Value) (hl : us.length = (["row", "index"] : List Str).length) : bindArgs (PySem.W.fnOf "check_index" "check_index" (defArgs st_check_index) (defBody st_check_index) (defScope st_check_index) .none kV doc pm an cdv ct) ⟨us, []⟩ = pure ((["row", "index"] : List Str).zip us) :=
  match us, hl with | [_, _], _ => rfl
theorem bn_q12 (kV doc pm : Value) (an : Option Addr) (cdv ct : Value) (us : List Value) (hl : us.length = (["period", "breakers"] : List Str).length) : bindArgs (PySem.W.fnOf "period_behind" "period_behind" (defArgs st_period_behind) (defBody st_period_behind) (defScope st_period_behind) .none kV doc pm an cdv ct) ⟨us, []⟩ = pure ((["period", "breakers"] : List Str).zip us) :=
  match us, hl with | [_, _], _ => rfl
theorem bn_q13 (kV doc pm : Value) (an : Option Addr) (cdv ct : Value) (us : List Value) (hl : us.length = (["row", "index"] : List Str).length) : bindArgs (PySem.W.fnOf "harmful_lowerings" "harmful_lowerings" (defArgs st_harmful_lowerings) (defBody st_harmful_lowerings) (defScope st_harmful_lowerings) .none kV doc pm an cdv ct) ⟨us, []⟩ = pure ((["row", "index"] : List Str).zip us) :=
  match us, hl with | [_, _], _ => rfl
theorem bn_q14 (kV doc pm : Value) (an : Option Addr) (cdv ct : Value) (us : List Value) (hl : us.length = (["row", "index", "most"] : List Str).length) : bindArgs (PySem.W.fnOf "best_raise" "best_raise" (defArgs st_best_raise) (defBody st_best_raise) (defScope st_best_raise) .none kV doc pm an cdv ct) ⟨us, []⟩ = pure ((["row", "index", "most"] : List Str).zip us) :=
  match us, hl with | [_, _, _], _ => rfl
theorem bn_q15 (kV doc pm : Value) (an : Option Addr) (cdv ct : Value) (us : List Value) (hl : us.length = (["_law_cell"] : List Str).length) : bindArgs (PySem.W.fnOf "_law_source_of" "_law_source_of" (defArgs st__law_source_of) (defBody st__law_source_of) (defScope st__law_source_of) .none kV doc pm an cdv ct) ⟨us, []⟩ = pure ((["_law_cell"] : List Str).zip us) :=
  match us, hl with | [_], _ => rfl
theorem bn_q16 (kV doc pm : Value) (an : Option Addr) (cdv ct : Value) (us : List Value) (hl : us.length = (["_law_source", "_law_many"] : List Str).length) : bindArgs (PySem.W.fnOf "_law_next" "_law_next" (defArgs st__law_next) (defBody st__law_next) (defScope st__law_next) .none kV doc pm an cdv ct) ⟨us, []⟩ = pure ((["_law_source", "_law_many"] : List Str).zip us) :=
  match us, hl with | [_, _], _ => rfl
theorem bn_q17 (kV doc pm : Value) (an : Option Addr) (cdv ct : Value) (us : List Value) (hl : us.length = (["_law_source", "_law_options"] : List Str).length) : bindArgs (PySem.W.fnOf "_law_one" "_law_one" (defArgs st__law_one) (defBody st__law_one) (defScope st__law_one) .none kV doc pm an cdv ct) ⟨us, []⟩ = pure ((["_law_source", "_law_options"] : List Str).zip us) :=
  match us, hl with | [_, _], _ => rfl
theorem bn_q18 (kV doc pm : Value) (an : Option Addr) (cdv ct : Value) (us : List Value) (hl : us.length = (["_law_script", "_law_k"] : List Str).length) : bindArgs (PySem.W.fnOf "_law_cell_at" "_law_cell_at" (defArgs st__law_cell_at) (defBody st__law_cell_at) (defScope st__law_cell_at) .none kV doc pm an cdv ct) ⟨us, []⟩ = pure ((["_law_script", "_law_k"] : List Str).zip us) :=
  match us, hl with | [_, _], _ => rfl
theorem bn_q19 (kV doc pm : Value) (an : Option Addr) (cdv ct : Value) (us : List Value) (hl : us.length = (["_law_source", "_law_high", "_law_wide", "_law_many"] : List Str).length) : bindArgs (PySem.W.fnOf "_law_specs" "_law_specs" (defArgs st__law_specs) (defBody st__law_specs) (defScope st__law_specs) .none kV doc pm an cdv ct) ⟨us, []⟩ = pure ((["_law_source", "_law_high", "_law_wide", "_law_many"] : List Str).zip us) :=
  match us, hl with | [_, _, _, _], _ => rfl
theorem bn_q20 (kV doc pm : Value) (an : Option Addr) (cdv ct : Value) (us : List Value) (hl : us.length = (["_law_waits", "_law_step"] : List Str).length) : bindArgs (PySem.W.fnOf "_law_period" "_law_period" (defArgs st__law_period) (defBody st__law_period) (defScope st__law_period) .none kV doc pm an cdv ct) ⟨us, []⟩ = pure ((["_law_waits", "_law_step"] : List Str).zip us) :=
  match us, hl with | [_, _], _ => rfl
theorem bn_q21 (kV doc pm : Value) (an : Option Addr) (cdv ct : Value) (us : List Value) (hl : us.length = (["_law_some"] : List Str).length) : bindArgs (PySem.W.fnOf "_law_ranges" "_law_ranges" (defArgs st__law_ranges) (defBody st__law_ranges) (defScope st__law_ranges) .none kV doc pm an cdv ct) ⟨us, []⟩ = pure ((["_law_some"] : List Str).zip us) :=
  match us, hl with | [_], _ => rfl
theorem bn_q22 (kV doc pm : Value) (an : Option Addr) (cdv ct : Value) (us : List Value) (hl : us.length = (["self"] : List Str).length) : bindArgs (PySem.W.fnOf "breaker_list" "Row.breaker_list" (defArgs st_Row_breaker_list) (defBody st_Row_breaker_list) (defScope st_Row_breaker_list) .none kV doc pm an cdv ct) ⟨us, []⟩ = pure ((["self"] : List Str).zip us) :=
  match us, hl with | [_], _ => rfl
theorem bn_q23 (kV doc pm : Value) (an : Option Addr) (cdv ct : Value) (us : List Value) (hl : us.length = (["self"] : List Str).length) : bindArgs (PySem.W.fnOf "step_length" "Row.step_length" (defArgs st_Row_step_length) (defBody st_Row_step_length) (defScope st_Row_step_length) .none kV doc pm an cdv ct) ⟨us, []⟩ = pure ((["self"] : List Str).zip us) :=
  match us, hl with | [_], _ => rfl
theorem bn_q24 (kV doc pm : Value) (an : Option Addr) (cdv ct : Value) (us : List Value) (hl : us.length = (["self"] : List Str).length) : bindArgs (PySem.W.fnOf "phase_time" "Row.phase_time" (defArgs st_Row_phase_time) (defBody st_Row_phase_time) (defScope st_Row_phase_time) .none kV doc pm an cdv ct) ⟨us, []⟩ = pure ((["self"] : List Str).zip us) :=
  match us, hl with | [_], _ => rfl
theorem bn_q25 (kV doc pm : Value) (an : Option Addr) (cdv ct : Value) (us : List Value) (hl : us.length = (["self"] : List Str).length) : bindArgs (PySem.W.fnOf "__len__" "Row.__len__" (defArgs st_Row_len) (defBody st_Row_len) (defScope st_Row_len) .none kV doc pm an cdv ct) ⟨us, []⟩ = pure ((["self"] : List Str).zip us) :=
  match us, hl with | [_], _ => rfl
theorem bn_q26 (kV doc pm : Value) (an : Option Addr) (cdv ct : Value) (us : List Value) (hl : us.length = (["self", "at"] : List Str).length) : bindArgs (PySem.W.fnOf "__getitem__" "Row.__getitem__" (defArgs st_Row_getitem) (defBody st_Row_getitem) (defScope st_Row_getitem) .none kV doc pm an cdv ct) ⟨us, []⟩ = pure ((["self", "at"] : List Str).zip us) :=
  match us, hl with | [_, _], _ => rfl
theorem bn_q27 (kV doc pm : Value) (an : Option Addr) (cdv ct : Value) (us : List Value) (hl : us.length = (["self", "x"] : List Str).length) : bindArgs (PySem.W.fnOf "__contains__" "Row.__contains__" (defArgs st_Row_contains) (defBody st_Row_contains) (defScope st_Row_contains) .none kV doc pm an cdv ct) ⟨us, []⟩ = pure ((["self", "x"] : List Str).zip us) :=
  match us, hl with | [_, _], _ => rfl
theorem bn_q28 (kV doc pm : Value) (an : Option Addr) (cdv ct : Value) (us : List Value) (hl : us.length = (["self", "other"] : List Str).length) : bindArgs (PySem.W.fnOf "__add__" "Row.__add__" (defArgs st_Row_add) (defBody st_Row_add) (defScope st_Row_add) .none kV doc pm an cdv ct) ⟨us, []⟩ = pure ((["self", "other"] : List Str).zip us) :=
  match us, hl with | [_, _], _ => rfl
theorem bn_q29 (kV doc pm : Value) (an : Option Addr) (cdv ct : Value) (us : List Value) (hl : us.length = (["self", "other"] : List Str).length) : bindArgs (PySem.W.fnOf "__eq__" "Row.__eq__" (defArgs st_Row_eq) (defBody st_Row_eq) (defScope st_Row_eq) .none kV doc pm an cdv ct) ⟨us, []⟩ = pure ((["self", "other"] : List Str).zip us) :=
  match us, hl with | [_, _], _ => rfl
theorem mk_dfn {K : PySem.W.Frag} {h : Heap} {mg : Str → Option Value} {x : Str} {st : Stmt} {f : Addr} {ps : List Str} {oc : Value} {od an : Option Addr} {sl : Array (Option Value)} {kV dc pm cd ct : Value} (X : K.In h) (G : h.Ns mainGlobals mg) (a : PySem.W.nsIn K mainGlobals x = some (some (.ref f)))
    (l : K.lookup f = some ⟨oc, od, .func (PySem.W.fnOf x x (defArgs st) (defBody st) (defScope st) .none kV dc pm an cd ct), sl⟩) (c : PySem.W.codeIn K cd x = true) (k : PySem.W.keepIn K (.ref f) = true)
    (hb : ∀ (kV doc pm : Value) (an : Option Addr) (cdv ct : Value) (us : List Value), us.length = ps.length → bindArgs (PySem.W.fnOf x x (defArgs st) (defBody st) (defScope st) .none kV doc pm an cdv ct) ⟨us, []⟩ = pure (ps.zip us)) : Dfn K mg x st f ps :=
  ⟨⟨_, fun_mk l c k, (fun_mk l c k).binds hb⟩, PySem.W.mg_of X G a⟩
theorem mk_mth {K : PySem.W.Frag} {C : Addr} {x q : Str} {st : Stmt} {f : Addr} {ps : List Str} {oc : Value} {od an : Option Addr} {sl : Array (Option Value)} {kV dc pm cd ct : Value} (a : PySem.W.findIn K (.ref C) x = some (some (.ref f))) (i : PySem.W.isFn K (.ref f) = true) (fk : PySem.W.fnIn K f = true)
    (l : K.lookup f = some ⟨oc, od, .func (PySem.W.fnOf x q (defArgs st) (defBody st) (defScope st) .none kV dc pm an cd ct), sl⟩) (c : PySem.W.codeIn K cd q = true) (k : PySem.W.keepIn K (.ref f) = true)
    (hb : ∀ (kV doc pm : Value) (an : Option Addr) (cdv ct : Value) (us : List Value), us.length = ps.length → bindArgs (PySem.W.fnOf x q (defArgs st) (defBody st) (defScope st) .none kV doc pm an cdv ct) ⟨us, []⟩ = pure (ps.zip us)) : Mth K C x q st f ps :=
  ⟨⟨_, fun_mk l c k, (fun_mk l c k).binds hb⟩, a, i, fk⟩
set_option maxHeartbeats 16000000 in
theorem all_mk {P : Program} {w : World} {K : PySem.W.Frag} {h : Heap} {mg : Str → Option Value} {lv : List (Str × PySem.W.WData)} {fa aLaw fq0 fq1 fq2 fq3 fq4 fq5 fq6 fq7 fq8 fq9 fq10 fq11 fq12 fq13 fq14 fq15 fq16 fq17 fq18 fq19 fq20 fq21 CRow aIRow aDRow fq22 fq23 fq24 fq25 fq26 fq27 fq28 fq29 : Addr} {tkRow tNMOST_BREAKERS tNMOST_PERIODS : Tok} {odq0 anq0 odq1 anq1 odq2 anq2 odq3 anq3 odq4 anq4 odq5 anq5 odq6 anq6 odq7 anq7 odq8 anq8 odq9 anq9 odq10 anq10 odq11 anq11 odq12 anq12 odq13 anq13 odq14 anq14 odq15 anq15 odq16 anq16 odq17 anq17 odq18 anq18 odq19 anq19 odq20 anq20 odq21 anq21 odq22 anq22 odq23 anq23 odq24 anq24 odq25 anq25 odq26 anq26 odq27 anq27 odq28 anq28 odq29 anq29 odY anY odNRow anNRow : Option Addr} {slq0 slq1 slq2 slq3 slq4 slq5 slq6 slq7 slq8 slq9 slq10 slq11 slq12 slq13 slq14 slq15 slq16 slq17 slq18 slq19 slq20 slq21 slq22 slq23 slq24 slq25 slq26 slq27 slq28 slq29 slY slNRow : Array (Option Value)} {ocq0 kVq0 dcq0 pmq0 cdq0 ctq0 ocq1 kVq1 dcq1 pmq1 cdq1 ctq1 ocq2 kVq2 dcq2 pmq2 cdq2 ctq2 ocq3 kVq3 dcq3 pmq3 cdq3 ctq3 ocq4 kVq4 dcq4 pmq4 cdq4 ctq4 ocq5 kVq5 dcq5 pmq5 cdq5 ctq5 ocq6 kVq6 dcq6 pmq6 cdq6 ctq6 ocq7 kVq7 dcq7 pmq7 cdq7 ctq7 ocq8 kVq8 dcq8 pmq8 cdq8 ctq8 ocq9 kVq9 dcq9 pmq9 cdq9 ctq9 ocq10 kVq10 dcq10 pmq10 cdq10 ctq10 ocq11 kVq11 dcq11 pmq11 cdq11 ctq11 ocq12 kVq12 dcq12 pmq12 cdq12 ctq12 ocq13 kVq13 dcq13 pmq13 cdq13 ctq13 ocq14 kVq14 dcq14 pmq14 cdq14 ctq14 ocq15 kVq15 dcq15 pmq15 cdq15 ctq15 ocq16 kVq16 dcq16 pmq16 cdq16 ctq16 ocq17 kVq17 dcq17 pmq17 cdq17 ctq17 ocq18 kVq18 dcq18 pmq18 cdq18 ctq18 ocq19 kVq19 dcq19 pmq19 cdq19 ctq19 ocq20 kVq20 dcq20 pmq20 cdq20 ctq20 ocq21 kVq21 dcq21 pmq21 cdq21 ctq21 ocq22 kVq22 dcq22 pmq22 cdq22 ctq22 ocq23 kVq23 dcq23 pmq23 cdq23 ctq23 ocq24 kVq24 dcq24 pmq24 cdq24 ctq24 ocq25 kVq25 dcq25 pmq25 cdq25 ctq25 ocq26 kVq26 dcq26 pmq26 cdq26 ctq26 ocq27 kVq27 dcq27 pmq27 cdq27 ctq27 ocq28 kVq28 dcq28 pmq28 cdq28 ctq28 ocq29 kVq29 dcq29 pmq29 cdq29 ctq29 ocY kVY dcY pmY cdY ctY ocNRow dcNRow pmNRow cdNRow ctNRow : Value}
    (X : K.In h) (G : h.Ns mainGlobals mg) (LL : PySem.W.LooseAre lv mg h) (hLMOST_COUNT : (("MOST_COUNT" : Str), PySem.W.WData.int 1000000000000) ∈ lv) (hLMOST_TIME : (("MOST_TIME" : Str), PySem.W.WData.int 1000000000000000000000000000000) ∈ lv) (hfa : mg "law" = some (.ref fa))
    (aq0 : PySem.W.nsIn K mainGlobals "_wall" = some (some (.ref fq0)))
    (lq0 : K.lookup fq0 = some ⟨ocq0, odq0, .func (PySem.W.fnOf "_wall" "_wall" (defArgs st__wall) (defBody st__wall) (defScope st__wall) .none kVq0 dcq0 pmq0 anq0 cdq0 ctq0), slq0⟩)
    (cq0 : PySem.W.codeIn K cdq0 "_wall" = true)
    (kq0 : PySem.W.keepIn K (.ref fq0) = true)
    (aq1 : PySem.W.nsIn K mainGlobals "is_integer" = some (some (.ref fq1)))
    (lq1 : K.lookup fq1 = some ⟨ocq1, odq1, .func (PySem.W.fnOf "is_integer" "is_integer" (defArgs st_is_integer) (defBody st_is_integer) (defScope st_is_integer) .none kVq1 dcq1 pmq1 anq1 cdq1 ctq1), slq1⟩)
    (cq1 : PySem.W.codeIn K cdq1 "is_integer" = true)
    (kq1 : PySem.W.keepIn K (.ref fq1) = true)
    (aq2 : PySem.W.nsIn K mainGlobals "is_at_least" = some (some (.ref fq2)))
    (lq2 : K.lookup fq2 = some ⟨ocq2, odq2, .func (PySem.W.fnOf "is_at_least" "is_at_least" (defArgs st_is_at_least) (defBody st_is_at_least) (defScope st_is_at_least) .none kVq2 dcq2 pmq2 anq2 cdq2 ctq2), slq2⟩)
    (cq2 : PySem.W.codeIn K cdq2 "is_at_least" = true)
    (kq2 : PySem.W.keepIn K (.ref fq2) = true)
    (aq3 : PySem.W.nsIn K mainGlobals "is_within" = some (some (.ref fq3)))
    (lq3 : K.lookup fq3 = some ⟨ocq3, odq3, .func (PySem.W.fnOf "is_within" "is_within" (defArgs st_is_within) (defBody st_is_within) (defScope st_is_within) .none kVq3 dcq3 pmq3 anq3 cdq3 ctq3), slq3⟩)
    (cq3 : PySem.W.codeIn K cdq3 "is_within" = true)
    (kq3 : PySem.W.keepIn K (.ref fq3) = true)
    (aq4 : PySem.W.nsIn K mainGlobals "steps_to" = some (some (.ref fq4)))
    (lq4 : K.lookup fq4 = some ⟨ocq4, odq4, .func (PySem.W.fnOf "steps_to" "steps_to" (defArgs st_steps_to) (defBody st_steps_to) (defScope st_steps_to) .none kVq4 dcq4 pmq4 anq4 cdq4 ctq4), slq4⟩)
    (cq4 : PySem.W.codeIn K cdq4 "steps_to" = true)
    (kq4 : PySem.W.keepIn K (.ref fq4) = true)
    (aq5 : PySem.W.nsIn K mainGlobals "rounded_up" = some (some (.ref fq5)))
    (lq5 : K.lookup fq5 = some ⟨ocq5, odq5, .func (PySem.W.fnOf "rounded_up" "rounded_up" (defArgs st_rounded_up) (defBody st_rounded_up) (defScope st_rounded_up) .none kVq5 dcq5 pmq5 anq5 cdq5 ctq5), slq5⟩)
    (cq5 : PySem.W.codeIn K cdq5 "rounded_up" = true)
    (kq5 : PySem.W.keepIn K (.ref fq5) = true)
    (aq6 : PySem.W.nsIn K mainGlobals "is_breaker" = some (some (.ref fq6)))
    (lq6 : K.lookup fq6 = some ⟨ocq6, odq6, .func (PySem.W.fnOf "is_breaker" "is_breaker" (defArgs st_is_breaker) (defBody st_is_breaker) (defScope st_is_breaker) .none kVq6 dcq6 pmq6 anq6 cdq6 ctq6), slq6⟩)
    (cq6 : PySem.W.codeIn K cdq6 "is_breaker" = true)
    (kq6 : PySem.W.keepIn K (.ref fq6) = true)
    (aq7 : PySem.W.nsIn K mainGlobals "check_breakers" = some (some (.ref fq7)))
    (lq7 : K.lookup fq7 = some ⟨ocq7, odq7, .func (PySem.W.fnOf "check_breakers" "check_breakers" (defArgs st_check_breakers) (defBody st_check_breakers) (defScope st_check_breakers) .none kVq7 dcq7 pmq7 anq7 cdq7 ctq7), slq7⟩)
    (cq7 : PySem.W.codeIn K cdq7 "check_breakers" = true)
    (kq7 : PySem.W.keepIn K (.ref fq7) = true)
    (aq8 : PySem.W.nsIn K mainGlobals "check_step" = some (some (.ref fq8)))
    (lq8 : K.lookup fq8 = some ⟨ocq8, odq8, .func (PySem.W.fnOf "check_step" "check_step" (defArgs st_check_step) (defBody st_check_step) (defScope st_check_step) .none kVq8 dcq8 pmq8 anq8 cdq8 ctq8), slq8⟩)
    (cq8 : PySem.W.codeIn K cdq8 "check_step" = true)
    (kq8 : PySem.W.keepIn K (.ref fq8) = true)
    (aq9 : PySem.W.nsIn K mainGlobals "periods" = some (some (.ref fq9)))
    (lq9 : K.lookup fq9 = some ⟨ocq9, odq9, .func (PySem.W.fnOf "periods" "periods" (defArgs st_periods) (defBody st_periods) (defScope st_periods) .none kVq9 dcq9 pmq9 anq9 cdq9 ctq9), slq9⟩)
    (cq9 : PySem.W.codeIn K cdq9 "periods" = true)
    (kq9 : PySem.W.keepIn K (.ref fq9) = true)
    (aq10 : PySem.W.nsIn K mainGlobals "row_period" = some (some (.ref fq10)))
    (lq10 : K.lookup fq10 = some ⟨ocq10, odq10, .func (PySem.W.fnOf "row_period" "row_period" (defArgs st_row_period) (defBody st_row_period) (defScope st_row_period) .none kVq10 dcq10 pmq10 anq10 cdq10 ctq10), slq10⟩)
    (cq10 : PySem.W.codeIn K cdq10 "row_period" = true)
    (kq10 : PySem.W.keepIn K (.ref fq10) = true)
    (aq11 : PySem.W.nsIn K mainGlobals "check_index" = some (some (.ref fq11)))
    (lq11 : K.lookup fq11 = some ⟨ocq11, odq11, .func (PySem.W.fnOf "check_index" "check_index" (defArgs st_check_index) (defBody st_check_index) (defScope st_check_index) .none kVq11 dcq11 pmq11 anq11 cdq11 ctq11), slq11⟩)
    (cq11 : PySem.W.codeIn K cdq11 "check_index" = true)
    (kq11 : PySem.W.keepIn K (.ref fq11) = true)
    (aq12 : PySem.W.nsIn K mainGlobals "period_behind" = some (some (.ref fq12)))
    (lq12 : K.lookup fq12 = some ⟨ocq12, odq12, .func (PySem.W.fnOf "period_behind" "period_behind" (defArgs st_period_behind) (defBody st_period_behind) (defScope st_period_behind) .none kVq12 dcq12 pmq12 anq12 cdq12 ctq12), slq12⟩)
    (cq12 : PySem.W.codeIn K cdq12 "period_behind" = true)
    (kq12 : PySem.W.keepIn K (.ref fq12) = true)
    (aq13 : PySem.W.nsIn K mainGlobals "harmful_lowerings" = some (some (.ref fq13)))
    (lq13 : K.lookup fq13 = some ⟨ocq13, odq13, .func (PySem.W.fnOf "harmful_lowerings" "harmful_lowerings" (defArgs st_harmful_lowerings) (defBody st_harmful_lowerings) (defScope st_harmful_lowerings) .none kVq13 dcq13 pmq13 anq13 cdq13 ctq13), slq13⟩)
    (cq13 : PySem.W.codeIn K cdq13 "harmful_lowerings" = true)
    (kq13 : PySem.W.keepIn K (.ref fq13) = true)
    (aq14 : PySem.W.nsIn K mainGlobals "best_raise" = some (some (.ref fq14)))
    (lq14 : K.lookup fq14 = some ⟨ocq14, odq14, .func (PySem.W.fnOf "best_raise" "best_raise" (defArgs st_best_raise) (defBody st_best_raise) (defScope st_best_raise) .none kVq14 dcq14 pmq14 anq14 cdq14 ctq14), slq14⟩)
    (cq14 : PySem.W.codeIn K cdq14 "best_raise" = true)
    (kq14 : PySem.W.keepIn K (.ref fq14) = true)
    (aq15 : PySem.W.nsIn K mainGlobals "_law_source_of" = some (some (.ref fq15)))
    (lq15 : K.lookup fq15 = some ⟨ocq15, odq15, .func (PySem.W.fnOf "_law_source_of" "_law_source_of" (defArgs st__law_source_of) (defBody st__law_source_of) (defScope st__law_source_of) .none kVq15 dcq15 pmq15 anq15 cdq15 ctq15), slq15⟩)
    (cq15 : PySem.W.codeIn K cdq15 "_law_source_of" = true)
    (kq15 : PySem.W.keepIn K (.ref fq15) = true)
    (aq16 : PySem.W.nsIn K mainGlobals "_law_next" = some (some (.ref fq16)))
    (lq16 : K.lookup fq16 = some ⟨ocq16, odq16, .func (PySem.W.fnOf "_law_next" "_law_next" (defArgs st__law_next) (defBody st__law_next) (defScope st__law_next) .none kVq16 dcq16 pmq16 anq16 cdq16 ctq16), slq16⟩)
    (cq16 : PySem.W.codeIn K cdq16 "_law_next" = true)
    (kq16 : PySem.W.keepIn K (.ref fq16) = true)
    (aq17 : PySem.W.nsIn K mainGlobals "_law_one" = some (some (.ref fq17)))
    (lq17 : K.lookup fq17 = some ⟨ocq17, odq17, .func (PySem.W.fnOf "_law_one" "_law_one" (defArgs st__law_one) (defBody st__law_one) (defScope st__law_one) .none kVq17 dcq17 pmq17 anq17 cdq17 ctq17), slq17⟩)
    (cq17 : PySem.W.codeIn K cdq17 "_law_one" = true)
    (kq17 : PySem.W.keepIn K (.ref fq17) = true)
    (aq18 : PySem.W.nsIn K mainGlobals "_law_cell_at" = some (some (.ref fq18)))
    (lq18 : K.lookup fq18 = some ⟨ocq18, odq18, .func (PySem.W.fnOf "_law_cell_at" "_law_cell_at" (defArgs st__law_cell_at) (defBody st__law_cell_at) (defScope st__law_cell_at) .none kVq18 dcq18 pmq18 anq18 cdq18 ctq18), slq18⟩)
    (cq18 : PySem.W.codeIn K cdq18 "_law_cell_at" = true)
    (kq18 : PySem.W.keepIn K (.ref fq18) = true)
    (aq19 : PySem.W.nsIn K mainGlobals "_law_specs" = some (some (.ref fq19)))
    (lq19 : K.lookup fq19 = some ⟨ocq19, odq19, .func (PySem.W.fnOf "_law_specs" "_law_specs" (defArgs st__law_specs) (defBody st__law_specs) (defScope st__law_specs) .none kVq19 dcq19 pmq19 anq19 cdq19 ctq19), slq19⟩)
    (cq19 : PySem.W.codeIn K cdq19 "_law_specs" = true)
    (kq19 : PySem.W.keepIn K (.ref fq19) = true)
    (aq20 : PySem.W.nsIn K mainGlobals "_law_period" = some (some (.ref fq20)))
    (lq20 : K.lookup fq20 = some ⟨ocq20, odq20, .func (PySem.W.fnOf "_law_period" "_law_period" (defArgs st__law_period) (defBody st__law_period) (defScope st__law_period) .none kVq20 dcq20 pmq20 anq20 cdq20 ctq20), slq20⟩)
    (cq20 : PySem.W.codeIn K cdq20 "_law_period" = true)
    (kq20 : PySem.W.keepIn K (.ref fq20) = true)
    (aq21 : PySem.W.nsIn K mainGlobals "_law_ranges" = some (some (.ref fq21)))
    (lq21 : K.lookup fq21 = some ⟨ocq21, odq21, .func (PySem.W.fnOf "_law_ranges" "_law_ranges" (defArgs st__law_ranges) (defBody st__law_ranges) (defScope st__law_ranges) .none kVq21 dcq21 pmq21 anq21 cdq21 ctq21), slq21⟩)
    (cq21 : PySem.W.codeIn K cdq21 "_law_ranges" = true)
    (kq21 : PySem.W.keepIn K (.ref fq21) = true)
    (gcRow : PySem.W.nsIn K mainGlobals "Row" = some (some (.ref CRow)))
    (gRow0 : PySem.W.plainGet K CRow Str.empty = true)
    (gRow1 : PySem.W.hasDictIn K CRow = true)
    (gRow2 : PySem.W.plainOver K CRow = true)
    (gRow3 : PySem.W.findIn K (.ref CRow) "__setattr__" = some (some (.builtin "object.__setattr__")))
    (gRow4 : PySem.W.makesIn K CRow = true)
    (gRow5 : PySem.W.keepIn K (.ref CRow) = true)
    (gRow6 : PySem.W.isClsIn K CRow = true)
    (gRow7 : PySem.W.typeIn K (.ref CRow) = some (.type "type"))
    (gRow8 : PySem.W.findIn K (.ref CRow) "__class__" = some (some (.builtin "object.__class__")))
    (gRow9 : PySem.W.mroIn K CRow (.type "object") = some true)
    (gRow10 : PySem.W.selfFirst K CRow = true)
    (gRow11 : PySem.W.findIn K (.ref CRow) "__ne__" = some (some (.builtin "object.__ne__")))
    (gO1 : PySem.W.specialIn K (.builtin "object.__class__") "__get__" = some (some (.builtin "getset_descriptor.__get__")))
    (gO2 : PySem.W.takesIn K (.builtin "object.__class__") = some true)
    (nfRow_breakers : PySem.W.findIn K (.ref CRow) "breakers" = some none)
    (nfRow_step : PySem.W.findIn K (.ref CRow) "step" = some none)
    (nfRow_phase : PySem.W.findIn K (.ref CRow) "phase" = some none)
    (aNRow : PySem.W.findIn K (.ref CRow) "__init__" = some (some (.ref aIRow)))
    (iNRow : PySem.W.isFn K (.ref aIRow) = true)
    (lNRow : K.lookup aIRow = some ⟨ocNRow, odNRow, .func (PySem.W.fnOf "__init__" "Row.__init__" (defArgs st_Row_init) (defBody st_Row_init) (defScope st_Row_init) .none (.ref aDRow) dcNRow pmNRow anNRow cdNRow ctNRow), slNRow⟩)
    (cNRow : PySem.W.codeIn K cdNRow "Row.__init__" = true)
    (kNRow : PySem.W.keepIn K (.ref aIRow) = true)
    (dRow : PySem.W.nsIn K aDRow "phase" = some (some (.int 0 tkRow)))
    (aq22 : PySem.W.findIn K (.ref CRow) "breaker_list" = some (some (.ref fq22)))
    (iq22 : PySem.W.isFn K (.ref fq22) = true)
    (nq22 : PySem.W.fnIn K fq22 = true)
    (lq22 : K.lookup fq22 = some ⟨ocq22, odq22, .func (PySem.W.fnOf "breaker_list" "Row.breaker_list" (defArgs st_Row_breaker_list) (defBody st_Row_breaker_list) (defScope st_Row_breaker_list) .none kVq22 dcq22 pmq22 anq22 cdq22 ctq22), slq22⟩)
    (cq22 : PySem.W.codeIn K cdq22 "Row.breaker_list" = true)
    (kq22 : PySem.W.keepIn K (.ref fq22) = true)
    (aq23 : PySem.W.findIn K (.ref CRow) "step_length" = some (some (.ref fq23)))
    (iq23 : PySem.W.isFn K (.ref fq23) = true)
    (nq23 : PySem.W.fnIn K fq23 = true)
    (lq23 : K.lookup fq23 = some ⟨ocq23, odq23, .func (PySem.W.fnOf "step_length" "Row.step_length" (defArgs st_Row_step_length) (defBody st_Row_step_length) (defScope st_Row_step_length) .none kVq23 dcq23 pmq23 anq23 cdq23 ctq23), slq23⟩)
    (cq23 : PySem.W.codeIn K cdq23 "Row.step_length" = true)
    (kq23 : PySem.W.keepIn K (.ref fq23) = true)
    (aq24 : PySem.W.findIn K (.ref CRow) "phase_time" = some (some (.ref fq24)))
    (iq24 : PySem.W.isFn K (.ref fq24) = true)
    (nq24 : PySem.W.fnIn K fq24 = true)
    (lq24 : K.lookup fq24 = some ⟨ocq24, odq24, .func (PySem.W.fnOf "phase_time" "Row.phase_time" (defArgs st_Row_phase_time) (defBody st_Row_phase_time) (defScope st_Row_phase_time) .none kVq24 dcq24 pmq24 anq24 cdq24 ctq24), slq24⟩)
    (cq24 : PySem.W.codeIn K cdq24 "Row.phase_time" = true)
    (kq24 : PySem.W.keepIn K (.ref fq24) = true)
    (aq25 : PySem.W.findIn K (.ref CRow) "__len__" = some (some (.ref fq25)))
    (iq25 : PySem.W.isFn K (.ref fq25) = true)
    (nq25 : PySem.W.fnIn K fq25 = true)
    (lq25 : K.lookup fq25 = some ⟨ocq25, odq25, .func (PySem.W.fnOf "__len__" "Row.__len__" (defArgs st_Row_len) (defBody st_Row_len) (defScope st_Row_len) .none kVq25 dcq25 pmq25 anq25 cdq25 ctq25), slq25⟩)
    (cq25 : PySem.W.codeIn K cdq25 "Row.__len__" = true)
    (kq25 : PySem.W.keepIn K (.ref fq25) = true)
    (aq26 : PySem.W.findIn K (.ref CRow) "__getitem__" = some (some (.ref fq26)))
    (iq26 : PySem.W.isFn K (.ref fq26) = true)
    (nq26 : PySem.W.fnIn K fq26 = true)
    (lq26 : K.lookup fq26 = some ⟨ocq26, odq26, .func (PySem.W.fnOf "__getitem__" "Row.__getitem__" (defArgs st_Row_getitem) (defBody st_Row_getitem) (defScope st_Row_getitem) .none kVq26 dcq26 pmq26 anq26 cdq26 ctq26), slq26⟩)
    (cq26 : PySem.W.codeIn K cdq26 "Row.__getitem__" = true)
    (kq26 : PySem.W.keepIn K (.ref fq26) = true)
    (aq27 : PySem.W.findIn K (.ref CRow) "__contains__" = some (some (.ref fq27)))
    (iq27 : PySem.W.isFn K (.ref fq27) = true)
    (nq27 : PySem.W.fnIn K fq27 = true)
    (lq27 : K.lookup fq27 = some ⟨ocq27, odq27, .func (PySem.W.fnOf "__contains__" "Row.__contains__" (defArgs st_Row_contains) (defBody st_Row_contains) (defScope st_Row_contains) .none kVq27 dcq27 pmq27 anq27 cdq27 ctq27), slq27⟩)
    (cq27 : PySem.W.codeIn K cdq27 "Row.__contains__" = true)
    (kq27 : PySem.W.keepIn K (.ref fq27) = true)
    (aq28 : PySem.W.findIn K (.ref CRow) "__add__" = some (some (.ref fq28)))
    (iq28 : PySem.W.isFn K (.ref fq28) = true)
    (nq28 : PySem.W.fnIn K fq28 = true)
    (lq28 : K.lookup fq28 = some ⟨ocq28, odq28, .func (PySem.W.fnOf "__add__" "Row.__add__" (defArgs st_Row_add) (defBody st_Row_add) (defScope st_Row_add) .none kVq28 dcq28 pmq28 anq28 cdq28 ctq28), slq28⟩)
    (cq28 : PySem.W.codeIn K cdq28 "Row.__add__" = true)
    (kq28 : PySem.W.keepIn K (.ref fq28) = true)
    (aq29 : PySem.W.findIn K (.ref CRow) "__eq__" = some (some (.ref fq29)))
    (iq29 : PySem.W.isFn K (.ref fq29) = true)
    (nq29 : PySem.W.fnIn K fq29 = true)
    (lq29 : K.lookup fq29 = some ⟨ocq29, odq29, .func (PySem.W.fnOf "__eq__" "Row.__eq__" (defArgs st_Row_eq) (defBody st_Row_eq) (defScope st_Row_eq) .none kVq29 dcq29 pmq29 anq29 cdq29 ctq29), slq29⟩)
    (cq29 : PySem.W.codeIn K cdq29 "Row.__eq__" = true)
    (kq29 : PySem.W.keepIn K (.ref fq29) = true)
    (gNMOST_BREAKERS : PySem.W.nsIn K mainGlobals "MOST_BREAKERS" = some (some (.int 12 tNMOST_BREAKERS)))
    (gNMOST_PERIODS : PySem.W.nsIn K mainGlobals "MOST_PERIODS" = some (some (.int 2000 tNMOST_PERIODS)))
    (aY : PySem.W.nsIn K mainGlobals "law" = some (some (.ref aLaw)))
    (lY : K.lookup aLaw = some ⟨ocY, odY, .func (PySem.W.fnOf "law" "law" (defArgs st_law) (defBody st_law) (defScope st_law) .none kVY dcY pmY anY cdY ctY), slY⟩)
    (cY : PySem.W.codeIn K cdY "law" = true)
    (kY : PySem.W.keepIn K (.ref aLaw) = true)
    (z_bool : PySem.W.nsIn K mainGlobals "bool" = some none)
    (z_enumerate : PySem.W.nsIn K mainGlobals "enumerate" = some none)
    (z_int : PySem.W.nsIn K mainGlobals "int" = some none)
    (z_isinstance : PySem.W.nsIn K mainGlobals "isinstance" = some none)
    (z_len : PySem.W.nsIn K mainGlobals "len" = some none)
    (z_list : PySem.W.nsIn K mainGlobals "list" = some none)
    (z_max : PySem.W.nsIn K mainGlobals "max" = some none)
    (z_min : PySem.W.nsIn K mainGlobals "min" = some none)
    (z_range : PySem.W.nsIn K mainGlobals "range" = some none)
    (z_tuple : PySem.W.nsIn K mainGlobals "tuple" = some none) :
    ∃ fd : FuncData, (∀ (s : Shared) (v : Value), BindsTo s fd ⟨[v], []⟩ [("_law_script", v)]) ∧ ∀ base : Heap, K.In base → base.Ns mainGlobals mg → FnOk P w K mg base CX0 12 fa fd ["_law_script"] (spLaw K) := by
  have e := hfa.symm.trans (PySem.W.mg_of X G aY)
  cases e
  obtain ⟨vMOST_COUNT, hvMOST_COUNT, rMOST_COUNT⟩ := LL.val _ hLMOST_COUNT
  obtain ⟨tMOST_COUNT, rfl, -⟩ := PySem.W.readsW_int_inv rMOST_COUNT
  obtain ⟨vMOST_TIME, hvMOST_TIME, rMOST_TIME⟩ := LL.val _ hLMOST_TIME
  obtain ⟨tMOST_TIME, rfl, -⟩ := PySem.W.readsW_int_inv rMOST_TIME
  have T : LX K mg ⟨fq0, fq1, fq2, fq3, fq4, fq5, fq6, fq7, fq8, fq9, fq10, fq11, fq12, fq13, fq14, fq15, fq16, fq17, fq18, fq19, fq20, fq21, CRow, aIRow, fq22, fq23, fq24, fq25, fq26, fq27, fq28, fq29⟩ := ⟨PySem.W.mg_none_of X G z_bool,
    PySem.W.mg_none_of X G z_enumerate,
    PySem.W.mg_none_of X G z_int,
    PySem.W.mg_none_of X G z_isinstance,
    PySem.W.mg_none_of X G z_len,
    PySem.W.mg_none_of X G z_list,
    PySem.W.mg_none_of X G z_max,
    PySem.W.mg_none_of X G z_min,
    PySem.W.mg_none_of X G z_range,
    PySem.W.mg_none_of X G z_tuple,
    ⟨_, PySem.W.mg_of X G gNMOST_BREAKERS⟩,
    ⟨_, hvMOST_COUNT⟩,
    ⟨_, hvMOST_TIME⟩,
    ⟨_, PySem.W.mg_of X G gNMOST_PERIODS⟩,
    mk_dfn X G aq0 lq0 cq0 kq0 bn_q0,
    mk_dfn X G aq1 lq1 cq1 kq1 bn_q1,
    mk_dfn X G aq2 lq2 cq2 kq2 bn_q2,
    mk_dfn X G aq3 lq3 cq3 kq3 bn_q3,
    mk_dfn X G aq4 lq4 cq4 kq4 bn_q4,
    mk_dfn X G aq5 lq5 cq5 kq5 bn_q5,
    mk_dfn X G aq6 lq6 cq6 kq6 bn_q6,
    mk_dfn X G aq7 lq7 cq7 kq7 bn_q7,
    mk_dfn X G aq8 lq8 cq8 kq8 bn_q8,
    mk_dfn X G aq9 lq9 cq9 kq9 bn_q9,
    mk_dfn X G aq10 lq10 cq10 kq10 bn_q10,
    mk_dfn X G aq11 lq11 cq11 kq11 bn_q11,
    mk_dfn X G aq12 lq12 cq12 kq12 bn_q12,
    mk_dfn X G aq13 lq13 cq13 kq13 bn_q13,
    mk_dfn X G aq14 lq14 cq14 kq14 bn_q14,
    mk_dfn X G aq15 lq15 cq15 kq15 bn_q15,
    mk_dfn X G aq16 lq16 cq16 kq16 bn_q16,
    mk_dfn X G aq17 lq17 cq17 kq17 bn_q17,
    mk_dfn X G aq18 lq18 cq18 kq18 bn_q18,
    mk_dfn X G aq19 lq19 cq19 kq19 bn_q19,
    mk_dfn X G aq20 lq20 cq20 kq20 bn_q20,
    mk_dfn X G aq21 lq21 cq21 kq21 bn_q21,
    PySem.W.mg_of X G gcRow,
    ⟨⟨gRow0, gRow1, gRow2, gRow3⟩, gRow6, gRow7, gRow8, gO1, gO2, gRow9, gRow10, gRow11⟩,
    ⟨gRow4, aNRow, iNRow, gRow5⟩,
    nfRow_breakers,
    nfRow_step,
    nfRow_phase,
    ⟨_, ⟨⟨ocNRow, odNRow, .none, .ref aDRow, dcNRow, pmNRow, anNRow, cdNRow, ctNRow, slNRow, rfl, lNRow, cNRow, .inl ⟨rfl, rfl⟩, .inr ⟨aDRow, rfl, fun q hq => by rw [List.mem_singleton.mp hq]; exact ⟨_, dRow, _, rfl⟩⟩⟩, kNRow⟩⟩,
    mk_mth aq22 iq22 nq22 lq22 cq22 kq22 bn_q22,
    mk_mth aq23 iq23 nq23 lq23 cq23 kq23 bn_q23,
    mk_mth aq24 iq24 nq24 lq24 cq24 kq24 bn_q24,
    mk_mth aq25 iq25 nq25 lq25 cq25 kq25 bn_q25,
    mk_mth aq26 iq26 nq26 lq26 cq26 kq26 bn_q26,
    mk_mth aq27 iq27 nq27 lq27 cq27 kq27 bn_q27,
    mk_mth aq28 iq28 nq28 lq28 cq28 kq28 bn_q28,
    mk_mth aq29 iq29 nq29 lq29 cq29 kq29 bn_q29⟩
  exact ⟨_, fun s v => .of_eq rfl, fun base _ _ => ok_law (fun_mk lY cY kY) T⟩
/-- as the hand layer's end, with what the loose names hold -/
theorem walk_loose {l : PySem.W.OpenLaw} {q p : Program} {lv : List (Str × PySem.W.WData)} {loose : List Str} {YP : World → Heap → Prop} {d : DefRec} {K : Params → PySem.W.Frag} (hn : l.most = some 63) (hd : d.params.defaults = []) (hY : ∀ (w : World) (h : Heap), YP w h → (K w.params).In h)
    (F : ∀ (w : World) (mg : Str → Option Value) (fa : Addr) (h : Heap), (K w.params).In h → h.Ns mainGlobals mg → PySem.W.LooseAre lv mg h → mg d.name = some (.ref fa) → ∃ fd : FuncData, (∀ (s : Shared) (u : Value), BindsTo s fd ⟨[u], []⟩ [("_law_script", u)]) ∧ ∀ base : Heap, (K w.params).In base → base.Ns mainGlobals mg → FnOk l.prog w (K w.params) mg base CX0 12 fa fd ["_law_script"] (spLaw (K w.params))) :
    PySem.W.WalkO q loose (PySem.W.XL p lv) YP l.row.toRowW d [] (fun f vs => PySem.call f vs) := Att.attach_call hn hd fun w _ s₁ mg mb fa _ _ _ _ a vs ns G Y _ _ _ hmg hobj hints hlen hg => by
  obtain ⟨fd, hb, hF⟩ := F w mg fa s₁.heap (hY w s₁.heap Y) G.T.g G.X.2 hmg
  exact law_call (hY w s₁.heap Y) G.T.g G.T.b G.T.builtins G.T.nolimit hg hobj hints (Nat.le_trans hlen (by decide)) ⟨rfl, by decide, by decide⟩ hF hb (fun H _ hS => ⟨a, ns, rfl, hS, hlen, fun _ => rfl⟩) fun _ _ _ z => z

end Toy
open PySem PySem.W PyProof.Rows
set_option maxRecDepth 100000 in
set_option maxHeartbeats 0 in
theorem PySem.Challenge.cw_breakerrow_k40_lowerings_and_raises_trie_holds : PySem.Challenge.rw_breakerrow_k40_lowerings_and_raises_trie.Holds := by
  w_on; o_law; k_head; (case hw => w_witness2)
  k_fill
  refine Toy.walk_loose (l := PySem.Challenge.rw_breakerrow_k40_lowerings_and_raises_trie) rfl rfl (fun w h Y => PySem.W.kIn_of Y) ?F
  intro w mg fa h KX G LL hmg
  refine' Toy.all_mk KX G LL (by first | exact .head _ | exact .tail _ (.head _) | exact .tail _ (.tail _ (.head _)) | exact .tail _ (.tail _ (.tail _ (.head _))) | exact .tail _ (.tail _ (.tail _ (.tail _ (.head _)))) | exact .tail _ (.tail _ (.tail _ (.tail _ (.tail _ (.head _))))) | exact .tail _ (.tail _ (.tail _ (.tail _ (.tail _ (.tail _ (.head _)))))) | exact .tail _ (.tail _ (.tail _ (.tail _ (.tail _ (.tail _ (.tail _ (.head _))))))) | exact .tail _ (.tail _ (.tail _ (.tail _ (.tail _ (.tail _ (.tail _ (.tail _ (.head _)))))))) | exact .tail _ (.tail _ (.tail _ (.tail _ (.tail _ (.tail _ (.tail _ (.tail _ (.tail _ (.head _)))))))))) (by first | exact .head _ | exact .tail _ (.head _) | exact .tail _ (.tail _ (.head _)) | exact .tail _ (.tail _ (.tail _ (.head _))) | exact .tail _ (.tail _ (.tail _ (.tail _ (.head _)))) | exact .tail _ (.tail _ (.tail _ (.tail _ (.tail _ (.head _))))) | exact .tail _ (.tail _ (.tail _ (.tail _ (.tail _ (.tail _ (.head _)))))) | exact .tail _ (.tail _ (.tail _ (.tail _ (.tail _ (.tail _ (.tail _ (.head _))))))) | exact .tail _ (.tail _ (.tail _ (.tail _ (.tail _ (.tail _ (.tail _ (.tail _ (.head _)))))))) | exact .tail _ (.tail _ (.tail _ (.tail _ (.tail _ (.tail _ (.tail _ (.tail _ (.tail _ (.head _)))))))))) hmg ?aq0 ?lq0 ?cq0 ?kq0 ?aq1 ?lq1 ?cq1 ?kq1 ?aq2 ?lq2 ?cq2 ?kq2 ?aq3 ?lq3 ?cq3 ?kq3 ?aq4 ?lq4 ?cq4 ?kq4 ?aq5 ?lq5 ?cq5 ?kq5 ?aq6 ?lq6 ?cq6 ?kq6 ?aq7 ?lq7 ?cq7 ?kq7 ?aq8 ?lq8 ?cq8 ?kq8 ?aq9 ?lq9 ?cq9 ?kq9 ?aq10 ?lq10 ?cq10 ?kq10 ?aq11 ?lq11 ?cq11 ?kq11 ?aq12 ?lq12 ?cq12 ?kq12 ?aq13 ?lq13 ?cq13 ?kq13 ?aq14 ?lq14 ?cq14 ?kq14 ?aq15 ?lq15 ?cq15 ?kq15 ?aq16 ?lq16 ?cq16 ?kq16 ?aq17 ?lq17 ?cq17 ?kq17 ?aq18 ?lq18 ?cq18 ?kq18 ?aq19 ?lq19 ?cq19 ?kq19 ?aq20 ?lq20 ?cq20 ?kq20 ?aq21 ?lq21 ?cq21 ?kq21 ?gcRow ?gRow0 ?gRow1 ?gRow2 ?gRow3 ?gRow4 ?gRow5 ?gRow6 ?gRow7 ?gRow8 ?gRow9 ?gRow10 ?gRow11 ?gO1 ?gO2 ?nfRow_breakers ?nfRow_step ?nfRow_phase ?aNRow ?iNRow ?lNRow ?cNRow ?kNRow ?dRow ?aq22 ?iq22 ?nq22 ?lq22 ?cq22 ?kq22 ?aq23 ?iq23 ?nq23 ?lq23 ?cq23 ?kq23 ?aq24 ?iq24 ?nq24 ?lq24 ?cq24 ?kq24 ?aq25 ?iq25 ?nq25 ?lq25 ?cq25 ?kq25 ?aq26 ?iq26 ?nq26 ?lq26 ?cq26 ?kq26 ?aq27 ?iq27 ?nq27 ?lq27 ?cq27 ?kq27 ?aq28 ?iq28 ?nq28 ?lq28 ?cq28 ?kq28 ?aq29 ?iq29 ?nq29 ?lq29 ?cq29 ?kq29 ?gNMOST_BREAKERS ?gNMOST_PERIODS ?aY ?lY ?cY ?kY ?z_bool ?z_enumerate ?z_int ?z_isinstance ?z_len ?z_list ?z_max ?z_min ?z_range ?z_tuple
  (case aq0 => k_is)
  (case lq0 => k_is)
  (case cq0 => k_is)
  (case kq0 => k_is)
  (case aq1 => k_is)
  (case lq1 => k_is)
  (case cq1 => k_is)
  (case kq1 => k_is)
  (case aq2 => k_is)
  (case lq2 => k_is)
  (case cq2 => k_is)
  (case kq2 => k_is)
  (case aq3 => k_is)
  (case lq3 => k_is)
  (case cq3 => k_is)
  (case kq3 => k_is)
  (case aq4 => k_is)
  (case lq4 => k_is)
  (case cq4 => k_is)
  (case kq4 => k_is)
  (case aq5 => k_is)
  (case lq5 => k_is)
  (case cq5 => k_is)
  (case kq5 => k_is)
  (case aq6 => k_is)
  (case lq6 => k_is)
  (case cq6 => k_is)
  (case kq6 => k_is)
  (case aq7 => k_is)
  (case lq7 => k_is)
  (case cq7 => k_is)
  (case kq7 => k_is)
  (case aq8 => k_is)
  (case lq8 => k_is)
  (case cq8 => k_is)
  (case kq8 => k_is)
  (case aq9 => k_is)
  (case lq9 => k_is)
  (case cq9 => k_is)
  (case kq9 => k_is)
  (case aq10 => k_is)
  (case lq10 => k_is)
  (case cq10 => k_is)
  (case kq10 => k_is)
  (case aq11 => k_is)
  (case lq11 => k_is)
  (case cq11 => k_is)
  (case kq11 => k_is)
  (case aq12 => k_is)
  (case lq12 => k_is)
  (case cq12 => k_is)
  (case kq12 => k_is)
  (case aq13 => k_is)
  (case lq13 => k_is)
  (case cq13 => k_is)
  (case kq13 => k_is)
  (case aq14 => k_is)
  (case lq14 => k_is)
  (case cq14 => k_is)
  (case kq14 => k_is)
  (case aq15 => k_is)
  (case lq15 => k_is)
  (case cq15 => k_is)
  (case kq15 => k_is)
  (case aq16 => k_is)
  (case lq16 => k_is)
  (case cq16 => k_is)
  (case kq16 => k_is)
  (case aq17 => k_is)
  (case lq17 => k_is)
  (case cq17 => k_is)
  (case kq17 => k_is)
  (case aq18 => k_is)
  (case lq18 => k_is)
  (case cq18 => k_is)
  (case kq18 => k_is)
  (case aq19 => k_is)
  (case lq19 => k_is)
  (case cq19 => k_is)
  (case kq19 => k_is)
  (case aq20 => k_is)
  (case lq20 => k_is)
  (case cq20 => k_is)
  (case kq20 => k_is)
  (case aq21 => k_is)
  (case lq21 => k_is)
  (case cq21 => k_is)
  (case kq21 => k_is)
  (case gcRow => k_is)
  (case gRow0 => k_is)
  (case gRow1 => k_is)
  (case gRow2 => k_is)
  (case gRow3 => k_is)
  (case gRow4 => k_is)
  (case gRow5 => k_is)
  (case gRow6 => k_is)
  (case gRow7 => k_is)
  (case gRow8 => k_is)
  (case gRow9 => k_is)
  (case gRow10 => k_is)
  (case gRow11 => k_is)
  (case gO1 => k_is)
  (case gO2 => k_is)
  (case nfRow_breakers => k_is)
  (case nfRow_step => k_is)
  (case nfRow_phase => k_is)
  (case aNRow => k_is)
  (case iNRow => k_is)
  (case lNRow => k_is)
  (case cNRow => k_is)
  (case kNRow => k_is)
  (case dRow => k_is)
  (case aq22 => k_is)
  (case iq22 => k_is)
  (case nq22 => k_is)
  (case lq22 => k_is)
  (case cq22 => k_is)
  (case kq22 => k_is)
  (case aq23 => k_is)
  (case iq23 => k_is)
  (case nq23 => k_is)
  (case lq23 => k_is)
  (case cq23 => k_is)
  (case kq23 => k_is)
  (case aq24 => k_is)
  (case iq24 => k_is)
  (case nq24 => k_is)
  (case lq24 => k_is)
  (case cq24 => k_is)
  (case kq24 => k_is)
  (case aq25 => k_is)
  (case iq25 => k_is)
  (case nq25 => k_is)
  (case lq25 => k_is)
  (case cq25 => k_is)
  (case kq25 => k_is)
  (case aq26 => k_is)
  (case iq26 => k_is)
  (case nq26 => k_is)
  (case lq26 => k_is)
  (case cq26 => k_is)
  (case kq26 => k_is)
  (case aq27 => k_is)
  (case iq27 => k_is)
  (case nq27 => k_is)
  (case lq27 => k_is)
  (case cq27 => k_is)
  (case kq27 => k_is)
  (case aq28 => k_is)
  (case iq28 => k_is)
  (case nq28 => k_is)
  (case lq28 => k_is)
  (case cq28 => k_is)
  (case kq28 => k_is)
  (case aq29 => k_is)
  (case iq29 => k_is)
  (case nq29 => k_is)
  (case lq29 => k_is)
  (case cq29 => k_is)
  (case kq29 => k_is)
  (case gNMOST_BREAKERS => k_is)
  (case gNMOST_PERIODS => k_is)
  (case aY => k_is)
  (case lY => k_is)
  (case cY => k_is)
  (case kY => k_is)
  (case z_bool => k_is)
  (case z_enumerate => k_is)
  (case z_int => k_is)
  (case z_isinstance => k_is)
  (case z_len => k_is)
  (case z_list => k_is)
  (case z_max => k_is)
  (case z_min => k_is)
  (case z_range => k_is)
  (case z_tuple => k_is)
