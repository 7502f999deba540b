import PyProof.Rows.All
import Wide.All
import OpenK.AllK
import Wide.FinOn
import KE.KCallOwn
import KE.KEqDict
import PyProof.InstEq
import HandS.Base
import HandS.Call
import HandS.List
import HandS.Dict
import HandS.More
import HandS.Comp
import HandS.Words
import HandS.Property
import HandS.IsInst
import PyProof.Rows.SortShellAny
import PyProof.Rows.SetFrom
import HandS.Set
import PyProof.Rows.StrCountLaw
import HandS.ForMost
import HandS.Wide
import HandS.StrMore
import HandS.Style
import PyProof.ReprReads
import HandS.Ends
import PyProof.ReprRoads
import PyProof.TupleOfSeq
import KE.KExcInit
import HandS.ForExc
import HandS.TryMany
import HandS.Defaults
import HandS.Deep
import HandS.ExcValue
import KE.KExcMake
import KE.KExcIs
import HandS.Lambda
import HandS.EndBits
import KE.KNest
import HandS.Walk
import HandS.FStr
import HandS.DictComp
import HandS.ListItems
import HandS.TupAny
import HandS.Star
import HandS.Strs
import HandS.Small
import HandS.SetFor
import PyProof.Rows.StrSplitCount
import PyProof.Rows.StrSplitJoin
import HandS.Flow
import HandS.Zip
import KE.GoesMore
import KE.GoesZip
import PyProof.Rows.RegFStrParts
import HandS.ReCall
import KE.SortCalls
import HandS.TupMul
import PyProof.StrOps2
import KE.KExcLine
import PySem.Challenge.RW_linkbooks_k16_errors_of_rows
set_option Elab.async false
set_option linter.all false
set_option maxRecDepth 100000
set_option maxHeartbeats 4000000
namespace Gx
open PySem PySem.Spec PySem.Calls PyProof.Rows L2
/-! ### own protocols: in, [], len, str, == and != of instances -/
theorem rel_ref (a : Addr) : RelV (V.ref a) (Value.ref a) := rfl
/-- a method of the class at C that keeps the promise sp, by at most level k -/
def CalM (P : Program) (w : World) (K : PySem.W.Frag) (mg : Str → Option Value) (base : Heap) (C : Addr) (m : Str) (k : Nat) (ps : List Str) (sp : Sp) : Prop :=
  ∃ (f : Addr) (fd : FuncData), FnOk P w K mg base CX0 k f fd ps sp ∧ Meth K C m f ∧ Binds K fd ps [] ∧ PySem.W.fnIn K f = true
theorem CalM.mono {P : Program} {w : World} {K : PySem.W.Frag} {mg : Str → Option Value} {base : Heap} {C : Addr} {m : Str} {j k : Nat} {ps : List Str} {sp : Sp} (c : CalM P w K mg base C m j ps sp) (h : j ≤ k) : CalM P w K mg base C m k ps sp := by
  obtain ⟨f, fd, F, more⟩ := c
  exact ⟨f, fd, F.mono h, more⟩
section
variable {X : Cx} {C : Addr} {k : Nat} {ps : List Str} {sp : Sp} {m : Str}
/-- the method runs, somewhere below the body -/
theorem run_below {f : Addr} {fd : FuncData} {A : Around} {pins : List (Addr × Obj)} {σ : L2.St} {H : Hp} {s : Shared} {us : List Value} {vs : List V} {Q : VK} {E : Value → Shared → Prop} (F : FnOk X.prog X.w X.K X.mg X.base CX0 k f fd ps sp) (room : Room k A) (fr : A.frames = X.A.frames) (b : Binds X.K fd ps [])
    (I : Inv X pins σ H s) (r : Vals vs us) (want : sp vs H Q E0) : wpAny (model X.prog X.w) A (call (.ref f) us) (EP X pins σ Q) E s := by
  have e0 : Env0 X.prog X.w X.K X.mg X.base A X.stack s H := by
    have e := I.env0
    exact ⟨by rw [fr]; exact e.frames, e.mod, e.bs, e.bsz, e.funs, e.frf, e.hok, e.bare⟩
  have hl : us.length = ps.length := r.length.symm.trans (F.len _ _ _ _ want)
  have bt : BindsTo s fd ⟨us, []⟩ (ps.zip us) := by
    have q := b s us I.kIn (by rw [List.append_nil]; exact hl)
    rw [List.append_nil] at q
    exact q
  refine wpAny_call (codeAny_mono (F.run A X.stack s H ⟨us, []⟩ us vs Q E0 room e0 bt r want) fun res s' hres => ?_)
  match res, hres with
  | .error e, hres => exact hres.elim
  | .ok (.ret u), hres => exact I.after hres
/-- x in o, x not in o -/
def rInM (C : Addr) (sp : Sp) (neg : Bool) : R2 := fun x y H Q => ∃ a dx fs, y = .ref a ∧ H a = some (.ins C dx fs) ∧ sp [.ref a, x] H (fun v H' => ∃ b, v = .bl b ∧ Q (.bl (if neg then !b else b)) H') E0
theorem op_inM (c : CalM X.prog X.w X.K X.mg X.base C "__contains__" k ps sp) (hr : Room k X.A) : OpR X (compareOp .In) (rInM C sp false) := by
  intro pins s σ H x y v u Q I rx ry h
  obtain ⟨f, fd, F, me, b, _⟩ := c
  obtain ⟨a, dx, fs, rfl, ea, q⟩ := h
  obtain rfl : u = Value.ref a := ry
  obtain ⟨mA, O, _⟩ := ins_get I.hok ea
  obtain ⟨od, J, _⟩ := O.look
  obtain ⟨mm, hF⟩ := I.fr
  refine PySem.W.in_K hF I.ok.mod.kin J me.at_ me.fn (wpAny_mono (run_below F hr rfl b I (.cons (rel_ref a) (.cons rx .nil)) q) (fun r s' z => ?_) fun _ _ e => e)
  obtain ⟨v', H', I', rv, t, rfl, q'⟩ := z
  cases rv
  exact wpAny_truthy_bool ⟨.bl t, H', I', rfl, q'⟩
theorem op_notinM (c : CalM X.prog X.w X.K X.mg X.base C "__contains__" k ps sp) (hr : Room k X.A) : OpR X (compareOp .NotIn) (rInM C sp true) := by
  intro pins s σ H x y v u Q I rx ry h
  obtain ⟨f, fd, F, me, b, _⟩ := c
  obtain ⟨a, dx, fs, rfl, ea, q⟩ := h
  obtain rfl : u = Value.ref a := ry
  obtain ⟨mA, O, _⟩ := ins_get I.hok ea
  obtain ⟨od, J, _⟩ := O.look
  obtain ⟨mm, hF⟩ := I.fr
  refine PySem.W.notIn_K hF I.ok.mod.kin J me.at_ me.fn (wpAny_mono (run_below F hr rfl b I (.cons (rel_ref a) (.cons rx .nil)) q) (fun r s' z => ?_) fun _ _ e => e)
  obtain ⟨v', H', I', rv, t, rfl, q'⟩ := z
  cases rv
  exact wpAny_truthy_bool ⟨.bl (!t), H', I', rfl, q'⟩
/-- o[x] -/
def rIxM (C : Addr) (sp : Sp) : R2 := fun x y H Q => ∃ a dx fs, x = .ref a ∧ H a = some (.ins C dx fs) ∧ sp [.ref a, y] H Q E0
theorem pe_ixM {a b : Expr} {ta tb : TE} {pos : Pos} (c : CalM X.prog X.w X.K X.mg X.base C "__getitem__" k ps sp) (hr : Room (k + 1) X.A) (ha : PE X a ta) (hb : PE X b tb)
    (hs : ∀ v u, subscripted b true v u = runValue (.builtin "lifetime.subscript" ⟨[v, u], []⟩)) : PE X (.Subscript a b pos) (tOp (rIxM C sp) ta tb) := by
  obtain ⟨f, fd, F, me, bi, fi⟩ := c
  refine ⟨fun pins s σ H Q I h => ?_⟩
  refine Subscript_ (binT ha hb I h fun v u s2 x y H2 I2 rx ry q => ?_)
  obtain ⟨p, dx, fs, rfl, ea, q⟩ := q
  obtain rfl : v = Value.ref p := rx
  obtain ⟨mA, O, _⟩ := ins_get I2.hok ea
  obtain ⟨od, J, _⟩ := O.look
  obtain ⟨mm, hF⟩ := I2.fr
  exact PySem.W.sub_K hF I2.ok.mod.kin J me.at_ fi me.fn (run_below F hr.in1 rfl bi I2 (.cons (rel_ref _) (.cons ry .nil)) q) (hs _ _)
/-- len(o) -/
def rLenM (C : Addr) (sp : Sp) : List V → Hp → VK → Prop := fun vs H Q => ∃ a dx fs, vs = [.ref a] ∧ H a = some (.ins C dx fs) ∧ sp [.ref a] H (fun v H' => ∃ n : Nat, v = .int n ∧ n ≤ 1000000 ∧ Q (.int n) H') E0
theorem call_lenM (c : CalM X.prog X.w X.K X.mg X.base C "__len__" k ps sp) (hr : Room (k + 1) X.A) : CallR X (.builtin "len") (rLenM C sp) := by
  intro pins s σ H xs us Q I r h
  obtain ⟨f, fd, F, me, b, _⟩ := c
  obtain ⟨a, dx, fs, rfl, ea, q⟩ := h
  rw [Vals.ref1 r]
  obtain ⟨mA, O, _⟩ := ins_get I.hok ea
  obtain ⟨od, J, _⟩ := O.look
  obtain ⟨mm, hF⟩ := I.fr
  refine PySem.W.len_K hF I.ok.mod.kin J me.at_ me.fn (wpAny_mono (run_below F hr.in1 rfl b I (.cons (rel_ref a) .nil) q) (fun r s' z => ?_) fun _ _ e => e)
  obtain ⟨v', H', I', rv, n, rfl, hn, q'⟩ := z
  obtain ⟨t, rfl⟩ := (show ∃ t, r = Value.int n t from rv)
  exact ⟨⟨by omega, by omega⟩, .int n, H', I'.tok _, ⟨_, rfl⟩, q'⟩
/-- str(o) -/
def rStrM (C : Addr) (sp : Sp) : List V → Hp → VK → Prop := fun vs H Q => ∃ a dx fs, vs = [.ref a] ∧ H a = some (.ins C dx fs) ∧ sp [.ref a] H (fun v H' => ∃ z : Str, v = .str z ∧ Q (.str z) H') E0
theorem call_strM (c : CalM X.prog X.w X.K X.mg X.base C "__str__" k ps sp) (hr : Room (k + 2) X.A) : CallR X (.type "str") (rStrM C sp) := by
  intro pins s σ H xs us Q I r h
  obtain ⟨f, fd, F, me, b, _⟩ := c
  obtain ⟨a, dx, fs, rfl, ea, q⟩ := h
  rw [Vals.ref1 r]
  obtain ⟨mA, O, _⟩ := ins_get I.hok ea
  obtain ⟨od, J, _⟩ := O.look
  have r2 : Room k X.A.in1.in1 := (hr.in1).in1
  refine PySem.W.kso_call r2.units0 I.kIn J me.at_ me.fn (wpAny_mono (run_below F r2 rfl b I (.cons (rel_ref a) .nil) q) (fun r s' z => ?_) fun _ _ e => e)
  obtain ⟨v', H', I', rv, y, rfl, q'⟩ := z
  obtain ⟨t, rfl⟩ := (show ∃ t, r = Value.str y t from rv)
  exact ⟨.str y, H', I', ⟨_, rfl⟩, q'⟩
/-- what an instance of the class at C may be compared with: another one, a tuple, a dict -/
inductive Oth (K : PySem.W.Frag) (H : Hp) (C : Addr) : V → Value → Prop
  | ins {a dx : Addr} {fs : List (Str × V)} (e : H a = some (.ins C dx fs)) : Oth K H C (.ref a) (.ref C)
  | tup {a : Addr} {xs : List V} (e : SqT K H a xs) : Oth K H C (.ref a) (.type "tuple")
  | dict {a : Addr} {kvs : List (Key × V)} (e : H a = some (.dK kvs)) : Oth K H C (.ref a) (.type "dict")
theorem sub_tuple_own {K : PySem.W.Frag} {C : Addr} : PySem.W.subIn K (.type "tuple") (.ref C) = some false := by
  have e : fastBuiltinMro "tuple" = some [.type "tuple", .type "object"] := by decide +kernel
  show (fastBuiltinMro "tuple").map (·.contains (.ref C)) = some false
  rw [e]
  first
    | rfl
    | simp
theorem sub_dict_own {K : PySem.W.Frag} {C : Addr} : PySem.W.subIn K (.type "dict") (.ref C) = some false := by
  have e : fastBuiltinMro "dict" = some [.type "dict", .type "object"] := by decide +kernel
  show (fastBuiltinMro "dict").map (·.contains (.ref C)) = some false
  rw [e]
  first
    | rfl
    | simp
theorem Oth.looks {M : Model} {pins : List (Addr × Obj)} {σ : L2.St} {H : Hp} {s : Shared} {y : V} {u t : Value} (I : Inv X pins σ H s) (o : Oth X.K H C y t) (r : RelV y u) :
    PySem.W.Looks M s.heap (typeOf u) t ∧ PySem.W.notFirst X.K C t = true := by
  cases o with
  | @ins a dx fs e =>
    obtain rfl : u = Value.ref a := r
    obtain ⟨mA, O, _⟩ := ins_get I.hok e
    obtain ⟨od, J, _⟩ := O.look
    exact ⟨J.type, by simp [PySem.W.notFirst]⟩
  | @tup a xs e =>
    obtain rfl : u = Value.ref a := r
    obtain ⟨its, rv, ⟨ob, ho, hc, _⟩, _⟩ := I.tuple e
    refine ⟨?_, by simp [PySem.W.notFirst, sub_tuple_own]⟩
    intro A Q E s' kp q
    exact wpAny_typeOf (T := "tuple") ⟨ob, kp _ _ ho, hc⟩ q
  | @dict a kvs e =>
    obtain rfl : u = Value.ref a := r
    obtain ⟨_, _, vs, _, dd⟩ := dk_of I.hok e
    refine ⟨?_, by simp [PySem.W.notFirst, sub_dict_own]⟩
    intro A Q E s' kp q
    obtain ⟨ob, ho, hc⟩ := dd.typeIs
    exact wpAny_typeOf (T := "dict") ⟨ob, kp _ _ ho, hc⟩ q
/-- o == y by the class's own == -/
def rEqM (K : PySem.W.Frag) (C : Addr) (sp : Sp) : R2 := fun x y H Q => ∃ a dx fs t, x = .ref a ∧ H a = some (.ins C dx fs) ∧ Oth K H C y t ∧ sp [.ref a, y] H (fun v H' => ∃ b, v = .bl b ∧ Q (.bl b) H') E0
theorem op_eqM (c : CalM X.prog X.w X.K X.mg X.base C "__eq__" k ps sp) (hr : Room k X.A) : OpR X (compareOp .Eq) (rEqM X.K C sp) := by
  intro pins s σ H x y v u Q I rx ry h
  obtain ⟨f, fd, F, me, b, _⟩ := c
  obtain ⟨a, dx, fs, t, rfl, ea, o, q⟩ := h
  obtain rfl : v = Value.ref a := rx
  obtain ⟨mA, O, _⟩ := ins_get I.hok ea
  obtain ⟨od, J, _⟩ := O.look
  obtain ⟨mm, hF⟩ := I.fr
  obtain ⟨lk, nf⟩ := o.looks (M := model X.prog X.w) I ry
  show wpAny _ _ (richCompare .Eq (.ref a) u) _ _ _
  refine PySem.W.cmp_K (op := .Eq) hr.units0 hF I.ok.mod.kin J lk nf me.at_ me.fn (wpAny_mono (run_below F hr rfl b I (.cons (rel_ref _) (.cons ry .nil)) q) (fun r s' z => ?_) fun _ _ e => e)
  obtain ⟨v', H', I', rv, t, rfl, q'⟩ := z
  cases rv
  exact ⟨.bl t, H', I', rfl, q'⟩
end
section
variable {prog : Program} {w : World} {A : Around} {E : Value → Shared → Prop} {s : Shared} {K : PySem.W.Frag} {x C f : Addr} {ox : Obj} {od : Option Obj} {y : Value}
theorem objNe_by (inK : K.In s.heap) (J : PySem.W.InstAt s.heap x ox C od) (hs : PySem.W.findIn K (.ref C) "__eq__" = some (some (.ref f))) (hf : PySem.W.isFn K (.ref f) = true) (hu : A.units < cLine) {Q : Fin → Shared → Prop}
    (hcall : wpAny (model prog w) A (call (.ref f) [.ref x, y]) (fun v s' => ∃ b, v = .bool b ∧ Q (.done (.ret (.bool (!b)))) s') E s) : wpAny (model prog w) A (Builtin.«object.__ne__» ⟨[.ref x, y], []⟩) Q E s := by
  unfold Builtin.«object.__ne__»
  repeat (first
    | with_reducible refine wpAny_cRoomFor hu ?_
    | (refine wpAny_bind (m := callSpecialIfBound? (.ref x) (Str.ofString "__eq__") [y]) (PySem.W.ifBound_K inK J hs hf (wpAny_mono hcall (fun r s' hr => by
          obtain ⟨b, rfl, hq⟩ := hr
          repeat (first | exact hq | exact wpAny_pure hq | exact wpAny_truthy_bool hq | (refine wpAny_bind (m := truthy (.bool _)) (wpAny_truthy_bool ?_)) | wp_step)) fun _ _ e => e)))
    | wp_step)
theorem bound_ne {args : List Value} {Q : Option Value → Shared → Prop} (inK : K.In s.heap) (J : PySem.W.InstAt s.heap x ox C od) (hs : PySem.W.findIn K (.ref C) "__ne__" = some (some (.builtin "object.__ne__")))
    (h : wpAny (model prog w) A (call (.builtin "object.__ne__") (.ref x :: args)) (fun v => Q (some v)) E s) : wpAny (model prog w) A (callSpecialIfBound? (.ref x) "__ne__" args) Q E s := by
  simp only [callSpecialIfBound?, bindSpecialIfBound?]
  refine wpAny_holding (wpAny_bind (wpAny_bind (wpAny_bind (J.type.here ((PySem.W.looks_findIn inK hs).here ?_)))))
  refine wpAny_bind (wpAny_askSetting (wpAny_ite ?_))
  have last : wpAny (model prog w) A (call (.builtin "object.__ne__") ([.ref x] ++ args) >>= fun v => pure (some v)) Q E s := wpAny_bind (wpAny_mono h (fun v s' h' => wpAny_pure h') fun _ _ h' => h')
  split
  · exact wpAny_bind (wpAny_of_eq (PySem.F.cmp_object.ne.bind _) (wpAny_pure (by exact last)))
  · exact wpAny_tryCatch (wpAny_bind (wpAny_of_eq (PySem.F.cmp_object.ne.bind _) (wpAny_pure (by exact last))))
theorem rc_neM {tb : Value} {Q : Value → Shared → Prop} (inK : K.In s.heap) (J : PySem.W.InstAt s.heap x ox C od) (hm : PySem.W.mroIn K C (.type "object") = some true) (hn : PySem.W.findIn K (.ref C) "__ne__" = some (some (.builtin "object.__ne__")))
    (hs : PySem.W.findIn K (.ref C) "__eq__" = some (some (.ref f))) (hf : PySem.W.isFn K (.ref f) = true) (hu : A.units < cLine) (hu1 : A.in1.units < cLine) (lk : PySem.W.Looks (model prog w) s.heap (typeOf y) tb) (nf : PySem.W.notFirst K C tb = true)
    (hcall : wpAny (model prog w) A.in1 (call (.ref f) [.ref x, y]) (fun v s' => ∃ b, v = .bool b ∧ Q (.bool (!b)) s') E s) : wpAny (model prog w) A (richCompare .NotEq (.ref x) y) Q E s := by
  have one : wpAny (model prog w) A (tryCompare (.ref x) "__ne__" y) (fun r s' => ∃ v, r = some v ∧ Q v s') E s := by
    unfold tryCompare
    refine wpAny_bind (bound_ne inK J hn (wpAny_call (codeAny_call_builtin PySem.F.cmp_object.ne.plain PySem.F.cmpEntry_ne
      (PySem.W.check_slot PySem.F.cmpKind_ne PySem.F.cmpSplit_ne (J.type.andThen (PySem.W.looks_mroIn inK hm)) (PySem.F.cmpArgs_ne _ _) (objNe_by inK J hs hf hu1 (wpAny_mono hcall (fun v s' hv => ?_) fun _ _ e => e))))))
    obtain ⟨b, rfl, q⟩ := hv
    first
      | exact ⟨b, rfl, wpAny_pure ⟨_, rfl, q⟩⟩
      | exact ⟨b, rfl, wpAny_pure (wpAny_pure ⟨_, rfl, q⟩)⟩
      | exact ⟨b, rfl, ⟨_, rfl, q⟩⟩
  unfold richCompare
  simp only [oneThing_ref]
  refine wpAny_holding (wpAny_bind (wpAny_cRoomFor hu ?_))
  refine wpAny_bind (J.type.here (wpAny_bind (lk.here ?_)))
  split
  · rename_i q
    have e : PySem.W.subIn K tb (.ref C) = some false := by
      rcases Bool.or_eq_true_iff.mp nf with e | e
      · rw [beq_iff_eq.mp e] at q
        simp at q
      · exact beq_iff_eq.mp e
    refine wpAny_bind ((PySem.W.looks_subIn inK e).here ?_)
    simp only [Bool.false_eq_true, if_false]
    refine wpAny_bind (wpAny_mono one (fun r s' z => ?_) fun _ _ e => e)
    obtain ⟨v, rfl, hq⟩ := z
    exact wpAny_pure hq
  · refine wpAny_bind (wpAny_pure ?_)
    simp only [Bool.false_eq_true, if_false]
    refine wpAny_bind (wpAny_mono one (fun r s' z => ?_) fun _ _ e => e)
    obtain ⟨v, rfl, hq⟩ := z
    exact wpAny_pure hq
end
section
variable {X : Cx} {C : Addr} {k : Nat} {ps : List Str} {sp : Sp}
/-- o != y, the class having no != of its own -/
def rNeM (K : PySem.W.Frag) (C : Addr) (sp : Sp) : R2 := fun x y H Q => ∃ a dx fs t, x = .ref a ∧ H a = some (.ins C dx fs) ∧ Oth K H C y t ∧ sp [.ref a, y] H (fun v H' => ∃ b, v = .bl b ∧ Q (.bl (!b)) H') E0
theorem op_neM (c : CalM X.prog X.w X.K X.mg X.base C "__eq__" k ps sp) (hn : PySem.W.findIn X.K (.ref C) "__ne__" = some (some (.builtin "object.__ne__"))) (hm : PySem.W.mroIn X.K C (.type "object") = some true) (hr : Room (k + 1) X.A) :
    OpR X (compareOp .NotEq) (rNeM X.K C sp) := by
  intro pins s σ H x y v u Q I rx ry h
  obtain ⟨f, fd, F, me, b, _⟩ := c
  obtain ⟨a, dx, fs, t, rfl, ea, o, q⟩ := h
  obtain rfl : v = Value.ref a := rx
  obtain ⟨mA, O, _⟩ := ins_get I.hok ea
  obtain ⟨od, J, _⟩ := O.look
  obtain ⟨lk, nf⟩ := o.looks (M := model X.prog X.w) I ry
  show wpAny _ _ (richCompare .NotEq (.ref a) u) _ _ _
  refine rc_neM I.kIn J hm hn me.at_ me.fn hr.units0 hr.in1.units0 lk nf (wpAny_mono (run_below F hr.in1 rfl b I (.cons (rel_ref _) (.cons ry .nil)) q) (fun r s' z => ?_) fun _ _ e => e)
  obtain ⟨v', H', I', rv, t, rfl, q'⟩ := z
  cases rv
  exact ⟨t, rfl, .bl (!t), H', I', rfl, q'⟩
/-! ### dicts of data compared -/
/-- the pairs ks, one by one, in the dict of the pairs ls -/
inductive HitsV (K : PySem.W.Frag) (H : Hp) (ls : List (Key × V)) : List (Key × V) → Bool → Prop
  | nil : HitsV K H ls [] true
  | miss {p : Key × V} {r : List (Key × V)} (e : valV ls p.1 = none) : HitsV K H ls (p :: r) false
  | hit {p : Key × V} {r : List (Key × V)} {y : V} {d e : PyData} {b : Bool} (at_ : valV ls p.1 = some y) (hd : Dp K H p.2 d) (he : Dp K H y e) (sd : SeqAt.shaped d = true) (se : SeqAt.shaped e = true) (more : HitsV K H ls r b) : HitsV K H ls (p :: r) (PyData.eqv d e && b)
theorem HitsV.raw {pins : List (Addr × Obj)} {σ : L2.St} {H : Hp} {s : Shared} (I : Inv X pins σ H s) (hu : X.A.in1.units + 64 < cLine) {ls : List (Key × V)} {vb : List (Key × Value)} (rb : KV ls vb) {ks : List (Key × V)} {r : Bool} (h : HitsV X.K H ls ks r) :
    ∀ {va : List (Key × Value)}, KV ks va → PySem.W.KeqHits X.A.in1 s vb va r := by
  induction h with
  | nil =>
    intro va ra
    unfold KV at ra
    cases ra
    exact .nil
  | @miss p r e =>
    intro va ra
    unfold KV at ra
    cases ra with
    | @cons _ q _ qs h t =>
      obtain ⟨k, v⟩ := q
      obtain ⟨h1, h2⟩ := h
      have h1' : p.1 = k := h1
      have rr := rb.val p.1
      rw [e, h1'] at rr
      refine .miss ?_
      cases c : valueAt vb k with
      | none => rfl
      | some z => rw [c] at rr; exact rr.elim
  | @hit p r y d e b at_ hd he sd se more ih =>
    intro va ra
    unfold KV at ra
    cases ra with
    | @cons _ q _ qs h t =>
      obtain ⟨k, v⟩ := q
      obtain ⟨h1, h2⟩ := h
      have h1' : p.1 = k := h1
      have rr := rb.val p.1
      rw [at_, h1'] at rr
      obtain ⟨z, hz, rz⟩ := RelO.some_of rr
      obtain ⟨as, r1⟩ := Dp.reads I d p.2 v hd h2
      obtain ⟨bs, r2⟩ := Dp.reads I e y z he rz
      exact .hit hz (PySem.W.keq_at r1 r2 sd se hu) (ih t)
def rEqDX (K : PySem.W.Frag) : R2 := fun x y H Q => ∃ a b ks ls r, x = .ref a ∧ y = .ref b ∧ H a = some (.dK ks) ∧ H b = some (.dK ls) ∧ (ks.length = ls.length → HitsV K H ls ks r) ∧ Q (.bl (ks.length == ls.length && r)) H
theorem op_eqDX (hu : X.A.units + 66 < cLine) : OpR X (compareOp .Eq) (rEqDX X.K) := by
  intro pins s σ H x y v u Q I rx ry h
  obtain ⟨a, b, ks, ls, r, rfl, rfl, ea, eb, hits, q⟩ := h
  obtain rfl : v = Value.ref a := rx
  obtain rfl : u = Value.ref b := ry
  obtain ⟨_, ya, va, ra, da⟩ := dk_of I.hok ea
  obtain ⟨_, yb, vb, rb, db⟩ := dk_of I.hok eb
  have l1 := ra.length
  have l2 := rb.length
  have u1 : X.A.in1.units + 64 < cLine := by
    have e : X.A.in1.units ≤ X.A.units + 1 := by
      show X.A.units + 1 ≤ _
      exact Nat.le_refl _
    omega
  refine PySem.W.keq_eq (knd := mixKind X.prog X.w) (r := r) ya yb da db (by omega) (fun e => (hits (by omega)).raw I u1 rb ra) (fin_bl I q ?_)
  rw [l1, l2]
/-! ### a star before a dict -/
def tStarD (te : TE) (t : TA) : TA := fun σ H Q => te σ H fun x H1 => ∃ p kvs, x = V.ref p ∧ H1 p = some (.dK kvs) ∧ t σ H1 fun ys H2 => Q ((kvs.map fun kv => kV kv.1) ++ ys) H2
theorem star_dict {pins : List (Addr × Obj)} {σ : L2.St} {H : Hp} {s : Shared} (hc : X.calm = true) {a : Addr} {kvs : List (Key × V)} {E : Value → Shared → Prop} {Q : List Value → Shared → Prop} (I : Inv X pins σ H s) (h : H a = some (.dK kvs)) (hQ : ∀ us s', Inv X pins σ H s' → Vals (kvs.map fun kv => kV kv.1) us → Q us s') :
    PySem.W.StarOf (model X.prog X.w) X.A E (.ref a) Q s := by
  obtain ⟨z, lo, vs, rel, dd⟩ := dk_of I.hok h
  obtain ⟨ep, hat⟩ := dd.dictAt
  have hT : s.TypeIs (.ref a) "dict" := dd.typeIs
  have z2 : vs.length ≤ sizeLine := by rw [← rel.length]; exact z
  have ek : (kvs.map fun kv => kV kv.1) = vs.map fun p => kV p.1 := by
    have e := congrArg (List.map kV) rel.keys
    rw [List.map_map, List.map_map] at e
    exact e
  have g : wpAny (model X.prog X.w) X.A (collect (.ref a)) Q E s := by
    refine PySem.W.kdu_collect (PySem.W.kdl_dict (knd := mixKind X.prog X.w) (kvs := vs) (ep := ep) lo) (I.ok.hd hc) hat z2 fun h' tk acc hk hacc => ?_
    have hv : Vals (vs.map fun p => kV p.1) acc.toList := keys_at (by rw [Array.length_toList]; exact hacc.1) fun j v e => hacc.2 j v (by rw [← Array.getElem?_toList]; exact e)
    exact hQ _ _ (I.kept (t' := tk) hk) (by rw [ek]; exact hv)
  unfold PySem.W.StarOf notIterableAtAll
  exact wpAny_bind (wpAny_specialOf hT PySem.F.slot_dict_iter.lookup (wpAny_pure ⟨rfl, g⟩))
theorem pa_starD {e : Expr} {es : List Expr} {te : TE} {t : TA} {p : Pos} (hc : X.calm = true) (he : PE X e te) (hr : PA X es t) (hs : starEach (.Starred e p :: es) X.env = (true, eval e X.env) :: starEach es X.env := by rfl) : PA X (.Starred e p :: es) (tStarD te t) := by
  refine ⟨fun pos pins s σ H Q I h => ?_⟩
  refine PySem.W.items_star (thn (he.run pins s σ H _ I h) fun v s1 ⟨y, H1, I1, ry, a, kvs, ey, hx, q⟩ => ?_) hs
  subst ey
  obtain rfl : v = Value.ref a := ry
  refine star_dict hc I1 hx fun us s2 I2 rv => ?_
  exact thn (hr.run pos pins s2 σ H1 _ I2 q) fun ws s3 ⟨vs, H3, I3, r3, q3⟩ => ⟨_, H3, I3, rv.append r3, q3⟩
end
end Gx

set_option maxRecDepth 100000
set_option maxHeartbeats 4000000
namespace Gx
open PySem PySem.Spec PyProof.Rows L2
/-! ### classes of the top: methods, properties, making -/
theorem fn_in {K : PySem.W.Frag} {f : Addr} {oc : Value} {od : Option Addr} {fd : FuncData} {sl : Array (Option Value)} (l : K.lookup f = some ⟨oc, od, .func fd, sl⟩) : PySem.W.fnIn K f = true := by
  unfold PySem.W.fnIn
  rw [l]
/-- the class at C has the def st as its property m -/
def PropD (K : PySem.W.Frag) (C : Addr) (m qual : Str) (st : Stmt) : Prop := ∃ (p f : Addr) (fd : FuncData), PropOf K C m p f ∧ Fun K m qual st f fd ∧ Binds K fd ["self"] []
/-- .. as its method m -/
def DefM (K : PySem.W.Frag) (C : Addr) (m qual : Str) (st : Stmt) (ps : List Str) : Prop := ∃ (f : Addr) (fd : FuncData), Fun K m qual st f fd ∧ Meth K C m f ∧ Binds K fd ps [] ∧ PySem.W.fnIn K f = true
/-- a property that keeps the promise sp -/
def CalP (P : Program) (w : World) (K : PySem.W.Frag) (mg : Str → Option Value) (base : Heap) (C : Addr) (m : Str) (k : Nat) (sp : Sp) : Prop :=
  ∃ (p f : Addr) (fd : FuncData), PropOf K C m p f ∧ FnOk P w K mg base CX0 k f fd ["self"] sp ∧ Binds K fd ["self"] []
/-- C(..) by its __init__'s promise -/
def CalI (P : Program) (w : World) (K : PySem.W.Frag) (mg : Str → Option Value) (base : Heap) (C : Addr) (k : Nat) (ps : List Str) (sp : Sp) : Prop :=
  ∃ (f : Addr) (fd : FuncData), Mk K C f ∧ FnOk P w K mg base CX0 k f fd ps sp ∧ Binds K fd ps []
section
variable {P : Program} {w : World} {K : PySem.W.Frag} {mg : Str → Option Value} {base : Heap} {C : Addr} {m qual : Str} {st : Stmt} {k : Nat} {ps : List Str} {sp : Sp}
theorem DefM.cal (d : DefM K C m qual st ps) (h : ∀ f fd, Fun K m qual st f fd → FnOk P w K mg base CX0 k f fd ps sp) : CalM P w K mg base C m k ps sp := by
  obtain ⟨f, fd, F, me, b, fi⟩ := d
  exact ⟨f, fd, h f fd F, me, b, fi⟩
theorem PropD.cal (d : PropD K C m qual st) (h : ∀ f fd, Fun K m qual st f fd → FnOk P w K mg base CX0 k f fd ["self"] sp) : CalP P w K mg base C m k sp := by
  obtain ⟨p, f, fd, pr, F, b⟩ := d
  exact ⟨p, f, fd, pr, h f fd F, b⟩
theorem CalP.mono {j : Nat} (c : CalP P w K mg base C m j sp) (h : j ≤ k) : CalP P w K mg base C m k sp := by
  obtain ⟨p, f, fd, pr, F, b⟩ := c
  exact ⟨p, f, fd, pr, F.mono h, b⟩
theorem CalI.mono {j : Nat} (c : CalI P w K mg base C j ps sp) (h : j ≤ k) : CalI P w K mg base C k ps sp := by
  obtain ⟨f, fd, M, F, b⟩ := c
  exact ⟨f, fd, M, F.mono h, b⟩
end
section
variable {X : Cx} {C : Addr} {m x : Str} {k : Nat} {ps : List Str} {sp : Sp} {ta : TE} {t : TA} {o e : Expr} {es : List Expr} {pos apos p : Pos}
/-- o.m, a property -/
def tPropC (C : Addr) (sp : Sp) (ta : TE) : TE := fun σ H Q => ta σ H fun x H1 => ∃ a dx fs, x = .ref a ∧ H1 a = some (.ins C dx fs) ∧ sp [.ref a] H1 Q E0
theorem pe_propC (he : PE X o ta) (cl : Cls X.K C) (c : CalP X.prog X.w X.K X.mg X.base C m k sp) (hr : Room (k + 1) X.A) (hab : attributeBase o m X.env (eval o X.env) = eval o X.env := by rfl) : PE X (.Attribute o m pos) (tPropC C sp ta) := by
  obtain ⟨p, f, fd, pr, F, b⟩ := c
  have h := pe_prop (pos := pos) (E := E0) he cl pr F hr b .nil pass0 hab
  exact h
/-- o.m(..) -/
def tMethC (C : Addr) (m : Str) (sp : Sp) (ta : TE) (t : TA) : TE := fun σ H Q => ta σ H fun x H1 => ∃ a dx fs, x = .ref a ∧ H1 a = some (.ins C dx fs) ∧ fs.lookup m = none ∧ t σ H1 fun vs H2 => sp (x :: vs) H2 Q E0
theorem tMethC_eq : tMeth C m sp [] E0 ta t = tMethC C m sp ta t := by
  funext σ H Q
  show ta σ H _ = ta σ H _
  congr 1
  funext x H1
  simp only [List.append_nil]
theorem pe_methC {pl : Sem Bool} (he : PE X o ta) (cl : Cls X.K C) (c : CalM X.prog X.w X.K X.mg X.base C m k ps sp) (hr : Room k X.A) (ha : PA X (e :: es) t)
    (hst : starEach (e :: es) X.env = (false, eval e X.env) :: starEach es X.env := by rfl) (hpl : (backTo pos (starEach es X.env)).any (·.1) = false := by rfl)
    (ht : eval (.Call (.Attribute o m apos) (e :: es) [] pos) X.env = (do
      let ov ← eval o X.env
      standAt apos.atName
      let (f, first) ← holding [ov] (getMethod ov m pl)
      callWith pos f first (backTo pos (starEach (e :: es) X.env)) (backToKw pos (keywordEach [] X.env))) := by rfl) :
    PE X (.Call (.Attribute o m apos) (e :: es) [] pos) (tMethC C m sp ta t) := by
  obtain ⟨f, fd, F, me, b, fi⟩ := c
  rw [← tMethC_eq]
  exact pe_meth (pl := pl) he cl me F hr b .nil pass0 ha hst hpl ht
/-- C(..) -/
def tMakeC (C : Addr) (sp : Sp) (t : TA) : TE := fun σ H Q => t σ H fun vs H1 => ∀ x dx, H1 x = none → H1 dx = none → dx ≠ x →
  sp (.ref x :: vs) (upd (upd H1 dx (.own x)) x (.ins C dx [])) (fun v H2 => v = .non ∧ Q (.ref x) H2) E0
theorem tMakeC_eq : tMake C sp [] E0 t = tMakeC C sp t := by
  funext σ H Q
  show t σ H _ = t σ H _
  congr 1
  funext vs H1
  simp only [List.append_nil]
theorem pe_makeC (c : CalI X.prog X.w X.K X.mg X.base C k ps sp) (hr : Room (k + 1) X.A) (hg : Gl X x) (hm : X.mg x = some (.ref C)) (ha : PA X (e :: es) t)
    (hdb : (x == ("__debug__" : Str)) = false := by decide) (he : starEach (e :: es) X.env = (false, eval e X.env) :: starEach es X.env := by rfl) (hpl : (backTo pos (starEach es X.env)).any (·.1) = false := by rfl) :
    PE X (.Call (.Name x p) (e :: es) [] pos) (tMakeC C sp t) := by
  obtain ⟨f, fd, M, F, b⟩ := c
  rw [← tMakeC_eq]
  exact pe_make M F hr hg hm b .nil pass0 ha hdb he hpl
end
/-! ### dicts walked under their lock -/
theorem same_lock {H : Hp} {d : Addr} {u : HO} {o : Obj} (e : H d = some u) {b : Addr} {ob : HO} (n : b ≠ d) (h : H b = some ob) : upd H d (.frz o u) b = some ob := by
  rw [upd_ne n]
  exact h
theorem same_unlock {H H' : Hp} {d : Addr} {u : HO} {o : Obj} (e : H d = some u) (s : Same (upd H d (.frz o u)) H') : Same H (upd H' d u) := by
  intro b ob h
  by_cases n : b = d
  · subst n
    rw [upd_same]
    exact e.symm.trans h
  · rw [upd_ne n]
    exact s b ob (by rw [upd_ne n]; exact h)
end Gx

set_option maxRecDepth 100000
set_option maxHeartbeats 4000000
namespace Gx
open PySem PySem.Spec PyProof.Rows L2
/-! ### sets of texts: set(list), sorted(set) -/
/-- a member's text -/
def txE (m : Int × Value) : Str :=
  match m.2 with
  | .str z _ => z
  | _ => Str.empty
def TxE (P : Program) (w : World) (m : Int × Value) : Prop := ∃ z tk, m.2 = Value.str z tk ∧ m.1 = (PySem.strKind P w).hash z
/-- at a stands the set of the texts of L, some of which may be there twice; its table can be walked -/
def SetX (P : Program) (w : World) (h : Heap) (a : Addr) (L : List Str) : Prop :=
  ∃ ob ms ep tb, h.get? a = some ob ∧ ob.ExactSet ∧ ob.data = .set ms ep tb ∧ (∀ m ∈ ms.toList, TxE P w m) ∧ (ms.toList.map txE).Nodup ∧ (∀ z, z ∈ L ↔ z ∈ ms.toList.map txE) ∧
    ms.size < scanBound ∧ tb.fits ms.size = true ∧ ms.size ≤ L.length ∧ Ris tb.place.toList ∧ (w.params.followText "set-order" = true ∨ tb.led = true)
section
variable {P : Program} {w : World} {h h' : Heap} {a : Addr} {L : List Str}
theorem SetX.at (R : SetX P w h a L) (k : ∀ o, h.get? a = some o → h'.get? a = some o) : SetX P w h' a L := by
  obtain ⟨ob, ms, ep, tb, here, more⟩ := R
  exact ⟨ob, ms, ep, tb, k ob here, more⟩
theorem SetX.same {L' : List Str} (R : SetX P w h a L) (e : ∀ z, z ∈ L' ↔ z ∈ L) (hl : L.length ≤ L'.length) : SetX P w h a L' := by
  obtain ⟨ob, ms, ep, tb, here, ex, dt, gd, nd, mem, bd, ft, le, more⟩ := R
  exact ⟨ob, ms, ep, tb, here, ex, dt, gd, nd, fun z => (e z).trans (mem z), bd, ft, Nat.le_trans le hl, more⟩
theorem tx_elems {l : List (Int × Value)} (gd : ∀ m ∈ l, TxE P w m) : ElemsOf (PySem.strKind P w) l := by
  intro m hm
  obtain ⟨z, tk, e1, e2⟩ := gd m hm
  refine ⟨⟨z, ?_, e2⟩, ?_⟩
  · rw [e1]
    exact strKind_is P w z tk
  · rw [e1]
    rfl
theorem tx_is {m : Int × Value} (gd : TxE P w m) (z : Str) : (PySem.strKind P w).is z m.2 = true ↔ txE m = z := by
  obtain ⟨y, tk, e1, _⟩ := gd
  have e3 : txE m = y := by unfold txE; rw [e1]
  rw [e3, e1]
  constructor
  · intro q
    obtain ⟨t, q⟩ := Value.isStrOf_shape (show Value.isStrOf z (.str y tk) = true from q)
    cases q
    rfl
  · rintro rfl
    exact strKind_is P w y tk
theorem tx_mem {l : List (Int × Value)} (gd : ∀ m ∈ l, TxE P w m) (z : Str) : z ∈ l.map txE ↔ ∃ m ∈ l, (PySem.strKind P w).is z m.2 = true := by
  rw [List.mem_map]
  exact ⟨fun ⟨m, hm, q⟩ => ⟨m, hm, (tx_is (gd m hm) z).2 q⟩, fun ⟨m, hm, q⟩ => ⟨m, hm, (tx_is (gd m hm) z).1 q⟩⟩
end
section
variable {P : Program} {w : World} {A : Around} {E : Value → Shared → Prop} {s : Shared} {a : Addr} {L : List Str}
/-! ### one text more -/
theorem setX_tail {g : Bool → Sem Unit} (hg : ∀ (b : Bool) (s₁ : Shared) (Q' : Unit → Shared → Prop), Q' () s₁ → wpAny (model P w) A (g b) Q' E s₁)
    {ob : Obj} {ms : Array (Int × Value)} {ep : Nat} {tb : SetTable} (here : s.heap.get? a = some ob) (ex : ob.ExactSet) (dt : ob.data = .set ms ep tb)
    {ms1 : Array (Int × Value)} {tb2 : SetTable} {L' : List Str} (g1 : ∀ m ∈ ms1.toList, TxE P w m) (nd1 : (ms1.toList.map txE).Nodup) (m1 : ∀ z, z ∈ L' ↔ z ∈ ms1.toList.map txE)
    (bd1 : ms1.size < scanBound) (ft2 : tb2.fits ms1.size = true) (le1 : ms1.size ≤ L'.length) (ri : Ris tb2.place.toList) (ld : w.params.followText "set-order" = true ∨ tb2.led = true) {dummy : Bool} {R : Option Bool → Shared → Prop}
    (hR : ∀ h', Heap.SameBut a s.heap h' → SetX P w h' a L' → R (some true) { s with heap := h' }) :
    wpAny (model P w) A (do
        storeSet a ms1 tb2
        if (!dummy && tb2.tooFull) = true then do
            g (relayAll tb2 ms1 (SetTable.grown ms1.size)).2.2
            storeSet a (relayAll tb2 ms1 (SetTable.grown ms1.size)).1 (relayAll tb2 ms1 (SetTable.grown ms1.size)).2.1
            pure (some true)
          else pure (some true)) R E s := by
  refine wpAny_bind (wpAny_storeSet_of here dt ?_ (fits_of_scanBound bd1))
  have at1 := store_at (es' := ms1) (t' := tb2) here dt
  have but1 := Heap.SameBut.update s.heap a (Obj.putSet ms1 tb2)
  split
  · have perm2 := relayAll_perm tb2 ms1 (SetTable.grown ms1.size)
    have ft3 := relayAll_fits tb2 ms1 (SetTable.grown ms1.size)
    have ri3 := relayAll_ris tb2 ms1 (SetTable.grown ms1.size)
    have ld3 := relayAll_led tb2 ms1 (SetTable.grown ms1.size)
    generalize relayAll tb2 ms1 (SetTable.grown ms1.size) = laid at perm2 ft3 ri3 ld3 ⊢
    obtain ⟨ms2, tb3, gave⟩ := laid
    dsimp only at perm2 ft3 ri3 ld3 ⊢
    have sz2 : ms2.size = ms1.size := by rw [← Array.length_toList, perm2.length_eq, Array.length_toList]
    have bd2 : ms2.size < scanBound := sz2 ▸ bd1
    refine wpAny_bind (hg _ _ _ ?_)
    refine wpAny_bind (wpAny_storeSet_of at1 rfl ?_ (fits_of_scanBound bd2))
    have at2 := store_at (es' := ms2) (t' := tb3) at1 rfl
    refine wpAny_pure (hR _ (but1.trans (Heap.SameBut.update _ a _)) ⟨_, ms2, _, tb3, at2, ex, rfl, fun m hm => g1 m (perm2.mem_iff.mp hm), (perm2.map txE).nodup_iff.mpr nd1, fun z => (m1 z).trans (perm2.map txE).mem_iff.symm, bd2, ?_, by rw [sz2]; exact le1, ri3, ?_⟩)
    · exact ft3
    · exact ld.imp id fun z => by rw [ld3]; exact z
  · exact wpAny_pure (hR _ but1 ⟨_, ms1, _, tb2, at1, ex, rfl, g1, nd1, m1, bd1, ft2, le1, ri, ld⟩)
theorem setX_add {z : Str} {tk : Tok} {Q : Bool → Shared → Prop} (R : SetX P w s.heap a L) (room : L.length + 1 < scanBound)
    (hQ : ∀ h' b, Heap.SameBut a s.heap h' → SetX P w h' a (L ++ [z]) → Q b { s with heap := h' }) :
    wpAny (model P w) A (setAddHashed a (.str z tk) ((PySem.strKind P w).hash z)) Q E s := by
  obtain ⟨ob, ms, ep, tb, here, ex, dt, gd, nd, mem, bd, ft, le, ri, ld⟩ := R
  have isz : (PySem.strKind P w).is z (.str z tk) = true := strKind_is P w z tk
  have scz : (Value.str z tk).scannable = true := rfl
  have els : ElemsOf (PySem.strKind P w) ms.toList := tx_elems gd
  unfold setAddHashed setAddHashedIn
  refine wpAny_holding (wpAny_bind (wpAny_setState_of here dt ft ?_))
  dsimp only
  rw [byScan_of scz bd els]
  simp only [↓reduceIte]
  unfold setAddByScan
  refine wpAny_bind ?_
  refine wpAny_bind (wpAny_rule ?_)
  refine wpAny_bind (wpAny_setScan_of isz here dt ft els ?_)
  cases hfi : List.findIdx? (fun m => (PySem.strKind P w).is z m.2) ms.toList with
  | some j =>
    dsimp only
    obtain ⟨hj, pj, _⟩ := List.findIdx?_eq_some_iff_getElem.mp hfi
    have inL : z ∈ L := (mem z).2 ((tx_mem (P := P) (w := w) gd z).2 ⟨ms.toList[j], List.getElem_mem hj, pj⟩)
    refine wpAny_pure (wpAny_pure ?_)
    refine hQ s.heap _ (Heap.SameBut.refl a s.heap) ⟨ob, ms, ep, tb, here, ex, dt, gd, nd, fun y => ?_, bd, ft, by rw [List.length_append]; omega, ri, ld⟩
    rw [← mem y, List.mem_append, List.mem_singleton]
    exact ⟨fun q => q.elim id fun e => e ▸ inL, .inl⟩
  | none =>
    dsimp only
    have notIn : z ∉ ms.toList.map txE := by
      intro q
      obtain ⟨m, hm, q⟩ := (tx_mem (P := P) (w := w) gd z).1 q
      have c := List.findIdx?_eq_none_iff.mp hfi m hm
      rw [q] at c
      cases c
    have way : ∀ (b : Bool) {s₁ : Shared} {Q' : Unit → Shared → Prop}, Q' () s₁ → wpAny (model P w) A (match b with | true => rule "set.scan.the-table-gave-way" | false => pure ()) Q' E s₁ := by
      intro b s₁ Q' q
      cases b
      · exact wpAny_pure q
      · exact wpAny_rule q
    have perm1 := layNew_perm tb ms ((PySem.strKind P w).hash z) (.str z tk)
    have ft1 := layNew_fits tb ms ((PySem.strKind P w).hash z) (.str z tk)
    have ri1 := layNew_ris tb ms ((PySem.strKind P w).hash z) (.str z tk) ri
    have ld1 := layNew_led tb ms ((PySem.strKind P w).hash z) (.str z tk)
    generalize layNew tb ms ((PySem.strKind P w).hash z) (.str z tk) = laid at perm1 ft1 ri1 ld1 ⊢
    obtain ⟨ms1, tb1, dummy, gave⟩ := laid
    dsimp only at perm1 ft1 ri1 ld1 ⊢
    rw [Array.toList_push] at perm1
    have permC : ms1.toList.Perm (((PySem.strKind P w).hash z, Value.str z tk) :: ms.toList) := perm1.trans (List.perm_append_singleton _ _)
    have permK : (ms1.toList.map txE).Perm (z :: ms.toList.map txE) := permC.map txE
    have g1 : ∀ m ∈ ms1.toList, TxE P w m := by
      intro m hm
      rcases List.mem_cons.mp (permC.mem_iff.mp hm) with q | q
      · rw [q]
        exact ⟨z, tk, rfl, rfl⟩
      · exact gd m q
    have nd1 : (ms1.toList.map txE).Nodup := permK.nodup_iff.mpr (List.nodup_cons.mpr ⟨notIn, nd⟩)
    have m1 : ∀ y, y ∈ L ++ [z] ↔ y ∈ ms1.toList.map txE := by
      intro y
      rw [List.mem_append, List.mem_singleton, mem y, permK.mem_iff, List.mem_cons]
      exact Or.comm
    have sz1 : ms1.size = ms.size + 1 := by rw [← Array.length_toList, permC.length_eq, List.length_cons, Array.length_toList]
    have bd1 : ms1.size < scanBound := by omega
    have le1 : ms1.size ≤ (L ++ [z]).length := by rw [List.length_append, List.length_singleton]; omega
    have led1 : w.params.followText "set-order" = true ∨ tb1.led = true := ld.imp id fun q => by rw [ld1]; exact q
    refine wpAny_bind (way _ ?_)
    split
    · refine wpAny_bind ?_
      rw [hashByValue_scannable 8 scz]
      refine wpAny_pure ?_
      refine setX_tail ?_ here ex dt g1 nd1 m1 bd1 ?_ le1 ?_ ?_ ?_
      · intro b s₁ Q' q
        cases b <;> first | exact wpAny_pure q | exact wpAny_rule q
      · first | (split <;> first | exact ft1 | exact SetTable.fits_plain_off ft1) | exact ft1
      · first | (split <;> exact ri1) | exact ri1
      · first | (split <;> exact led1) | exact led1
      · intro h' sb r
        dsimp only
        exact wpAny_pure (hQ h' _ sb r)
    · refine wpAny_bind (wpAny_pure ?_)
      simp only [↓reduceIte]
      refine setX_tail ?_ here ex dt g1 nd1 m1 bd1 ft1 le1 ri1 led1 ?_
      · intro b s₁ Q' q
        cases b <;> first | exact wpAny_pure q | exact wpAny_rule q
      · intro h' sb r
        dsimp only
        exact wpAny_pure (hQ h' _ sb r)
end
/-- the texts of a list of values, by place -/
theorem texts_at : ∀ {us : List Value} {xs : List Str}, StrsAre us xs → ∀ (i : Nat) (v : Value), us[i]? = some v → ∃ x t, xs[i]? = some x ∧ v = .str x t
  | _, _, .nil, i, v, h => by cases h
  | _, _, .cons n t r, 0, v, h => by
    cases h
    exact ⟨n, t, rfl, rfl⟩
  | _, _, .cons n t r, i + 1, v, h => texts_at r i v h
section
variable {prog : Program} {w : World} {A : Around} {R : Result → Shared → Prop} {I : Addr} {fp wr : List Addr} {G : Array GenState → Array GenState → Prop} {n : Nat} {P : Nat → Value → Prop} {St : Nat → Shared → Prop}
/-- all texts of an iterator put into the set at S -/
theorem setX_loop (W : WalksS prog w A.in1 I fp wr G n P St) (S : Addr) (off : S ∉ fp) (xs : List Str) (len : xs.length = n) (few : n + 1 < scanBound)
    (val : ∀ i v, P i v → ∃ x t, xs[i]? = some x ∧ v = .str x t) : ∀ (k i : Nat) (s : Shared), n - i = k → i ≤ n → St i s → SetX prog w s.heap S (xs.take i) →
      (∀ s', Moved (S :: wr) G s s' → SetX prog w s'.heap S xs → R (.ok (.ret .none)) s') →
      codeAny (model prog w) A (.builtin "set.update.loop" ⟨[.ref S, .ref I], []⟩) R s := by
  have offW : S ∉ wr := fun z => off (W.sub _ z)
  have sub : ∀ b ∈ wr, b ∈ S :: wr := fun b hb => List.mem_cons_of_mem _ hb
  intro k
  induction k with
  | zero =>
    intro i s hk hi st hS hR
    obtain rfl : i = n := by omega
    rw [← len, List.take_length] at hS
    refine codeAny_builtin PyProof.Rows.F.entry_set_update_loop ?_
    rw [Around.under_plainId PyProof.Rows.F.plain_set_update_loop _]
    show wpAny _ A.in1 (pyNext (.ref I) >>= _) _ _ s
    refine wpAny_bind (W.done s _ _ st fun s' mv => ?_)
    show wpAny _ A.in1 (ret Value.none) _ _ s'
    exact wpAny_pure (hR s' (mv.mono sub) (hS.at fun o e => mv.heap S _ offW e))
  | succ k ih =>
    intro i s hk hi st hS hR
    have lt : i < n := by omega
    refine codeAny_builtin PyProof.Rows.F.entry_set_update_loop ?_
    rw [Around.under_plainId PyProof.Rows.F.plain_set_update_loop _]
    show wpAny _ A.in1 (pyNext (.ref I) >>= _) _ _ s
    refine wpAny_bind (W.item i s _ _ lt st fun v s' hP st' mv => ?_)
    obtain ⟨x, t, hx, rfl⟩ := val i v hP
    have hS' : SetX prog w s'.heap S (xs.take i) := hS.at fun o e => mv.heap S _ offW e
    show wpAny _ A.in1 (holding [Value.str x t] (setAdd S (.str x t)) >>= _) _ _ s'
    refine wpAny_bind (wpAny_holding ?_)
    unfold setAdd
    refine wpAny_holding ?_
    refine wpAny_bind ((PySem.strKind prog w).pyHash (k := x) (strKind_is _ _ _ _) ?_)
    refine setX_add (s := { s' with toks := s'.toks + 1 }) hS' (by rw [List.length_take]; omega) fun h' b sb hS2 => ?_
    have hS3 : SetX prog w h' S (xs.take (i + 1)) := by
      have e : xs.take (i + 1) = xs.take i ++ [x] := by rw [List.take_add_one, hx]; rfl
      rw [e]
      exact hS2
    refine wpAny_pure ⟨plainId_quiet PyProof.Rows.F.plain_set_update_loop _, ih (i + 1) _ (by omega) lt (W.frame _ s' _ _ st' (Nat.le_succ _) fun b hb o e => ?_) hS3 fun s'' mv2 hS4 => ?_⟩
    · rw [sb.2 b (fun z : b = S => off (z ▸ hb))]
      exact e
    · refine hR s'' (Moved.trans W.gtrans ((mv.mono sub).then_heap (Nat.le_succ _) fun b o hb e => ?_) mv2) hS4
      rw [sb.2 b (fun z : b = S => hb (by rw [z]; exact List.mem_cons_self))]
      exact e
end
section
variable {P : Program} {w : World} {A : Around} {E : Value → Shared → Prop} {s : Shared}
theorem code_setX {x : Value} {Q₁ : Value → Shared → Prop}
    (h : Q₁ (.ref s.heap.objs.size) { s with heap := s.heap.push { cls := .type "set", dict := none, data := .set #[] 0 (.fresh 0 0 (!w.params.followText "set-order")) } }) :
    codeAny (model P w) A (.call (.builtin "set.__new__") ⟨[.type "set", x], []⟩) (wants Q₁ E) s := by
  refine codeAny_of_tree ?_
  show wpAny _ A.in1 (do checkBuiltinCall "set.__new__" ⟨[.type "set", x], []⟩; again (.builtin "set.__new__" ⟨[.type "set", x], []⟩)) _ _ s
  refine wpAny_bind (wpAny_of_eq (PySem.F.newCall_set_1 x) (wpAny_pure ⟨plainId_quiet F.plain_set_new _, codeAny_builtin F.entry_set_new ?_⟩))
  rw [Around.under_plainId F.plain_set_new _]
  unfold Builtin.«set.__new__» Builtin.Frozenset.newClass
  have hsub := sub_set_self
  obtain ⟨hp, g, d, tk, os⟩ := s
  dsimp only
  wp_walk
  refine wpAny_askSetting (wpAny_pure ?_)
  dsimp only
  simp only [newObj]
  exact wpAny_bind (wpAny_alloc (wpAny_pure (wpAny_pure h)))
theorem setX_fresh {h : Heap} : SetX P w (h.push { cls := .type "set", dict := none, data := .set #[] 0 (.fresh 0 0 (!w.params.followText "set-order")) }) h.objs.size [] := by
  refine ⟨_, #[], 0, _, Heap.get?_push_size _ rfl, ⟨rfl, rfl, rfl⟩, rfl, (fun m hm => by simp at hm), (by simp), (fun z => by simp), (by decide), (by rfl), (Nat.zero_le _), List.Pairwise.nil, ?_⟩
  show _ ∨ (!w.params.followText "set-order") = true
  cases w.params.followText "set-order"
  · exact .inr rfl
  · exact .inl rfl
set_option maxHeartbeats 6400000 in
/-- set(list of texts) -/
theorem call_setX {l : Addr} {items : Array Value} {xs : List Str} {Q : Value → Shared → Prop} (hh : A.handled = none) (hl : s.heap.IsList l items) (hi : StrsAre items.toList xs) (few : xs.length + 1 < scanBound)
    (h : ∀ (h' : Heap) (tk : Nat), SetX P w h' s.heap.objs.size xs → (∀ b o, b < s.heap.objs.size → s.heap.get? b = some o → h'.get? b = some o) → Q (.ref s.heap.objs.size) { s with heap := h', toks := tk }) :
    wpAny (model P w) A (call (.type "set") [.ref l]) Q E s := by
  obtain ⟨c, tl, hmro⟩ := PySem.F.called_set.mro
  have hmade := PySem.F.called_set.made
  have hsub := PySem.F.called_set.sub
  refine wpAny_call (codeAny_of_tree ?_)
  show wpAny _ _ (callAny (.type "set") _) _ _ _
  refine wpAny_pure ⟨Code.quiet_builtin _ (by decide +kernel), codeAny_builtin PySem.F.entry_type_call ?_⟩
  rw [Around.under_plain (weight_type_call_type "set" [.ref l] []) rfl]
  have h1 := PySem.F.called_set.notType
  have h2 := PySem.F.called_set.canCreate
  have hct := PySem.F.typeCall_set_1 (.ref l)
  repeat (any_goals (first | assumption | wp_step))
  have R0 : SetX P w (s.heap.push { cls := .type "set", dict := none, data := .set #[] 0 (.fresh 0 0 (!w.params.followText "set-order")) }) s.heap.objs.size [] := setX_fresh
  refine codeAny_mono (code_setX (x := .ref l) (E := E) (Q₁ := fun obj s₁ => obj = .ref s.heap.objs.size ∧ s₁ = { s with heap := s.heap.push { cls := .type "set", dict := none, data := .set #[] 0 (.fresh 0 0 (!w.params.followText "set-order")) } }) ⟨rfl, rfl⟩) fun r s₁ hr => ?_
  have hS : (s.heap.push { cls := .type "set", dict := none, data := .set #[] 0 (.fresh 0 0 (!w.params.followText "set-order")) }).get? s.heap.objs.size = some { cls := .type "set", dict := none, data := .set #[] 0 (.fresh 0 0 (!w.params.followText "set-order")) } := Heap.get?_push_size _ rfl
  cases r with
  | error e => exact hr
  | ok fl =>
    cases fl with
    | ret obj =>
      obtain ⟨rfl, rfl⟩ := hr
      have hT : Shared.TypeIs { s with heap := s.heap.push ({ cls := .type "set", dict := none, data := .set #[] 0 (.fresh 0 0 (!w.params.followText "set-order")) } : Obj) } (.ref s.heap.objs.size) "set" := ⟨_, hS, rfl⟩
      have hli := PySem.F.called_set.init.lookup
      have hbi := PySem.F.called_set.init.bind (.ref s.heap.objs.size)
      repeat (any_goals (first | assumption | wp_step))
      refine codeAny_mono (codeAny_call_builtin (R := wants (fun r s₂ => r = .none ∧ ∃ h' tk, s₂ = { s with heap := h', toks := tk } ∧ SetX P w h' s.heap.objs.size xs ∧
          (∀ b o, b < s.heap.objs.size → s.heap.get? b = some o → h'.get? b = some o)) E) PySem.F.called_set.init.plain PySem.F.entry_set_init (check_set_init_1 hT ?_)) fun r₂ s₂ hr₂ => ?_
      · obtain ⟨ol, hol, hcl, nl, hdl⟩ := hl
        obtain ⟨ocls, odict, odata, oslots⟩ := ol
        simp only at hcl hdl
        subst hcl; subst hdl
        have hol' : (s.heap.push ({ cls := .type "set", dict := none, data := .set #[] 0 (.fresh 0 0 (!w.params.followText "set-order")) } : Obj)).get? l = some { cls := .type "list", dict := odict, data := .seq items nl, slots := oslots } := Heap.get?_push_of_some _ hol
        have hsls := PySem.F.sub_list_set
        have hslf := PySem.F.sub_list_frozenset
        have hne : (Value.type "list" == Value.type "dict") = false := by decide
        have hl1 : (s.heap.push ({ cls := .type "set", dict := none, data := .set #[] 0 (.fresh 0 0 (!w.params.followText "set-order")) } : Obj)).IsList l items := ⟨_, hol', rfl, nl, rfl⟩
        unfold Builtin.«set.__init__» noKeywords Builtin.Frozenset.updateFrom
        generalize hPI : pyIter = PI
        wp_walk
        subst hPI
        refine wpAny_pyIter_list hl1 ?_
        refine wpAny_bind (wpAny_runValue ?_)
        have hlS : l < s.heap.objs.size := Heap.lt_size hol
        have hh3 : A.in1.in1.in1.handled = none := by simp [hh]
        have szp : (s.heap.push ({ cls := .type "set", dict := none, data := .set #[] 0 (.fresh 0 0 (!w.params.followText "set-order")) } : Obj)).objs.size = s.heap.objs.size + 1 := Heap.size_push _ _
        have hneI : l ≠ (s.heap.push ({ cls := .type "set", dict := none, data := .set #[] 0 (.fresh 0 0 (!w.params.followText "set-order")) } : Obj)).objs.size := by rw [szp]; exact Nat.ne_of_lt (Nat.lt_succ_of_lt hlS)
        have hSf : s.heap.objs.size ∉ [(s.heap.push ({ cls := .type "set", dict := none, data := .set #[] 0 (.fresh 0 0 (!w.params.followText "set-order")) } : Obj)).objs.size, l] := by
          rw [szp]
          simp only [List.mem_cons, List.not_mem_nil, or_false, not_or]
          exact ⟨Nat.ne_of_lt (Nat.lt_succ_self _), Nat.ne_of_gt hlS⟩
        have hsz : xs.length = items.size := by rw [← StrsAre.len_eq hi, Array.length_toList]
        refine setX_loop ((Walks.list hh3 _ l hneI items).toS) s.heap.objs.size hSf xs hsz (by rw [← hsz]; exact few) (fun i v hv => texts_at hi i v (by rw [Array.getElem?_toList]; exact hv))
          (items.size - 0) 0 _ (by omega) (Nat.zero_le _) ⟨⟨_, Heap.get?_push_size _ rfl, rfl, rfl⟩, (hl1.push _)⟩ ?hS0 ?hR
        case hS0 => exact R0.at fun o e => Heap.get?_push_of_some _ e
        case hR =>
          intro s' hm hS'
          obtain ⟨h', g', d', tk', os'⟩ := s'
          obtain rfl : g' = s.gens := hm.gens
          obtain rfl : d' = s.drawn := hm.drawn
          obtain rfl : os' = s.os := hm.os
          show wpAny _ _ _ _ _ _
          refine wpAny_pure ?_
          show wpAny _ _ (ret Value.none) _ _ _
          refine wpAny_pure ⟨rfl, h', tk', rfl, hS', fun b o hb e => hm.heap b o ?_ (Heap.get?_push_of_some _ (Heap.get?_push_of_some _ e))⟩
          rw [szp]
          simp only [List.mem_cons, List.not_mem_nil, or_false, not_or]
          exact ⟨Nat.ne_of_lt hb, Nat.ne_of_lt (Nat.lt_succ_of_lt hb)⟩
      · cases r₂ with
        | error e => exact hr₂
        | ok fl₂ =>
          cases fl₂ with
          | ret r =>
            obtain ⟨rfl, h', tk, rfl, hS', hk'⟩ := hr₂
            repeat (any_goals (first | assumption | wp_step))
            exact h _ _ hS' hk'
          | _ => exact hr₂.elim
    | _ => exact hr.elim
theorem strs_of : ∀ (l : List Value), (∀ v ∈ l, ∃ z tk, v = Value.str z tk) → ∃ xs, StrsAre l xs ∧ xs = l.map fun v => txE (0, v)
  | [], _ => ⟨[], .nil, rfl⟩
  | v :: l, h => by
    obtain ⟨z, tk, rfl⟩ := h v List.mem_cons_self
    obtain ⟨xs, h1, rfl⟩ := strs_of l fun u hu => h u (List.mem_cons_of_mem _ hu)
    exact ⟨_, .cons z tk h1, rfl⟩
/-- sorted(set of texts) -/
theorem sorted_setX {a : Addr} {L : List Str} {Q : Value → Shared → Prop} (R : SetX P w s.heap a L) (hh : A.handled = none)
    (hQ : ∀ s' p (out : Array Value) (c : Nat) (ys : List Str), (∀ b o, s.heap.get? b = some o → s'.heap.get? b = some o) → s'.gens = s.gens → s'.os = s.os → s.heap.objs.size ≤ p →
      s'.heap.get? p = some (seqObj "list" out c) → StrsAre out.toList ys → sortedS ys = true → ys.Nodup → (∀ z, z ∈ ys ↔ z ∈ L) → Q (.ref p) s') :
    wpAny (model P w) A (call (.builtin "sorted") [.ref a]) Q E s := by
  obtain ⟨ob, ms, ep, tb, here, ex, dt, gd, nd, mem, bd, ft, le, ri, ld⟩ := R
  refine Calls.call_function_entry kind_sorted plain_sorted entry_sorted (args_sorted1 _) ?_
  unfold Builtin.«sorted»
  refine wpAny_bind (m := checkCount "sorted" 1 1 _) (wpAny_pure ?_)
  refine wpAny_bind (collect_set (A := A.in1) hh ⟨ob, here, ex.1, dt⟩ ft bd ri ld fun s1 vs k1 hz g1 o1 pm => ?_)
  have lenV : vs.length = ms.size := by rw [pm.length_eq, List.length_map, Array.length_toList]
  obtain ⟨xs, hS, exs⟩ := strs_of vs fun v hv => by
    obtain ⟨m, hm, q⟩ := List.mem_map.mp (pm.mem_iff.mp hv)
    obtain ⟨z, tk, e1, _⟩ := gd m hm
    exact ⟨z, tk, by rw [← q]; exact e1⟩
  have permX : xs.Perm (ms.toList.map txE) := by
    have q := pm.map fun v => txE (0, v)
    rw [List.map_map] at q
    rw [exs]
    exact q
  have lineV : vs.length ≤ sizeLine := by rw [lenV]; exact fits_of_scanBound bd
  refine wpAny_bind (wpAny_newList ?_ lineV)
  have hoL : (s1.heap.push (seqObj "list" vs.toArray 0)).get? s1.heap.objs.size = some (seqObj "list" vs.toArray 0) := Heap.get?_push_size _ rfl
  refine wpAny_bind (wpAny_holding (wpAny_call_entry slot_list_sort ⟨_, hoL, rfl⟩ entry_list_sort
    (list_sort_treeKAny strKind_oneLt (s := { s1 with heap := s1.heap.push (seqObj "list" vs.toArray 0) }) hoL hS.keysOf (fun v₁ v₂ rest e => keyKind_strs (by rw [← e]; exact hS)) lineV fun st' hp hs => ⟨_, rfl, ?_⟩) (args_list_sort _)))
  obtain ⟨ys, y1, y2, y3⟩ := sorted_out_str hS hp hs
  obtain ⟨c, hc⟩ := sortedHeap_at (vs := vs) (out := (arrOf st').map (·.2)) hoL
  have permY : ys.Perm (ms.toList.map txE) := y2.trans permX
  refine wpAny_pure ⟨_, rfl, hQ _ s1.heap.objs.size ((arrOf st').map (·.2)) c ys (fun b u e => ?_) g1 o1 hz hc y1 y3 (permY.nodup_iff.mpr nd) fun z => by rw [permY.mem_iff, ← mem z]⟩
  have q := k1 b u e
  have lt := Heap.lt_size q
  show (sortedHeap (s1.heap.push (seqObj "list" vs.toArray 0)) s1.heap.objs.size vs ((arrOf st').map (·.2))).get? b = some u
  rw [sortedHeap_old (Nat.ne_of_lt lt) (by rw [size_push']; exact Nat.lt_succ_of_lt lt)]
  exact Heap.get?_push_of_some _ q
end
/-! ### over the hand layer -/
/-- the set of the texts of L at a -/
def SetO' (P : Program) (w : World) (a : Addr) (L : List Str) : HO := .ext fun h => SetX P w h a L
section
variable {X : Cx}
def rSetX (K : PySem.W.Frag) (P : Program) (w : World) : List V → Hp → VK → Prop := fun vs H Q => ∃ (l : Addr) (xs : List Str), vs = [V.ref l] ∧ SqL K H l (xs.map V.str) ∧ xs.length ≤ 1000 ∧ ∀ p, H p = none → Q (.ref p) (upd H p (SetO' P w p xs))
theorem cr_setX (hc : X.calm = true) : CallR X (.type "set") (rSetX X.K X.prog X.w) := by
  intro pins s σ H vs us Q I r h
  obtain ⟨l, xs, rfl, hq, few, q⟩ := h
  rw [Vals.ref1 r]
  obtain ⟨its, rv, pl, hz⟩ := I.list hq
  refine call_setX (I.ok.hd hc) pl.isList (by simpa using rv.strs) (Nat.lt_of_le_of_lt (Nat.succ_le_succ few) (by decide)) fun h' tk hS hk => ?_
  have kp : ∀ b o, s.heap.get? b = some o → h'.get? b = some o := fun b o e => hk b o (Heap.lt_size e) e
  obtain ⟨ob, ms, ep, tb, here, more⟩ := id hS
  exact ⟨.ref s.heap.objs.size, _, I.laid (t' := tk) kp (Nat.le_refl _) (show ObjOk X.prog X.w _ h' _ (SetO' X.prog X.w s.heap.objs.size xs) from ⟨hS, ⟨ob, here⟩, fun h1 h2 p k => SetX.at p k⟩), rfl, q _ (I.hok.fresh (Nat.le_refl _))⟩
def rSortedX (P : Program) (w : World) : List V → Hp → VK → Prop := fun vs H Q => ∃ (a : Addr) (L : List Str), vs = [V.ref a] ∧ H a = some (SetO' P w a L) ∧ L.length ≤ 1000 ∧
  ∀ (ys : List Str) (p : Addr), sortedS ys = true → ys.Nodup → (∀ z, z ∈ ys ↔ z ∈ L) → H p = none → Q (.ref p) (upd H p (.lst (ys.map V.str)))
theorem vals_texts : ∀ {us : List Value} {xs : List Str}, StrsAre us xs → Vals (xs.map V.str) us
  | _, _, .nil => .nil
  | _, _, .cons n t r => .cons ⟨t, rfl⟩ (vals_texts r)
theorem cr_sortedX (hc : X.calm = true) : CallR X (.builtin "sorted") (rSortedX X.prog X.w) := by
  intro pins s σ H vs us Q I r h
  obtain ⟨a, L, rfl, ha, few, q⟩ := h
  rw [Vals.ref1 r]
  have hX : SetX X.prog X.w s.heap a L := (I.hok a _ ha).1
  refine sorted_setX hX (I.ok.hd hc) fun s' p out c ys k g o hp hg hi hs nd hm => ?_
  have lt : ys.length ≤ L.length := List.Nodup.length_le_of_subset nd fun z hz => (hm z).1 hz
  have hlen : (ys.map V.str).length ≤ sizeLine := by rw [List.length_map]; exact Nat.le_trans (Nat.le_trans lt few) (by decide)
  have hn : H p = none := I.hok.fresh hp
  have J : Inv X pins σ (upd H p (.lst (ys.map V.str))) { s with heap := s'.heap, gens := s'.gens, drawn := s'.drawn, toks := s'.toks } :=
    I.call (ch := []) (Un.laid k hp hn) (I.hok.laid k hp ⟨hlen, out.toList, c, vals_texts hi, hg⟩) (by rw [g]; exact I.bare) (fun _ z => nomatch z)
  obtain ⟨h', g', d', t', o'⟩ := s'
  obtain rfl : o' = s.os := o
  exact ⟨.ref p, _, J, rfl, q ys p hs nd hm hn⟩
end
end Gx

set_option maxRecDepth 100000
set_option maxHeartbeats 4000000
namespace Gx
open PySem PySem.Spec PyProof.Rows L2
/-! ### rules of my own, over any program -/
section
variable {X : Cx}
/-- repr of a truth -/
theorem call_repr_bl : CallR X (.builtin "repr") (fun xs H Q => ∃ b : Bool, xs = [.bl b] ∧ Q (.str (if b then "True" else "False")) H) := by
  intro pins s σ H xs us Q I r h
  obtain ⟨b, rfl, q⟩ := h
  obtain ⟨u, rfl, rx⟩ := vals1 r
  cases (show u = Value.bool b from rx)
  exact PySem.P.repr_of_bool ⟨.str _, H, I.tok _, ⟨_, rfl⟩, q⟩
/-- the signs of a text, a text each -/
def signV (x : Str) : List V := x.cps.toList.map fun c => V.str ⟨#[c]⟩
theorem vals_signs {x : Str} {acc : Array Value} (h : ItemsOf (SignAt x) acc x.cps.size) : Vals (signV x) acc.toList := by
  have key : ∀ (l : List Nat) (vs : List Value), vs.length = l.length → (∀ (j : Nat) (v : Value), vs[j]? = some v → ∃ (c : Nat) (u : Tok), l[j]? = some c ∧ v = Value.str ⟨#[c]⟩ u) → Vals (l.map fun c => V.str ⟨#[c]⟩) vs := by
    intro l
    induction l with
    | nil =>
      intro vs hl _
      cases vs with
      | nil => exact .nil
      | cons a r => cases hl
    | cons c l ih =>
      intro vs hl hv
      cases vs with
      | nil => cases hl
      | cons v vs =>
        obtain ⟨c', u, e1, e2⟩ := hv 0 v rfl
        have e1' : c = c' := Option.some.inj e1
        subst e1'
        exact .cons ⟨u, e2⟩ (ih vs (Nat.succ.inj hl) fun j w hw => hv (j + 1) w hw)
  refine key x.cps.toList acc.toList (by rw [Array.length_toList, Array.length_toList]; exact h.1) fun j v hv => ?_
  obtain ⟨c, u, hc, e⟩ := h.2 j v (by simpa using hv)
  exact ⟨c, u, by simpa using hc, e⟩
/-- list(text) -/
theorem call_list_text (hc : X.calm = true) : CallR X (.type "list") (fun xs H Q => ∃ x : Str, xs = [.str x] ∧ x.length ≤ sizeLine ∧ ∀ l, H l = none → Q (.ref l) (upd H l (.lst (signV x)))) := by
  intro pins s σ H xs us Q I r h
  obtain ⟨x, rfl, hz, q⟩ := h
  obtain ⟨u, rfl, t, rfl⟩ := vals1 r
  refine PySem.call_list_str (I.ok.hd hc) x t (fun h' tk acc' c' kp e ha => ?_) hz
  have hv := vals_signs ha
  refine ⟨.ref s.heap.objs.size, _, I.laid (t' := tk) kp (Nat.le_refl _) (show ObjOk X.prog X.w _ h' _ (.lst (signV x)) from ⟨?_, acc'.toList, c', hv, by simpa using e⟩), rfl, q _ (I.hok.fresh (Nat.le_refl _))⟩
  rw [hv.length, Array.length_toList]
  have := ha.1
  rw [this]
  exact hz
/-- tuple(text) -/
theorem call_tuple_text (hc : X.calm = true) : CallR X (.type "tuple") (fun xs H Q => ∃ x : Str, xs = [.str x] ∧ x.length ≤ sizeLine ∧ ∀ l, H l = none → Q (.ref l) (upd H l (.tup (signV x)))) := by
  intro pins s σ H xs us Q I r h
  obtain ⟨x, rfl, hz, q⟩ := h
  obtain ⟨u, rfl, t, rfl⟩ := vals1 r
  refine PySem.call_tuple_str (I.ok.hd hc) x t (fun h' tk acc kp ha => ?_) hz
  have hv := vals_signs ha
  have I1 : Inv X pins σ H { s with heap := h', toks := tk } := I.kept (t' := tk) kp
  have hlen : (signV x).length ≤ sizeLine := by
    rw [hv.length, Array.length_toList]
    have := ha.1
    rw [this]
    exact hz
  have I2 : Inv X pins σ (upd H h'.objs.size (.tup (signV x))) { s with heap := h'.push { cls := .type "tuple", data := .seq acc }, toks := tk } :=
    I1.laid (t' := tk) (fun b o e => Heap.get?_push_of_some _ e) (Nat.le_refl _) (show ObjOk X.prog X.w _ _ _ (.tup (signV x)) from ⟨hlen, acc.toList, hv, by simpa using IsTup.new _ _⟩)
  exact ⟨.ref h'.objs.size, _, I2, rfl, q _ (I1.hok.fresh (Nat.le_refl _))⟩
/-- text * k -/
theorem op_mul_text : OpR X (binaryOp .Mult) (fun x y H Q => ∃ (a : Str) (n : Int), x = .str a ∧ y = .int n ∧ MulOk a n ∧ Q (.str (Txt.mul a n)) H) := by
  intro pins s σ H x y v u Q I rx ry h
  obtain ⟨a, n, rfl, rfl, hz, q⟩ := h
  obtain ⟨t, rfl⟩ := rx
  obtain ⟨t', rfl⟩ := ry
  exact SB.mul hz fun t' k => ⟨.str _, H, I.tok _, ⟨_, rfl⟩, q⟩
end
theorem mulOk_small {a : Str} {n : Int} (h1 : 2 ≤ n) (h2 : n ≤ 1000) (ha : a.length ≤ 1000) : MulOk a n := by
  refine ⟨?_, fun _ _ => ?_, fun _ _ => ?_⟩
  · rw [Bool.or_eq_false_iff]
    exact ⟨decide_eq_false (by omega), decide_eq_false (by omega)⟩
  · have : (1000 : Int) ≤ (2 ^ 63 - 1) / n := by
      refine (Int.le_ediv_iff_mul_le (by omega)).mpr ?_
      have : (1000 : Int) * n ≤ 1000 * 1000 := Int.mul_le_mul_of_nonneg_left h2 (by decide)
      omega
    omega
  · unfold Builtin.Str.tooLong
    refine decide_eq_false ?_
    have h3 : a.length * n.toNat ≤ 1000 * 1000 := Nat.mul_le_mul ha (by omega)
    rw [sizeLine_eq]
    omega

/-! ### defs of the top, and what they promise -/
/-- the def st stands at the top under its name -/
def Def (K : PySem.W.Frag) (mg : Str → Option Value) (x qual : Str) (st : Stmt) (ps : List Str) : Prop :=
  ∃ (f : Addr) (fd : FuncData), Fun K x qual st f fd ∧ Binds K fd ps [] ∧ mg x = some (.ref f)
/-- the name x is a def that keeps the promise sp, by at most level k -/
def Cal (P : Program) (w : World) (K : PySem.W.Frag) (mg : Str → Option Value) (base : Heap) (k : Nat) (x : Str) (ps : List Str) (sp : Sp) : Prop :=
  ∃ (f : Addr) (fd : FuncData), FnOk P w K mg base CX0 k f fd ps sp ∧ PySem.W.keepIn K (.ref f) = true ∧ Binds K fd ps [] ∧ mg x = some (.ref f)
section
variable {P : Program} {w : World} {K : PySem.W.Frag} {mg : Str → Option Value} {base : Heap}
theorem Cal.mono {j k : Nat} {x : Str} {ps : List Str} {sp : Sp} (c : Cal P w K mg base j x ps sp) (h : j ≤ k) : Cal P w K mg base k x ps sp := by
  obtain ⟨f, fd, F, kp, b, g⟩ := c
  exact ⟨f, fd, F.mono h, kp, b, g⟩
theorem Cal.imp {k : Nat} {x : Str} {ps : List Str} {sp sp' : Sp} (c : Cal P w K mg base k x ps sp) (h : ∀ vs H Q E, sp' vs H Q E → sp vs H Q E) : Cal P w K mg base k x ps sp' := by
  obtain ⟨f, fd, F, kp, b, g⟩ := c
  exact ⟨f, fd, F.imp h, kp, b, g⟩
theorem Def.cal {x qual : Str} {st : Stmt} {ps : List Str} (d : Def K mg x qual st ps) {k : Nat} {sp : Sp} (h : ∀ f fd, Fun K x qual st f fd → FnOk P w K mg base CX0 k f fd ps sp) : Cal P w K mg base k x ps sp := by
  obtain ⟨f, fd, F, b, g⟩ := d
  exact ⟨f, fd, h f fd F, F.kp, b, g⟩
end
section
variable {X : Cx}
/-- f(..), without the empty list of defaults -/
def tCl (sp : Sp) (t : TA) : TE := fun σ H Q => t σ H fun vs H1 => sp vs H1 Q E0
theorem tCl_eq (sp : Sp) (t : TA) : tCall sp [] E0 t = tCl sp t := by
  funext σ H Q
  show t σ H _ = t σ H _
  congr 1
  funext vs H1
  rw [List.append_nil]
theorem pe_cal {x : Str} {ps : List Str} {sp : Sp} {k : Nat} {e : Expr} {es : List Expr} {t : TA} {p pos : Pos} (c : Cal X.prog X.w X.K X.mg X.base k x ps sp) (hr : Room k X.A) (hg : Gl X x) (h : PA X (e :: es) t)
    (hdb : (x == ("__debug__" : Str)) = false := by decide) (he : starEach (e :: es) X.env = (false, eval e X.env) :: starEach es X.env := by rfl) (hpl : (backTo pos (starEach es X.env)).any (·.1) = false := by rfl) :
    PE X (.Call (.Name x p) (e :: es) [] pos) (tCl sp t) := by
  obtain ⟨f, fd, F, kp, b, g⟩ := c
  rw [← tCl_eq]
  exact pe_call F hr hg g kp b .nil pass0 h hdb he hpl
theorem pe_cal0 {x : Str} {ps : List Str} {sp : Sp} {k : Nat} {p pos : Pos} (c : Cal X.prog X.w X.K X.mg X.base k x ps sp) (hr : Room k X.A) (hg : Gl X x)
    (hdb : (x == ("__debug__" : Str)) = false := by decide) : PE X (.Call (.Name x p) [] [] pos) (tCl sp tNil) := by
  obtain ⟨f, fd, F, kp, b, g⟩ := c
  rw [← tCl_eq]
  exact pe_call0 F hr hg g kp b .nil pass0 hdb
end
/-- a statement, then the rest, with a word between them: what follows is shown once -/
def tCut (t u : TS) : TS := fun D σ H => ∃ Mid : L2.St → Hp → Prop, t { D with nx := Mid } σ H ∧ ∀ σ' H', Mid σ' H' → u D σ' H'
section
variable {X : Cx}
theorem pss_cut {st : Stmt} {rest : List Stmt} {t u : TS} (h1 : PS X st t) (h2 : PSs X rest u) : PSs X (st :: rest) (tCut t u) := by
  refine ⟨fun pins s σ H D I h => ?_⟩
  obtain ⟨Mid, hm, hu⟩ := h
  refine wpAny_execs_cons (thn (h1.run pins s σ H { D with nx := Mid } I hm) fun f s1 q => ?_)
  cases f with
  | next =>
    obtain ⟨σ', H', I', q⟩ := q
    exact h2.run pins s1 σ' H' D I' (hu σ' H' q)
  | ret v => exact q
  | brk => exact q
  | cont => exact q
end
theorem sqL_ne {K : PySem.W.Frag} {H : Hp} {a d : Addr} {o : HO} {xs : List V} (n : a ≠ d) (h : SqL K H a xs) : SqL K (upd H d o) a xs := by
  rcases h with (h | ⟨u, h⟩) | h
  · exact .inl (.inl (by rw [upd_ne n]; exact h))
  · exact .inl (.inr ⟨u, by rw [upd_ne n]; exact h⟩)
  · exact .inr h
theorem sqT_ne {K : PySem.W.Frag} {H : Hp} {a d : Addr} {o : HO} {xs : List V} (n : a ≠ d) (h : SqT K H a xs) : SqT K (upd H d o) a xs := by
  rcases h with (h | ⟨u, h⟩) | h
  · exact .inl (.inl (by rw [upd_ne n]; exact h))
  · exact .inl (.inr ⟨u, by rw [upd_ne n]; exact h⟩)
  · exact .inr h
theorem atI_int {α : Type} {xs : List α} {r : Int} (h0 : 0 ≤ r) (h1 : r < xs.length) : ∃ v, v ∈ xs ∧ atI xs r = some v := by
  obtain ⟨k, rfl⟩ := Int.eq_ofNat_of_zero_le h0
  have hk : k < xs.length := by omega
  exact ⟨xs[k], List.getElem_mem hk, atI_nat (List.getElem?_eq_getElem hk)⟩
theorem signV_len (z : Str) : (signV z).length = z.length := by
  unfold signV
  rw [List.length_map, Array.length_toList]
  rfl
/-- for c in text -/
theorem for_str {x : Str} {g : TG} {tb : TS} {D : Ends} {σ : L2.St} {H : Hp} (Pv : Nat → L2.St → Hp → Prop) (h0 : Pv 0 σ H)
    (hs : ∀ (i c : Nat) (σ : L2.St) (H : Hp), x.cps.toList[i]? = some c → Pv i σ H → g (.str ⟨#[c]⟩) σ H fun σ2 H2 => tb { D with nx := Pv (i + 1), ct := Pv (i + 1), bk := D.nx } σ2 H2) (hd : ∀ σ H, Pv x.cps.size σ H → D.nx σ H) :
    ∃ W : Nat → Nat → L2.St → Hp → Prop, (∃ m, W 0 m σ H) ∧ ∀ i m σ H, W i m σ H →
      ((Its x).stop i H ∧ D.nx σ H) ∨ ((Its x).go i H ∧ ∃ N : L2.St → Hp → Prop, (∀ σ' H', N σ' H' → ∃ m', m' < m ∧ W (i + 1) m' σ' H') ∧ ∀ v H', (Its x).yld i H v H' → g v σ H' fun σ2 H2 => tb { D with nx := N, ct := N, bk := D.nx } σ2 H2) := by
  refine ⟨fun i m σ H => m = x.cps.size - i ∧ i ≤ x.cps.size ∧ Pv i σ H, ⟨x.cps.size, by simp, Nat.zero_le _, h0⟩, ?_⟩
  rintro i m σ H ⟨rfl, hi, p⟩
  by_cases hlt : i < x.cps.size
  · refine .inr ⟨hlt, Pv (i + 1), fun σ' H' p' => ⟨x.cps.size - (i + 1), by omega, rfl, hlt, p'⟩, fun v H' y => ?_⟩
    obtain ⟨e, c, hc, ev⟩ := y
    subst e ev
    exact hs i c σ _ (by simpa using hc) p
  · have e : i = x.cps.size := by omega
    subst e
    exact .inl ⟨Nat.le_refl _, hd σ H p⟩
theorem decI (a b : Int) : decide (V.int a = V.int b) = decide (a = b) := decide_eq_decide.mpr ⟨V.int.inj, fun e => e ▸ rfl⟩
theorem decS (a b : Str) : decide (V.str a = V.str b) = decide (a = b) := decide_eq_decide.mpr ⟨V.str.inj, fun e => e ▸ rfl⟩
theorem app_len (a b : Str) : (a ++ b).length = a.length + b.length := by
  show (a.cps ++ b.cps).size = _
  rw [Array.size_append]
  rfl
/-- texts of one sign each, joined by nothing -/
theorem join_one {e : Str} (he : e.length = 0) : ∀ zs : List Str, (∀ z ∈ zs, z.length = 1) → (Txt.join e zs).length = zs.length := by
  have key : ∀ zs : List Str, (∀ z ∈ zs, z.length = 1) → (Str.join e zs).length = zs.length := by
    intro zs
    induction zs with
    | nil => intro _; rfl
    | cons x r ih =>
      intro h
      cases r with
      | nil => exact h x (List.mem_cons_self ..)
      | cons y r =>
        show (x ++ e ++ Str.join e (y :: r)).length = _
        rw [app_len, app_len, he, ih fun z hz => h z (List.mem_cons_of_mem _ hz), h x (List.mem_cons_self ..), List.length_cons (a := x)]
        omega
  intro zs h
  rw [TL.join_eq]
  exact key zs h
theorem sum_ones : ∀ zs : List Str, (∀ z ∈ zs, z.length = 1) → (zs.map (·.length)).sum = zs.length
  | [], _ => rfl
  | x :: r, h => by
    rw [List.map_cons, List.sum_cons, sum_ones r fun z hz => h z (List.mem_cons_of_mem _ hz), h x (List.mem_cons_self ..), List.length_cons]
    omega
theorem mul_len {a : Str} {n : Int} (h1 : 2 ≤ n) (ha : 1 ≤ a.length) : (Txt.mul a n).length = a.length * n.toNat := by
  unfold Txt.mul
  rw [if_neg (by omega)]
  have e1 : (n == 1) = false := by rw [beq_eq_false_iff_ne]; omega
  have e2 : (a.length == 0) = false := by rw [beq_eq_false_iff_ne]; omega
  rw [e1, e2, if_neg (by decide)]
  have key : ∀ (k : Nat) (acc : Array Nat), ((List.replicate k a.cps).foldl (· ++ ·) acc).size = acc.size + k * a.cps.size := by
    intro k
    induction k with
    | zero => intro acc; show acc.size = _; omega
    | succ k ih =>
      intro acc
      rw [List.replicate_succ, List.foldl_cons, ih, Array.size_append, Nat.succ_mul]
      omega
  show ((List.replicate n.toNat a.cps).foldl (· ++ ·) #[]).size = a.cps.size * n.toNat
  rw [key, Nat.mul_comm]
  show 0 + _ = _
  omega
theorem same_at {H H' : Hp} {p : Addr} {o : HO} (n : H p = none) (s : Same H H') : Same H (upd H' p o) := fun b u e => by
  rw [upd_ne (ne_of_none e n)]
  exact s b u e
/-- the three numbers of some dice -/
def DiceAt (H : Hp) (d : Addr) : Prop := ∃ x b c : Int, H d = some (.lst [.int x, .int b, .int c])
end Gx

set_option maxRecDepth 100000
set_option maxHeartbeats 4000000
namespace Gx
open PySem PySem.Spec PyProof.Rows L2
/-! ### promises that hold where no repr is under way -/
/-- no repr is under way -/
abbrev Gd (A : Around) : Prop := A.guards = some []
structure FnG (P : Program) (w : World) (K : PySem.W.Frag) (mg : Str → Option Value) (base : Heap) (CX : CXT) (k : Nat) (f : Addr) (fd : FuncData) (ps : List Str) (sp : Sp) : Prop where
  len : ∀ vs H Q E, sp vs H Q E → vs.length = ps.length
  run : ∀ (A : Around) (outer : List Env) (s : Shared) (H : Hp) (args : Args) (us : List Value) (vs : List V) (Q : VK) (E : XK),
    Gd A → Room k A → Env0 P w K mg base A outer s H → BindsTo s fd args (ps.zip us) → Vals vs us → sp vs H Q E →
      codeAny (model P w) A (.call (.ref f) args) (CR CX outer P w H s Q E) s
section
variable {P : Program} {w : World} {K : PySem.W.Frag} {mg : Str → Option Value} {base : Heap} {CX : CXT} {k : Nat} {f : Addr} {fd : FuncData} {ps : List Str} {sp : Sp}
theorem fnG_of (F : FnOk P w K mg base CX k f fd ps sp) : FnG P w K mg base CX k f fd ps sp := ⟨F.len, fun A outer s H args us vs Q E _ => F.run A outer s H args us vs Q E⟩
theorem FnG.up {j : Nat} (F : FnG P w K mg base CX j f fd ps sp) (h : j ≤ k) : FnG P w K mg base CX k f fd ps sp :=
  ⟨F.len, fun A outer s H args us vs Q E g hr => F.run A outer s H args us vs Q E g (hr.mono h)⟩
theorem FnG.less {sp' : Sp} (F : FnG P w K mg base CX k f fd ps sp) (h : ∀ vs H Q E, sp' vs H Q E → sp vs H Q E) : FnG P w K mg base CX k f fd ps sp' :=
  ⟨fun vs H Q E q => F.len vs H Q E (h vs H Q E q), fun A outer s H args us vs Q E g hr he hb hv hs => F.run A outer s H args us vs Q E g hr he hb hv (h vs H Q E hs)⟩
end
/-- a def by its body, where no repr is under way -/
theorem fnG_body {CX : CXT} {P : Program} {w : World} {K : PySem.W.Frag} {mg : Str → Option Value} {base : Heap} {k : Nat} {f : Addr} {nm ql : Str} {prm : Arguments} {bd : List Stmt} {sc : Scope}
    {dv kv dc pm cd ct oc : Value} {an od : Option Addr} {sl : Array (Option Value)} {N ps : List Str} {sp : Sp}
    (look : K.lookup f = some ⟨oc, od, .func (PySem.W.fnOf nm ql prm bd sc dv kv dc pm an cd ct), sl⟩) (hcode : PySem.W.codeIn K cd ql = true) (S : FnScope N ps sc)
    (hlen : ∀ vs H Q E, sp vs H Q E → vs.length = ps.length)
    (hb : ∀ (A : Around) (outer : List Env) (s : Shared) (H : Hp) (vs : List V) (Q : VK) (E : XK), Gd A → Room k (A.deeper (envOfC ql sc s.heap.objs.size f cd)) → sp vs H Q E →
      ∃ t, PSs (cxOf CX P w K mg base N ql sc f cd A outer s H E) bd t ∧ t { nx := fun _ H' => Q .non H', rt := Q } (start N vs) H) :
    FnG P w K mg base CX (k + 1) f (PySem.W.fnOf nm ql prm bd sc dv kv dc pm an cd ct) ps sp := by
  constructor
  · exact hlen
  · intro A outer s H args us vs Q E g room env bind rel want
    have inS : K.In s.heap := env.mod.kin.keeps fun b o e => (env.bs b o e).1
    have noLim : s.heap.NoLimit := env.mod.nolimit.keeps fun b o e => (env.bs b o e).1
    have kinds : ∀ y ∈ ps.zip us, sc.names.lookup y.1 = some .local ∨ (sc.names.lookup y.1 = some .cell ∧ ((cellsFrom (s.heap.objs.size + 1) sc.names []).lookup y.1).isSome = true) := by
      rintro ⟨n, v⟩ hy
      rcases S.par n (List.of_mem_zip hy).1 with q | q
      · exact Or.inl q
      · exact Or.inr ⟨q, PySem.W.cellsFrom_some _ _ _ (Or.inl q)⟩
    refine codeAny_call_function room.depth (inS _ _ look) rfl S.co S.gen rfl (PySem.W.codeRec_of inS hcode)
      (bind _ _ _ _ (wpAny_newFunctionEnv_cells S.kind kinds fun env' he s1 made => ?_))
    subst he
    refine ⟨noLim.keeps made.toInCall.keep, codeAny_func ?_⟩
    obtain ⟨t, ht, hq⟩ := hb A outer s H vs Q E g (room.deeper _) want
    have I0 := inv_start (CX := CX) (E := E) (N := N) S room.hd env (hlen _ _ _ _ want) rel made
    refine wpAny_mono (ht.run [] s1 (start N vs) H _ I0 hq) ?_ (fun e s' hs => hs)
    intro fl s' hs
    cases fl with
    | brk =>
      obtain ⟨_, _, _, no⟩ := hs
      exact no.elim
    | cont =>
      obtain ⟨_, _, _, no⟩ := hs
      exact no.elim
    | next =>
      obtain ⟨σ', H', J, q⟩ := hs
      exact ⟨V.non, H', J.os, J.bare, J.base, J.hok, rfl, q⟩
    | ret u =>
      obtain ⟨v, σ', H', J, rv, q⟩ := hs
      exact ⟨v, H', J.os, J.bare, J.base, J.hok, rv, q⟩
section
variable {P : Program} {w : World} {K : PySem.W.Frag} {mg : Str → Option Value} {base : Heap}
/-- .. of the text -/
theorem okG {x qual : Str} {st : Stmt} {f : Addr} {fd : FuncData} {N ps : List Str} {k : Nat} {sp : Sp} (F : Fun K x qual st f fd) (S : FnScope N ps (defScope st)) (hlen : ∀ vs H Q E, sp vs H Q E → vs.length = ps.length)
    (hb : ∀ (cdv : Value) (A : Around) (outer : List Env) (s : Shared) (H : Hp) (vs : List V) (Q : VK) (E : XK), Gd (A.deeper (envOfC qual (defScope st) s.heap.objs.size f cdv)) → Room k (A.deeper (envOfC qual (defScope st) s.heap.objs.size f cdv)) → sp vs H Q E →
      ∃ t, PSs (cxOf CX0 P w K mg base N qual (defScope st) f cdv A outer s H E).nox (defBody st) t ∧ t { nx := fun _ H' => Q .non H', rt := Q } (start N vs) H) : FnG P w K mg base CX0 (k + 1) f fd ps sp := by
  obtain ⟨oc, od, kV, doc, pm, an, cdv, ct, osl, rfl, lk, hcd⟩ := F.ex
  refine fnG_body lk hcd S hlen fun A outer s H vs Q E g hr want => ?_
  obtain ⟨t, h, q⟩ := hb cdv A outer s H vs Q E g hr want
  exact ⟨t, h.nox, q⟩
/-- .. which may raise -/
theorem okGX {x qual : Str} {st : Stmt} {f : Addr} {fd : FuncData} {N ps : List Str} {k : Nat} {sp : Sp} (F : Fun K x qual st f fd) (S : FnScope N ps (defScope st)) (hlen : ∀ vs H Q E, sp vs H Q E → vs.length = ps.length) {CX : CXT}
    (hb : ∀ (cdv : Value) (A : Around) (outer : List Env) (s : Shared) (H : Hp) (vs : List V) (Q : VK) (E : XK), Gd (A.deeper (envOfC qual (defScope st) s.heap.objs.size f cdv)) → Room k (A.deeper (envOfC qual (defScope st) s.heap.objs.size f cdv)) → sp vs H Q E →
      ∃ t, PSs (cxOf CX P w K mg base N qual (defScope st) f cdv A outer s H E) (defBody st) t ∧ t { nx := fun _ H' => Q .non H', rt := Q } (start N vs) H) : FnG P w K mg base CX (k + 1) f fd ps sp := by
  obtain ⟨oc, od, kV, doc, pm, an, cdv, ct, osl, rfl, lk, hcd⟩ := F.ex
  exact fnG_body lk hcd S hlen fun A outer s H vs Q E g hr want => hb cdv A outer s H vs Q E g hr want
/-- the name x is a def that keeps the promise sp where no repr is under way -/
def CalG (P : Program) (w : World) (K : PySem.W.Frag) (mg : Str → Option Value) (base : Heap) (k : Nat) (x : Str) (ps : List Str) (sp : Sp) : Prop :=
  ∃ (f : Addr) (fd : FuncData), FnG P w K mg base CX0 k f fd ps sp ∧ PySem.W.keepIn K (.ref f) = true ∧ Binds K fd ps [] ∧ mg x = some (.ref f)
theorem Cal.g {k : Nat} {x : Str} {ps : List Str} {sp : Sp} (c : Cal P w K mg base k x ps sp) : CalG P w K mg base k x ps sp := by
  obtain ⟨f, fd, F, r⟩ := c
  exact ⟨f, fd, fnG_of F, r⟩
theorem CalG.up {j k : Nat} {x : Str} {ps : List Str} {sp : Sp} (c : CalG P w K mg base j x ps sp) (h : j ≤ k) : CalG P w K mg base k x ps sp := by
  obtain ⟨f, fd, F, r⟩ := c
  exact ⟨f, fd, F.up h, r⟩
theorem Def.calG {x qual : Str} {st : Stmt} {ps : List Str} (d : Def K mg x qual st ps) {k : Nat} {sp : Sp} (h : ∀ f fd, Fun K x qual st f fd → FnG P w K mg base CX0 k f fd ps sp) : CalG P w K mg base k x ps sp := by
  obtain ⟨f, fd, F, b, g⟩ := d
  exact ⟨f, fd, h f fd F, F.kp, b, g⟩
end
section
variable {X : Cx}
/-- the callee runs -/
theorem runG {CX : CXT} {k : Nat} {f : Addr} {fd : FuncData} {ps : List Str} {sp : Sp} {E : XK} {ds : List Value} {dvs : List V} {pins : List (Addr × Obj)} {σ : L2.St} {H : Hp} {s : Shared} {Q : VK} {us : List Value} {vs : List V}
    (F : FnG X.prog X.w X.K X.mg X.base CX k f fd ps sp) (g : Gd X.A) (room : Room k X.A) (hb : Binds X.K fd ps ds) (hd : Vals dvs ds) (hx : Passes CX X E)
    (I : Inv X pins σ H s) (r : Vals vs us) (want : sp (vs ++ dvs) H Q E) : wpAny (model X.prog X.w) X.A (call (.ref f) us) (EP X pins σ Q) X.xe s := by
  have rel := r.append hd
  have hl : (us ++ ds).length = ps.length := rel.length.symm.trans (F.len _ _ _ _ want)
  have hc := F.run X.A X.stack s H ⟨us, []⟩ (us ++ ds) (vs ++ dvs) Q E g room I.env0 (hb s us I.kIn hl) rel want
  refine wpAny_call (codeAny_mono hc ?_)
  intro res s' hres
  match res, hres with
  | .error e, hres => exact hx pins σ H s e s' I hres
  | .ok (.ret u), hres => exact I.after hres
theorem pe_calG {x : Str} {ps : List Str} {sp : Sp} {k : Nat} {e : Expr} {es : List Expr} {t : TA} {p pos : Pos} (c : CalG X.prog X.w X.K X.mg X.base k x ps sp) (g : Gd X.A) (room : Room k X.A) (hg : Gl X x) (h : PA X (e :: es) t)
    (hdb : (x == ("__debug__" : Str)) = false := by decide) (hst : starEach (e :: es) X.env = (false, eval e X.env) :: starEach es X.env := by rfl) (hpl : (backTo pos (starEach es X.env)).any (·.1) = false := by rfl) :
    PE X (.Call (.Name x p) (e :: es) [] pos) (tCl sp t) := by
  obtain ⟨f, fd, F, kp, b, hm⟩ := c
  rw [← tCl_eq]
  refine ⟨fun pins s σ H Q I want => wpAny_Call_Name_kw (ld_glob I hg hm ?_ hdb)⟩
  exact PySem.W.callWith_K (h₀ := X.base) I.ok.mod.kin kp (thn (h.run pos pins s σ H _ I want) fun us s1 ⟨vs, H1, I1, r, q⟩ => ⟨I1.kIn, runG F g room b .nil pass0 I1 r q⟩) hst hpl
theorem pe_calG0 {x : Str} {ps : List Str} {sp : Sp} {k : Nat} {p pos : Pos} (c : CalG X.prog X.w X.K X.mg X.base k x ps sp) (g : Gd X.A) (room : Room k X.A) (hg : Gl X x)
    (hdb : (x == ("__debug__" : Str)) = false := by decide) : PE X (.Call (.Name x p) [] [] pos) (tCl sp tNil) := by
  obtain ⟨f, fd, F, kp, b, hm⟩ := c
  rw [← tCl_eq]
  exact ⟨fun pins s σ H Q I want => wpAny_Call_Name_kw (ld_glob I hg hm (PySem.W.callWith_K0 I.kIn kp (runG (us := []) F g room b .nil pass0 I .nil want)) hdb)⟩
end
/-! ### repr of data -/
theorem repr_ref {prog : Program} {w : World} {A : Around} {E : Value → Shared → Prop} {s : Shared} {Q : Value → Shared → Prop} {a : Addr} {d : PyData} {as : List Addr}
    (r : Reads s.heap (.ref a) d as) (hs : d.showable = true) (hsm : d.hasDict = true → sysModules ∉ as) (hsz : d.shown.length ≤ sizeLine) (g : Gd A) (hu : A.units + 1 + d.depth < cLine)
    (h : ∀ h' u tk, (∀ b o, s.heap.get? b = some o → h'.get? b = some o) → Q (.str d.shown u) { s with heap := h', toks := tk }) : wpAny (model prog w) A (call (.builtin "repr") [.ref a]) Q E s := by
  obtain ⟨T, idr, B⟩ := showsBy_of_reads (prog := prog) (w := w) r hs hsm hsz
  have hT := B.typeIs s fun _ _ e => e
  refine Calls.call_function_entry F.kind_repr F.plain_repr F.entry_repr (F.args_repr1 _) ?_
  unfold Builtin.«repr»
  refine wpAny_bind (m := oneArg "repr" _) (wpAny_pure ?_)
  refine wpAny_bind (wpAny_cRoomFor (by show A.units + 1 < cLine; omega) ?_)
  refine wpAny_bind (wpAny_specialOf (name := Str.ofString "__repr__") hT B.slotRepr.lookup ?_)
  refine wpAny_bind (m := callSpecialIfBound? (.ref a) (Str.ofString "__repr__")) (wpAny_callSpecialIfBound?_slotG (name := Str.ofString "__repr__") hT B.slotRepr (B.call _ _ s _ g (by show A.units + 1 + _ < cLine; omega) (fun _ _ e => e) fun h' u tk hk => ?_))
  refine wpAny_bind (wpAny_isInstance (T := "str") (b := true) rfl isSubtype_str_str ?_)
  exact wpAny_pure ⟨_, rfl, h h' u tk hk⟩
section
variable {X : Cx}
/-- repr(x), x data without dicts -/
def rRepr (K : PySem.W.Frag) : List V → Hp → VK → Prop := fun xs H Q => ∃ (x : V) (d : PyData), xs = [x] ∧ Dp K H x d ∧ d.showable = true ∧ d.hasDict = false ∧ d.depth ≤ 60 ∧ d.shown.length ≤ sizeLine ∧ Q (.str d.shown) H
theorem call_reprD (g : Gd X.A) (hu : X.A.units + 64 < cLine) : CallR X (.builtin "repr") (rRepr X.K) := by
  intro pins s σ H xs us Q I r h
  obtain ⟨x, d, rfl, hd, h1, h2, h3, h4, q⟩ := h
  obtain ⟨u, rfl, rx⟩ := vals1 r
  obtain ⟨as, hr⟩ := Dp.reads I d x u hd rx
  cases hr with
  | none => simp only [PyData.shown] at q; exact PySem.P.repr_of_none ⟨.str _, H, I.tok _, ⟨_, rfl⟩, q⟩
  | bool b => simp only [PyData.shown] at q; exact PySem.P.repr_of_bool ⟨.str _, H, I.tok _, ⟨_, rfl⟩, q⟩
  | int i t => simp only [PyData.shown] at q; exact PySem.P.repr_of_int (by simpa [PyData.showable] using h1) ⟨.str _, H, I.tok _, ⟨_, rfl⟩, q⟩
  | str y t => simp only [PyData.shown] at q h4; exact PySem.P.repr_of_str ⟨.str _, H, I.tok _, ⟨_, rfl⟩, q⟩ h4
  | list e1 e2 e3 e4 =>
    exact repr_ref (.list e1 e2 e3 e4) h1 (fun e => by rw [h2] at e; cases e) h4 g (by omega) fun h' u tk hk => ⟨.str _, H, I.kept (t' := tk) hk, ⟨_, rfl⟩, q⟩
  | tuple e1 e2 e3 e4 =>
    exact repr_ref (.tuple e1 e2 e3 e4) h1 (fun e => by rw [h2] at e; cases e) h4 g (by omega) fun h' u tk hk => ⟨.str _, H, I.kept (t' := tk) hk, ⟨_, rfl⟩, q⟩
  | dict e1 e2 e3 e4 e5 =>
    exact repr_ref (.dict e1 e2 e3 e4 e5) h1 (fun e => by rw [h2] at e; cases e) h4 g (by omega) fun h' u tk hk => ⟨.str _, H, I.kept (t' := tk) hk, ⟨_, rfl⟩, q⟩
end
/-! ### sorted of a tuple of texts -/
section
variable {X : Cx}
def rSortedTS (K : PySem.W.Frag) : List V → Hp → VK → Prop := fun vs H Q => ∃ (a : Addr) (xs : List Str), vs = [V.ref a] ∧ SqT K H a (xs.map V.str) ∧ xs.length ≤ 100000 ∧
  ∀ (ys : List Str) (p : Addr), ys.Perm xs → sortedS ys = true → H p = none → Q (.ref p) (upd H p (.lst (ys.map V.str)))
theorem cr_sortedTS : CallR X (.builtin "sorted") (rSortedTS X.K) := by
  intro pins s σ H vs us Q I r h
  obtain ⟨a, xs, rfl, ht, hz, q⟩ := h
  obtain ⟨its, rv, ⟨o, ho, hc, n, hd⟩, _⟩ := I.tuple ht
  rw [Vals.ref1 r]
  have hln : xs.length = its.length := by
    have e := rv.length
    rw [List.length_map] at e
    exact e
  have hS : StrsAre its xs := rv.strs
  have hL : its.length ≤ sizeLine := Nat.le_trans (by omega) (show 100000 ≤ sizeLine by decide)
  refine Calls.call_function_entry kind_sorted plain_sorted entry_sorted (args_sorted1 _) ?_
  unfold Builtin.«sorted»
  refine wpAny_bind (m := checkCount "sorted" 1 1 _) (wpAny_pure ?_)
  refine wpAny_bind (wpAny_collect_seq a (.inr rfl) ho hc hd (fun h' hk => ?_) (by rw [List.size_toArray]; exact hL))
  have I1 : Inv _ pins σ H { s with heap := h' } := I.kept (t' := s.toks) hk
  rw [List.toList_toArray]
  refine wpAny_bind (wpAny_newList ?_ hL)
  have hoL : (h'.push (seqObj "list" its.toArray 0)).get? h'.objs.size = some (seqObj "list" its.toArray 0) := Heap.get?_push_size _ rfl
  show wpAny _ _ _ _ _ { s with heap := h'.push (seqObj "list" its.toArray 0) }
  refine wpAny_bind (wpAny_holding (wpAny_call_entry slot_list_sort ⟨_, hoL, rfl⟩ entry_list_sort
    (list_sort_treeKAny strKind_oneLt (s := { s with heap := h'.push (seqObj "list" its.toArray 0) }) hoL hS.keysOf (fun v₁ v₂ rest e => keyKind_strs (by rw [← e]; exact hS)) hL fun st' hp hs => ⟨_, rfl, ?_⟩) (args_list_sort _)))
  obtain ⟨ys, g1, g2, g3⟩ := sorted_out_str hS hp hs
  obtain ⟨e', he'⟩ := sortedHeap_at (vs := its) (out := (arrOf st').map (·.2)) hoL
  have hlen : (ys.map V.str).length ≤ sizeLine := by
    rw [List.length_map, g2.length_eq, hln]
    exact hL
  refine wpAny_pure ⟨_, rfl, .ref h'.objs.size, upd H h'.objs.size (.lst (ys.map V.str)), I1.laid (t' := s.toks) (fun b u e => ?_) (Nat.le_refl _)
    (show ObjOk X.prog X.w _ _ _ (.lst (ys.map V.str)) from ⟨hlen, ((arrOf st').map (·.2)).toList, e', vals_of_strs g1, by rw [Array.toArray_toList]; exact he'⟩), rfl, q ys _ g2 g3 (I1.hok.fresh (Nat.le_refl _))⟩
  have hb : b < h'.objs.size := Heap.lt_size e
  rw [sortedHeap_old (Nat.ne_of_lt hb) (by rw [size_push']; exact Nat.lt_succ_of_lt hb)]
  exact Heap.get?_push_of_some _ e
end
/-! ### the end of a law whose promise holds where no repr is under way -/
/-- the abstract heap at the law's call: the script alone, if the module does not own it -/
def H00 (a : Addr) (o : Obj) (ns : List Int) (own : Bool) : Hp := fun b => if own = false ∧ b = a then some (.frz o (.lst (ns.map V.int))) else none
theorem h00_none {a b : Addr} {o : Obj} {ns : List Int} {own : Bool} (h : own = true ∨ b ≠ a) : H00 a o ns own b = none := by
  unfold H00
  rw [if_neg]
  rintro ⟨h1, h2⟩
  rcases h with h | h
  · rw [h1] at h; cases h
  · exact h h2
theorem h00_some {a b : Addr} {o : Obj} {ns : List Int} {own : Bool} {u : HO} (h : H00 a o ns own b = some u) : own = false ∧ b = a ∧ u = .frz o (.lst (ns.map V.int)) := by
  unfold H00 at h
  by_cases c : own = false ∧ b = a
  · rw [if_pos c] at h
    exact ⟨c.1, c.2, (Option.some.inj h).symm⟩
  · rw [if_neg c] at h
    cases h
theorem lawG {P : Program} {w : World} {K : PySem.W.Frag} {mg mb : Str → Option Value} {CX : CXT} {k : Nat} {fa a : Addr} {fd : FuncData} {x : Str} {sp : Sp} {t : Shared} {vs : List Value} {ns : List Int}
    (inK : K.In t.heap) (glob : t.heap.Ns mainGlobals mg) (blt : t.heap.Ns builtinsNs mb) (boot : ∀ y : Str, y ≠ "__name__" → mb y = bootBuiltins y) (noLim : t.heap.NoLimit) (gens : t.gens = #[])
    (scr : t.heap.get? a = some { cls := .type "list", data := .seq vs.toArray }) (hints : IntsAre vs ns) (short : ns.length ≤ sizeLine) (room : Room k callerA)
    (F : ∀ base : Heap, K.In base → base.Ns mainGlobals mg → FnG P w K mg base CX k fa fd [x] sp) (bind : ∀ (s : Shared) (u : Value), BindsTo s fd ⟨[u], []⟩ [(x, u)])
    (want : ∀ H : Hp, Only H → SqL K H a (ns.map V.int) → sp [.ref a] H (fun v _ => v = .bl true) fun _ _ _ => False)
    (noErr : ∀ H e s', CX [] H t (fun _ _ _ => False) e s' → False) :
    codeAny (model P w) callerA (.call (.ref fa) ⟨[.ref a], []⟩) (fun r s' => r = .ok (.ret (.bool true)) ∧ OldK t.heap s'.heap ∧ s'.os = t.os ∧ AllBare s'.gens) t := by
  have hv : Vals (ns.map V.int) vs := vals_ints hints
  have hlv : vs.length = ns.length := hints.length
  -- does the module own the script?
  obtain ⟨own, hown⟩ : ∃ own : Bool, own = (K.lookup a).isSome := ⟨_, rfl⟩
  let o : Obj := { cls := .type "list", data := .seq vs.toArray }
  have hOk : HOk P w (H00 a o ns own) t.heap := by
    intro b u e
    obtain ⟨_, rfl, rfl⟩ := h00_some e
    exact ⟨scr, by rw [List.length_map]; exact short, vs, _, hv, scr⟩
  have keepT : ∀ {b : Addr} {ob : Obj}, t.heap.get? b = some ob → own = true ∨ b ≠ a → (hidT t.heap (H00 a o ns own)).get? b = some ob := fun e n => hidT_get e (h00_none n)
  have notScr : ∀ {b : Addr} {m : Str → Option Value}, t.heap.Ns b m → b ≠ a := by
    rintro b m ⟨ob, es, ep, e, dd, _⟩ rfl
    rw [scr] at e
    cases e
    cases dd
  have nsKeep : ∀ {b : Addr} {m : Str → Option Value}, t.heap.Ns b m → (hidT t.heap (H00 a o ns own)).Ns b m := by
    intro b m n
    have ne := notScr n
    obtain ⟨ob, es, ep, e, r⟩ := n
    exact ⟨ob, es, ep, keepT e (.inr ne), r⟩
  have inK' : K.In (hidT t.heap (H00 a o ns own)) := by
    intro b ob e
    refine keepT (inK b ob e) ?_
    by_cases hb : b = a
    · subst hb
      left
      rw [hown, e]
      rfl
    · exact .inr hb
  have noLim' : (hidT t.heap (H00 a o ns own)).NoLimit := by
    obtain ⟨mc, h1, h2⟩ := noLim
    exact ⟨mc, nsKeep h1, h2⟩
  have env : Env0 P w K mg (hidT t.heap (H00 a o ns own)) callerA [] t (H00 a o ns own) := by
    refine ⟨rfl, ⟨inK', nsKeep glob, ⟨mb, nsKeep blt, boot⟩, noLim'⟩, fun b ob e => of_hidT e, Nat.le_of_eq (hidT_size _ _), trivial, ?_, hOk, .of_eq gens⟩
    intro b hb
    exact absurd (show b ∈ ([] : List Addr) from hb) List.not_mem_nil
  have only : Only (H00 a o ns own) := by
    intro b
    cases e : H00 a o ns own b with
    | none => exact .inl rfl
    | some u =>
      obtain ⟨_, _, rfl⟩ := h00_some e
      exact .inr ⟨_, _, rfl⟩
  have hS : SqL K (H00 a o ns own) a (ns.map V.int) := by
    cases own with
    | false => exact .inl (.inr ⟨o, by unfold H00; rw [if_pos ⟨rfl, rfl⟩]⟩)
    | true =>
      obtain ⟨ob, e⟩ := Option.isSome_iff_exists.mp hown.symm
      have e2 := inK a ob e
      rw [scr] at e2
      cases e2
      exact .inr ⟨_, vs.toArray, _, e, rfl, rfl, rfl, by rw [List.size_toArray, hlv]; exact short, by simpa using hv⟩
  have runs := (F _ inK' (nsKeep glob)).run callerA [] t (H00 a o ns own) ⟨[.ref a], []⟩ [.ref a] [.ref a] _ _ rfl room env (bind t (.ref a)) (.cons rfl .nil) (want _ only hS)
  refine codeAny_mono runs ?_
  intro res s' hres
  match res, hres with
  | .error e, hres => exact (noErr _ e s' hres).elim
  | .ok (.ret u), hres =>
    obtain ⟨v, H', hos, bare, un, ok', rel, rfl⟩ := hres
    obtain rfl : u = Value.bool true := rel
    refine ⟨rfl, OldK.of_keep fun b ob e => ?_, hos, bare⟩
    cases q : H00 a o ns own b with
    | none => exact un.keep b ob e q (fun z => absurd (show b ∈ ([] : List Addr) from z) List.not_mem_nil) List.not_mem_nil
    | some u =>
      obtain ⟨_, _, rfl⟩ := h00_some q
      have q' := un.frzs b _ _ q
      have e1 := (hOk b _ q).1
      rw [e] at e1
      cases e1
      exact (ok' b _ q').1
/-- what k_head leaves -/
theorem walkG {l : PySem.W.OpenLaw} {n k : Nat} {q : Program} {loose : List Str} {XP : (Str → Option Value) → Heap → Prop} {YP : World → Heap → Prop} {d : DefRec} {K : Params → PySem.W.Frag} {CX : World → CXT} {sp : World → Sp} {x : Str}
    (most : l.most = some n) (small : n ≤ sizeLine) (plain : d.params.defaults = []) (room : Room k callerA) (hY : ∀ (w : World) (h : Heap), YP w h → (K w.params).In h)
    (F : ∀ (w : World) (mg : Str → Option Value) (fa : Addr) (h : Heap), (K w.params).In h → h.Ns mainGlobals mg → mg d.name = some (.ref fa) →
      ∃ fd : FuncData, (∀ (s : Shared) (u : Value), BindsTo s fd ⟨[u], []⟩ [(x, u)]) ∧ ∀ base : Heap, (K w.params).In base → base.Ns mainGlobals mg → FnG l.prog w (K w.params) mg base (CX w) k fa fd [x] (sp w))
    (want : ∀ (w : World) (H : Hp) (a : Addr) (ns : List Int), ns.length ≤ n → Only H → SqL (K w.params) H a (ns.map V.int) → sp w [.ref a] H (fun v _ => v = .bl true) fun _ _ _ => False)
    (noErr : ∀ (w : World) (H : Hp) (s : Shared) (e : Value) (s' : Shared), CX w [] H s (fun _ _ _ => False) e s' → False) :
    PySem.W.WalkO q loose XP YP l.row.toRowW d [] (fun f vs => PySem.call f vs) := by
  refine Att.attach_call most plain fun w s₀ t mg mb fa o pm cd doc a vs ns G Y ho hd hcd hmg scr hints hlen gens => ?_
  obtain ⟨fd, bind, body⟩ := F w mg fa _ (hY w _ Y) G.T.g hmg
  exact lawG (hY w _ Y) G.T.g G.T.b G.T.builtins G.T.nolimit gens scr hints (Nat.le_trans hlen small) room body bind (fun H hO hS => want w H a ns hlen hO hS) fun H e s' => noErr w H t e s'
end Gx

set_option maxRecDepth 100000
set_option maxHeartbeats 4000000
namespace Gx
open PySem PySem.Spec PySem.W PySem.Calls Builtin Builtin.ObjectAttr
section
variable {prog : Program} {w : World} {A : Around} {R : Result → Shared → Prop} {hp : Heap} {g : Array GenState} {d : Drawn} {t : Nat} {os : OsState} {K : Frag}
/-- the first field of an own exception, over any built-in base -/
theorem exc_storeX {B : String} {bmB : List Value} {name : Str} {tk : Tok} {v : Value} {x C t0 : Addr} (SF : StoreFacts B bmB "object.__setattr__" "object")
    (inK : K.In hp) (hx : hp.get? x = some (excObj C t0 none .none)) (over : excOver K C bmB = true) (noTake : takerIn K C name = some none) (hasD : hasDictIn K C = true)
    (hq : ∀ (h' : Heap) (tk' : Nat) (dx : Addr), (∀ b o, b ≠ x → hp.get? b = some o → h'.get? b = some o) → hp.objs.size ≤ dx → dx ≠ x → h'.get? x = some (excObj C t0 (some dx) .none) →
      h'.Ns1 dx (fun y => if y = name then some v else none) → R (.ok (.ret .none)) ⟨h', g, d, tk', os⟩) :
    codeAny (model prog w) A (.call (.builtin "object.__setattr__") ⟨[.ref x, .str name tk, v], []⟩) R ⟨hp, g, d, t, os⟩ := by
  have xs : x ≠ hp.objs.size := Nat.ne_of_lt (Heap.lt_size hx)
  refine osa_openX (s := ⟨hp, g, d, t, os⟩) (od := none) SF inK ⟨hx, rfl, rfl, trivial⟩ over noTake fun b => ?_
  obtain ⟨cd, hc, hd⟩ := any_some hasD
  refine wpAny_bind (wpAny_pure (wpAny_bind (instanceDict_exc (s := ⟨hp, g, d, t, os⟩) hx (looks_clsIn inK hc) hd ?_)))
  show wpAny _ _ (storeInDict hp.objs.size (.str name tk) name v) _ _ _
  have hx1 : (hp.push (dictOf [] 0)).get? x = some (excObj C t0 none .none) := Heap.get?_push_of_some _ hx
  refine PySem.HandSPX.store_in_new ⟨_, #[], _, (Heap.get?_update_ne _ _ _ _ xs.symm).trans (Heap.get?_push_at rfl rfl), rfl, fun e he => absurd he (by simp), fun _ => rfl⟩ fun h' tk' hn hs => ?_
  refine hq h' tk' hp.objs.size (fun b o hb ho => ?_) (Nat.le_refl _) xs.symm ((hs.2 x xs).trans (Heap.get?_update_self _ hx1 rfl)) hn
  have bl : b ≠ hp.objs.size := Nat.ne_of_lt (Heap.lt_size ho)
  exact (hs.2 b bl).trans ((Heap.get?_update_ne _ _ _ _ hb).trans (Heap.get?_push_of_some _ ho))
end
end Gx
namespace Gx
open PySem PySem.Spec PySem.W PySem.Calls PyProof.Rows L2
/-! ### own exceptions with one field: class cn(B): def __init__(self, fld): self.fld = fld -/
/-- what the written part says of the class -/
structure XTxt (K : Frag) (mg : Str → Option Value) (cn fld : Str) (newId : String) (bmB : List Value) (C fI : Addr) : Prop where
  gC : mg cn = some (.ref C)
  cls : ∃ nm q N bs bm sn sub ab col dd k0 k1 k2 k3 k5, K.lookup C = some (excClassObj nm q C N bs bm true sn sub ab col dd k0 k1 k2 k3 k5 newId) ∧ excTail bmB bm = true
  over : excOver K C bmB = true
  tak : takerIn K C fld = some none
  hdC : hasDictIn K C = true
  sa : findIn K (.ref C) "__setattr__" = some (some (.builtin "object.__setattr__"))
  ga : findIn K (.ref C) "__getattribute__" = some (some (.builtin "BaseException.__getattribute__"))
  gg : findIn K (.ref C) "__getattr__" = some none
  noN : findIn K (.ref C) fld = some none
  iC : findIn K (.ref C) "__init__" = some (some (.ref fI))
  tC : typeIn K (.ref fI) = some (.type "function")
  kC : keepIn K (.ref C) = true
  exC : subIn K (.ref C) (.type "BaseException") = some true
  tyC : typeIn K (.ref C) = some (.type "type")
  te : exmOne K (.ref C) (.ref C) = some true
/-- what __init__ leaves of a new exception at x -/
structure XInit (h h' : Heap) (x C dx t0 : Addr) (fld : Str) (v : Value) : Prop where
  keep : ∀ b o, b ≠ x → h.get? b = some o → h'.get? b = some o
  obj : h'.get? x = some (excObj C t0 (some dx) .none)
  big : h.objs.size ≤ dx
  ne : dx ≠ x
  ns : h'.Ns1 dx (fun y => if y = fld then some v else none)
/-- __init__ stores the field -/
def InitDoes (K : Frag) (C fI : Addr) (fld : Str) : Prop := ∀ (prog : Program) (w : World) (A : Around) (R : Result → Shared → Prop) (s : Shared) (x t0 : Addr) (v : Value),
  K.In s.heap → s.heap.NoLimit → s.heap.get? x = some (excObj C t0 none .none) → K.lookup x = none → A.depth < recursionLimit →
  (∀ h' tk dx, XInit s.heap h' x C dx t0 fld v → R (.ok (.ret .none)) { s with heap := h', toks := tk }) → codeAny (model prog w) A (.call (.ref fI) ⟨[.ref x, v], []⟩) R s
/-- such an exception, made -/
structure XMade (h h' : Heap) (e C d : Addr) (fld : Str) (v : Value) : Prop where
  keep : ∀ b o, h.get? b = some o → h'.get? b = some o
  new : h.objs.size ≤ e
  obj : ∃ oe vs, h'.get? e = some oe ∧ oe.cls = .ref C ∧ oe.dict = some d ∧ oe.data = .fields vs ∧ vs[1]? = some .none
  big : h.objs.size ≤ d
  ne : d ≠ e
  ns : h'.Ns1 d (fun y => if y = fld then some v else none)
theorem one_line (v : Value) : [v].length ≤ sizeLine := by
  show 1 ≤ sizeLine
  decide
section
variable {prog : Program} {w : World} {A : Around} {R : Result → Shared → Prop} {s : Shared} {K : Frag} {mg : Str → Option Value} {C fI : Addr} {cn fld : Str} {B newId initId : String} {bmB : List Value}
theorem x_made (FB : ExcBaseFacts B newId initId bmB) (T : XTxt K mg cn fld newId bmB C fI) (D : InitDoes K C fI fld) {v : Value} (inK : K.In s.heap) (lim : s.heap.NoLimit) (room : A.depth + 1 < recursionLimit)
    (hq : ∀ h' tk e d, XMade s.heap h' e C d fld v → R (.ok (.ret (.ref e))) { s with heap := h', toks := tk }) : codeAny (model prog w) A (.call (.ref C) ⟨[v], []⟩) R s := by
  obtain ⟨nm, q, N, bs, bm, sn, sub, ab, col, dd, k0, k1, k2, k3, k5, hC, tail⟩ := T.cls
  obtain ⟨hp, g, dr, tk, os⟩ := s
  have stay : ∀ b o, hp.get? b = some o → ((hp.push (kdv_tup [v])).push (excObj C hp.objs.size none .none)).get? b = some o := fun b o e => Heap.get?_push_of_some _ (Heap.get?_push_of_some _ e)
  have there : ((hp.push (kdv_tup [v])).push (excObj C hp.objs.size none .none)).get? (hp.objs.size + 1) = some (excObj C hp.objs.size none .none) := by heap_get
  have fresh : K.lookup (hp.objs.size + 1) = none := by
    cases e : K.lookup (hp.objs.size + 1) with
    | none => rfl
    | some o => exact absurd (Nat.lt_of_succ_lt (Heap.lt_size (inK _ _ e))) (Nat.lt_irrefl _)
  refine PySem.HandSPX.call_own FB (fun Y => excTail_contains Y bm tail) (inK _ _ hC) (looks_findIn inK T.iC) (fun self => bind_fn inK self T.tC) (one_line v) ?_
  refine D prog w _ _ ⟨(hp.push (kdv_tup [v])).push (excObj C hp.objs.size none .none), g, dr, tk, os⟩ _ _ v (inK.keeps stay) (lim.keeps stay) there fresh room fun h' tk' dx M => ?_
  have old : ∀ b o, hp.get? b = some o → h'.get? b = some o := fun b o e => M.keep b o (Nat.ne_of_lt (Nat.lt_succ_of_lt (Heap.lt_size e))) (stay b o e)
  have z : hp.objs.size + 1 + 1 ≤ dx := by
    have q := M.big
    first
      | exact q
      | simpa only [Heap.size_push] using q
  exact ⟨rfl, hq h' tk' (hp.objs.size + 1) dx ⟨old, Nat.le_succ _, ⟨_, _, M.obj, rfl, rfl, rfl, rfl⟩, Nat.le_trans (Nat.le_trans (Nat.le_succ _) (Nat.le_succ _)) z, M.ne, M.ns⟩⟩
end
theorem relO_one {fld : Str} {v : V} {u : Value} (r : RelV v u) (f : Str) : RelO (List.lookup f [(fld, v)]) (if f = fld then some u else none) := by
  by_cases e : f = fld
  · subst e
    rw [if_pos rfl, show List.lookup f [(f, v)] = some v by simp [List.lookup]]
    exact r
  · have q : (f == fld) = false := by simpa using e
    rw [if_neg e, show List.lookup f [(fld, v)] = none by simp [List.lookup, q]]
    trivial
section
variable {X : Cx} {C fI : Addr} {cn fld : Str} {B newId initId : String} {bmB : List Value}
/-- cn(e) -/
def tMkX (C : Addr) (fld : Str) (ta : TA) : L2.St → Hp → XK → Prop := fun σ H Q => ta σ H fun vs H1 => ∃ v, vs = [v] ∧ ∀ d, H1 d = none → Q (.ref C) (some d) (upd H1 d (.xd [(fld, v)]))
theorem pmk_x {a : Expr} {ta : TA} {p pos : Pos} {k : Nat} (FB : ExcBaseFacts B newId initId bmB) (T : XTxt X.K X.mg cn fld newId bmB C fI) (D : InitDoes X.K C fI fld) (room : Room k X.A) (ha : PA X [a] ta) (hg : Gl X cn)
    (hdb : (cn == ("__debug__" : Str)) = false := by decide) (hst : starEach (a :: []) X.env = (false, eval a X.env) :: starEach [] X.env := by rfl) (hpl : (backTo pos (starEach [] X.env)).any (·.1) = false := by rfl) :
    PMk X (.Call (.Name cn p) [a] [] pos) (tMkX C fld ta) := by
  intro pins s σ H Q I h
  refine wpAny_Call_Name_kw (ld_glob I hg T.gC ?_ hdb)
  refine PySem.W.callWith_K (h₀ := X.base) I.ok.mod.kin T.kC (thn (ha.run pos pins s σ H _ I h) ?_) hst hpl
  rintro us s1 ⟨vs, H1, I1, r1, v, rfl, q1⟩
  refine ⟨I1.kIn, ?_⟩
  obtain ⟨u, rfl, rv⟩ := vals1 r1
  show wpAny _ _ (call (.ref C) [u]) _ _ _
  have lim := I1.nolimit
  obtain ⟨hp, g, dr, tk, os⟩ := s1
  refine wpAny_call (x_made FB T D I1.kIn lim (by have := room.dp; omega) fun h' tk' e d M => ?_)
  show MkP X pins σ Q (.ref e) ⟨h', g, dr, tk', os⟩
  obtain ⟨oe, fv, hoe, hc, hd, hdat, h1⟩ := M.obj
  obtain ⟨G', g1, g2⟩ := restrict h' fun b => decide (b ≠ e)
  have off : ∀ b, b ≠ e → G'.get? b = h'.get? b := fun b hb => g1 b (decide_eq_true hb)
  have gone : G'.get? e = none := g2 e (by simp)
  have old : ∀ b o, hp.get? b = some o → G'.get? b = some o := fun b o q => (off b (Nat.ne_of_lt (Nat.lt_of_lt_of_le (Heap.lt_size q) M.new))).trans (M.keep b o q)
  have ob : ObjOk X.prog X.w (upd H1 d (.xd [(fld, v)])) G' d (.xd [(fld, v)]) := ⟨_, M.ns.at (fun o q => (off d M.ne).trans q), fun f => relO_one rv f⟩
  have J : Inv X pins σ (upd H1 d (.xd [(fld, v)])) ⟨G', g, dr, tk', os⟩ := I1.laid (t' := tk') old M.big ob
  refine ⟨e, oe, fv, ⟨G', g, dr, tk', os⟩, _, .ref C, some d, rfl, J, ?_, gone, hoe, ⟨hc, hd⟩, hdat, h1, ?_, rfl, I1.bare, raises_own T.exC T.tyC, q1 d (I1.hok.fresh M.big)⟩
  · intro b o q
    have q' : G'.get? b = some o := q
    by_cases hb : b = e
    · rw [hb, gone] at q'
      cases q'
    · exact (off b hb).symm.trans q
  · rw [upd_ne (Ne.symm M.ne)]
    exact I1.hok.fresh M.new
/-- raise cn(e) -/
def tRaiseX (C : Addr) (fld : Str) (W : WX) (ta : TA) : TS := fun _ σ H => tMkX C fld ta σ H fun cls d H' => W cls d σ H'
theorem ps_raiseX {a : Expr} {ta : TA} {W : WX} {p pos pos2 : Pos} {k : Nat} (hc : X.calm = true) (FB : ExcBaseFacts B newId initId bmB) (T : XTxt X.K X.mg cn fld newId bmB C fI) (D : InitDoes X.K C fI fld) (room : Room k X.A) (tk : Takes X W) (ha : PA X [a] ta) (hg : Gl X cn)
    (hdb : (cn == ("__debug__" : Str)) = false := by decide) (hst : starEach (a :: []) X.env = (false, eval a X.env) :: starEach [] X.env := by rfl) (hpl : (backTo pos (starEach [] X.env)).any (·.1) = false := by rfl) :
    PS X (.Raise (some (.Call (.Name cn p) [a] [] pos)) none pos2) (tRaiseX C fld W ta) := ps_raise hc tk (pmk_x FB T D room ha hg hdb hst hpl)
/-- e.fld, e the exception that the suite holds (at a; its class cls, its dict d) -/
def tByX (C : Addr) (fld : Str) (a : Addr) (cls : Value) (d : Option Addr) (te : TE) : TE := fun σ H Q => te σ H fun x H1 => x = .ref a ∧ cls = .ref C ∧ ∃ (dd : Addr) (v : V), d = some dd ∧ H1 dd = some (.xd [(fld, v)]) ∧ Q v H1
theorem pe_byX {a : Addr} {oe : Obj} {cls : Value} {d : Option Addr} {pn : List (Addr × Obj)} {e : Expr} {te : TE} {pos : Pos} (T : XTxt X.K X.mg cn fld newId bmB C fI) (hz : Zc cls d oe) (hf : ∃ vs, oe.data = .fields vs) (he : PE (X.suite a ((a, oe) :: pn)) e te)
    (hb : attributeBase e fld X.env (eval e X.env) = eval e X.env := by rfl) : PE (X.suite a ((a, oe) :: pn)) (.Attribute e fld pos) (tByX C fld a cls d te) := by
  constructor
  intro pins s σ H Q I h
  refine attr_of hb (thn (he.run pins s σ H _ I h) ?_)
  rintro u s1 ⟨x, H1, I1, rx, rfl, rfl, dd, v, rfl, ea, q⟩
  obtain rfl : u = Value.ref a := rx
  obtain ⟨here, _⟩ := I1.pin (a, oe) (List.mem_append_left _ List.mem_cons_self)
  obtain ⟨vs, hd⟩ := hf
  obtain ⟨mA, hns, hr⟩ := (show ObjOk X.prog X.w H1 s1.heap dd (.xd [(fld, v)]) from I1.hok dd _ ea)
  obtain ⟨od, ho, hl⟩ := lookIn_ns hns
  have l : List.lookup fld [(fld, v)] = some v := by simp [List.lookup]
  have hrf := hr fld
  rw [l] at hrf
  obtain ⟨u, hu, ru⟩ := RelO.some_of (v := v) (o := mA fld) hrf
  have J : PySem.W.InstAt s1.heap a oe C (some od) := ⟨here, hz.1, by unfold PySem.W.notCls; rw [hd] <;> rfl, by rw [hz.2]; exact ho⟩
  exact HandSPX.exc_get I1.kIn J T.ga T.gg T.exC (PySem.W.findObj_own T.hdC T.noN rfl (by rw [hl, hu])) (handed_of ru) ⟨v, H1, I1.tok _, ru, q⟩
end
end Gx
namespace Gx
open PySem PySem.Spec PySem.Calls PyProof.Rows L2
/-! ### calls of defs that may raise, also with keywords, where no repr is under way -/
section
variable {P : Program} {w : World} {K : PySem.W.Frag} {mg : Str → Option Value} {base : Heap}
theorem FnG.toX {k : Nat} {f : Addr} {fd : FuncData} {ps : List Str} {sp : Sp} (F : FnG P w K mg base CX0 k f fd ps sp) : FnG P w K mg base (L2.CX P w) k f fd ps sp := by
  refine ⟨F.len, fun A outer s H args us vs Q E g hr he hb hv hs => codeAny_mono (F.run A outer s H args us vs Q E g hr he hb hv hs) ?_⟩
  intro r s' h
  match r, h with
  | .error e, h => exact h.elim
  | .ok (.ret u), h => exact h
/-- the name x is a def that keeps sp, and may raise -/
def CalX (P : Program) (w : World) (K : PySem.W.Frag) (mg : Str → Option Value) (base : Heap) (k : Nat) (x : Str) (ps : List Str) (sp : Sp) : Prop :=
  ∃ (f : Addr) (fd : FuncData), FnG P w K mg base (L2.CX P w) k f fd ps sp ∧ PySem.W.keepIn K (.ref f) = true ∧ Binds K fd ps [] ∧ mg x = some (.ref f)
theorem CalX.up {j k : Nat} {x : Str} {ps : List Str} {sp : Sp} (c : CalX P w K mg base j x ps sp) (h : j ≤ k) : CalX P w K mg base k x ps sp := by
  obtain ⟨f, fd, F, r⟩ := c
  exact ⟨f, fd, F.up h, r⟩
theorem CalG.toX {k : Nat} {x : Str} {ps : List Str} {sp : Sp} (c : CalG P w K mg base k x ps sp) : CalX P w K mg base k x ps sp := by
  obtain ⟨f, fd, F, r⟩ := c
  exact ⟨f, fd, F.toX, r⟩
theorem Def.calX {x qual : Str} {st : Stmt} {ps : List Str} (d : Def K mg x qual st ps) {k : Nat} {sp : Sp} (h : ∀ f fd, Fun K x qual st f fd → FnG P w K mg base (L2.CX P w) k f fd ps sp) : CalX P w K mg base k x ps sp := by
  obtain ⟨f, fd, F, b, g⟩ := d
  exact ⟨f, fd, h f fd F, F.kp, b, g⟩
/-- .. called with n values by position and keywords ks; gV puts them in the parameters' order -/
def CalK (P : Program) (w : World) (K : PySem.W.Frag) (mg : Str → Option Value) (base : Heap) (k : Nat) (x : Str) (ps : List Str) (n : Nat) (ks : List Str) (gV : List V → List V → List V) (sp : Sp) : Prop :=
  ∃ (f : Addr) (fd : FuncData) (g : List Value → List Value → List Value), FnG P w K mg base (L2.CX P w) k f fd ps sp ∧ PySem.W.keepIn K (.ref f) = true ∧ KBn K fd ps n ks g gV ∧ mg x = some (.ref f)
theorem CalK.up {j k n : Nat} {x : Str} {ps ks : List Str} {gV : List V → List V → List V} {sp : Sp} (c : CalK P w K mg base j x ps n ks gV sp) (h : j ≤ k) : CalK P w K mg base k x ps n ks gV sp := by
  obtain ⟨f, fd, g, F, r⟩ := c
  exact ⟨f, fd, g, F.up h, r⟩
/-- the top's def with keyword-only parameters and no defaults -/
def DefK (K : PySem.W.Frag) (mg : Str → Option Value) (x qual : Str) (st : Stmt) (ps : List Str) (n : Nat) (ks : List Str) : Prop :=
  ∃ (f : Addr) (fd : FuncData), Fun K x qual st f fd ∧ KBn K fd ps n ks (fun us ws => us ++ ws) (fun vs zs => vs ++ zs) ∧ mg x = some (.ref f)
theorem DefK.calK {x qual : Str} {st : Stmt} {ps ks : List Str} {n : Nat} (d : DefK K mg x qual st ps n ks) {k : Nat} {sp : Sp} (h : ∀ f fd, Fun K x qual st f fd → FnG P w K mg base (L2.CX P w) k f fd ps sp) : CalK P w K mg base k x ps n ks (fun vs zs => vs ++ zs) sp := by
  obtain ⟨f, fd, F, b, g⟩ := d
  exact ⟨f, fd, _, h f fd F, F.kp, b, g⟩
theorem kbn_of {fd : FuncData} {ps ks : List Str} {n : Nat} (h : ∀ us ws : List Value, us.length = n → ws.length = ks.length → bindArgs fd ⟨us, ks.zip ws⟩ = pure (ps.zip (us ++ ws))) : KBn K fd ps n ks (fun us ws => us ++ ws) (fun vs zs => vs ++ zs) :=
  ⟨fun s us ws _ h1 h2 => .of_eq (h us ws h1 h2), fun r1 r2 => r1.append r2⟩
end
section
variable {X : Cx}
/-- nothing is raised -/
theorem neverAt (σ : L2.St) : PassesAt (L2.CX X.prog X.w) X σ ((fun _ => E0) σ) := by
  rintro pins H s e s' I ⟨a, B, H', cls, d, _, _, _, _, _, _, _, no⟩
  exact no.elim
theorem runX {k : Nat} {f : Addr} {fd : FuncData} {ps : List Str} {sp : Sp} {E : L2.St → XK} {args : Args} {pins : List (Addr × Obj)} {σ : L2.St} {H : Hp} {s : Shared} {Q : VK} {us : List Value} {vs : List V}
    (F : FnG X.prog X.w X.K X.mg X.base (L2.CX X.prog X.w) k f fd ps sp) (g : Gd X.A) (room : Room k X.A) (hb : BindsTo s fd args (ps.zip us)) (hx : PassesAt (L2.CX X.prog X.w) X σ (E σ))
    (I : Inv X pins σ H s) (r : Vals vs us) (want : sp vs H Q (E σ)) : wpAny (model X.prog X.w) X.A (call (.ref f) args.pos args.kw) (EP X pins σ Q) X.xe s := by
  have hc := F.run X.A X.stack s H args us vs Q (E σ) g room I.env0 hb r want
  refine wpAny_call (codeAny_mono hc ?_)
  intro res s' hres
  match res, hres with
  | .error e, hres => exact hx pins H s e s' I hres
  | .ok (.ret u), hres => exact I.after hres
def tClX (sp : Sp) (E : L2.St → XK) (t : TA) : TE := fun σ H Q => t σ H fun vs H1 => sp vs H1 Q (E σ)
theorem pe_calX {x : Str} {ps : List Str} {sp : Sp} {k : Nat} {e : Expr} {es : List Expr} {t : TA} {E : L2.St → XK} {p pos : Pos} (c : CalX X.prog X.w X.K X.mg X.base k x ps sp) (g : Gd X.A) (room : Room k X.A) (hg : Gl X x) (hx : ∀ σ, PassesAt (L2.CX X.prog X.w) X σ (E σ)) (h : PA X (e :: es) t)
    (hdb : (x == ("__debug__" : Str)) = false := by decide) (hst : starEach (e :: es) X.env = (false, eval e X.env) :: starEach es X.env := by rfl) (hpl : (backTo pos (starEach es X.env)).any (·.1) = false := by rfl) :
    PE X (.Call (.Name x p) (e :: es) [] pos) (tClX sp E t) := by
  obtain ⟨f, fd, F, kp, b, hm⟩ := c
  refine ⟨fun pins s σ H Q I want => wpAny_Call_Name_kw (ld_glob I hg hm ?_ hdb)⟩
  refine PySem.W.callWith_K (h₀ := X.base) I.ok.mod.kin kp (thn (h.run pos pins s σ H _ I want) fun us s1 ⟨vs, H1, I1, r, q⟩ => ⟨I1.kIn, ?_⟩) hst hpl
  have hl : us.length = ps.length := r.length.symm.trans (F.len _ _ _ _ q)
  have b1 := b s1 us I1.kIn (by rw [List.append_nil]; exact hl)
  rw [List.append_nil] at b1
  exact runX (args := ⟨us, []⟩) F g room b1 (hx σ) I1 r q
def tClK (n m : Nat) (sp : Sp) (gV : List V → List V → List V) (E : L2.St → XK) (t tk : TA) : TE := fun σ H Q => t σ H fun vs H1 => tk σ H1 fun zs H2 => vs.length = n ∧ zs.length = m ∧ sp (gV vs zs) H2 Q (E σ)
theorem pe_calK {x : Str} {ps ks : List Str} {n : Nat} {gV : List V → List V → List V} {sp : Sp} {k : Nat} {e : Expr} {es : List Expr} {kws : List Keyword} {t tk : TA} {E : L2.St → XK} {p pos : Pos} (c : CalK X.prog X.w X.K X.mg X.base k x ps n ks gV sp) (g : Gd X.A) (room : Room k X.A) (hg : Gl X x)
    (hx : ∀ σ, PassesAt (L2.CX X.prog X.w) X σ (E σ)) (h : PA X (e :: es) t) (hk : PK X kws tk) (hall : (backToKw pos (keywordEach kws X.env)).all (·.1.isSome) = true := by rfl) (hks : (backToKw pos (keywordEach kws X.env)).filterMap (·.1) = ks := by rfl)
    (hdb : (x == ("__debug__" : Str)) = false := by decide) (hst : starEach (e :: es) X.env = (false, eval e X.env) :: starEach es X.env := by rfl)
    (hpl : ((backTo pos (starEach (e :: es) X.env)).any (·.1) || (backToKw pos (keywordEach kws X.env)).any (·.1.isNone)) = false := by rfl) :
    PE X (.Call (.Name x p) (e :: es) kws pos) (tClK n ks.length sp gV E t tk) := by
  obtain ⟨f, fd, gg, F, kp, b, hm⟩ := c
  refine ⟨fun pins s σ H Q I want => wpAny_Call_Name_kw (ld_glob I hg hm ?_ hdb)⟩
  refine PySem.W.callWith_KW (h₀ := X.base) I.ok.mod.kin kp hall (thn (h.run pos pins s σ H _ I want) ?_) hpl hst
  rintro us s1 ⟨vs, H1, I1, r, q⟩
  refine thn (hk.run pos pins s1 σ H1 _ I1 q) ?_
  rintro ws s2 ⟨zs, H2, I2, rz, l1, l2, q2⟩
  refine ⟨I2.kIn, ?_⟩
  rw [hks]
  exact runX (args := ⟨us, ks.zip ws⟩) F g room (b.to s2 us ws I2.kIn (r.length.symm.trans l1) (rz.length.symm.trans l2)) (hx σ) I2 (b.rel r rz) q2
end
end Gx

set_option maxRecDepth 100000
set_option maxHeartbeats 4000000
namespace Mx
open PySem PySem.Spec PyProof.Rows L2 Gx
/-! ### names: the mathematics -/
def isLow (c : Nat) : Bool := decide (97 ≤ c ∧ c ≤ 122)
/-- whether a text is a name -/
def nameB (z : Str) : Bool := (decide (1 ≤ z.cps.size) && decide (z.cps.size ≤ 8)) && z.cps.toList.all isLow
theorem low_facts : ∀ c, c < 128 → (isLow c = true → Unicode.isAlpha c = true ∧ Unicode.isLower c = true ∧ Unicode.isUpper c = false ∧ Unicode.isTitle c = false) ∧ (Unicode.isAlpha c = true → Unicode.isUpper c = false → isLow c = true) := by decide +kernel
theorem isLow_lt {c : Nat} (h : isLow c = true) : c < 128 := by
  have := of_decide_eq_true h
  omega
/-- what is_name reckons of a text -/
theorem name_by (z : Str) (h1 : 1 ≤ z.cps.size) : (Txt.isascii z && (Txt.isalpha z && Txt.islower z)) = z.cps.toList.all isLow := by
  have hl : z.length = z.cps.size := rfl
  unfold Txt.isascii Txt.isalpha Txt.islower
  rw [Bool.eq_iff_iff]
  simp only [Bool.and_eq_true, Array.all_eq_true', Array.any_eq_true', List.all_eq_true, decide_eq_true_eq, Bool.not_eq_true', Array.any_eq_false', Bool.or_eq_true, not_or, Bool.not_eq_true, Array.mem_toList_iff, hl]
  constructor
  · rintro ⟨ha, ⟨_, hb⟩, _, hd⟩ c hc
    exact (low_facts c (ha c hc)).2 (hb c hc) (hd c hc).1
  · intro h
    have f := fun c hc => (low_facts c (isLow_lt (h c hc))).1 (h c hc)
    refine ⟨fun c hc => isLow_lt (h c hc), ⟨h1, fun c hc => (f c hc).1⟩, ⟨z.cps[0], Array.getElem_mem (by omega), (f _ (Array.getElem_mem (by omega))).2.1⟩, fun c hc => ⟨(f c hc).2.2.1, (f c hc).2.2.2⟩⟩
/-! ### counts -/
def abcL : List Nat := [97,98,99,100,101,102,103,104,105,106,107,108,109,110,111,112,113,114,115,116,117,118,119,120,121,122]
theorem count_cnt (x : Str) (c : Nat) : Txt.count x ⟨#[c]⟩ = cnt c x.cps.toList := count_is x c
theorem one_sum (n : Nat) : ∀ L : List Nat, L.Nodup → (L.map fun c => if n = c then (1 : Int) else 0).sum = if n ∈ L then 1 else 0
  | [], _ => rfl
  | a :: L, h => by
    obtain ⟨h1, h2⟩ := List.nodup_cons.mp h
    rw [List.map_cons, List.sum_cons, one_sum n L h2]
    by_cases e : n = a
    · subst e
      rw [if_pos rfl, if_neg h1, if_pos (List.mem_cons_self ..)]
      rfl
    · rw [if_neg e]
      by_cases m : n ∈ L
      · rw [if_pos m, if_pos (List.mem_cons_of_mem _ m)]; rfl
      · rw [if_neg m, if_neg (by
          rw [List.mem_cons]
          rintro (z | z)
          · exact e z
          · exact m z)]; rfl
theorem cnt_sum (L : List Nat) (hL : L.Nodup) : ∀ l : List Nat, (L.map fun c => cnt c l).sum = (l.countP (fun n => decide (n ∈ L)) : Nat)
  | [] => by
    have : ∀ L : List Nat, (L.map fun c => cnt c []).sum = 0 := fun L => by
      induction L with
      | nil => rfl
      | cons a L ih => rw [List.map_cons, List.sum_cons, ih]; rfl
    rw [this]
    rfl
  | n :: r => by
    have h : ∀ L : List Nat, (L.map fun c => cnt c (n :: r)).sum = (L.map fun c => if n = c then (1 : Int) else 0).sum + (L.map fun c => cnt c r).sum := fun L => by
      induction L with
      | nil => rfl
      | cons a L ih => rw [List.map_cons, List.sum_cons, ih, cnt_cons, List.map_cons, List.sum_cons, List.map_cons, List.sum_cons]; omega
    rw [h, one_sum n L hL, cnt_sum L hL r, List.countP_cons]
    by_cases m : n ∈ L
    · rw [if_pos m, if_pos (decide_eq_true m)]; omega
    · rw [if_neg m, if_neg (by rw [decide_eq_false m]; decide)]; omega
theorem mem_abc (n : Nat) : n ∈ abcL ↔ isLow n = true := by
  unfold isLow
  rw [decide_eq_true_eq]
  constructor
  · intro h
    have : ∀ n ∈ abcL, 97 ≤ n ∧ n ≤ 122 := by decide
    exact this n h
  · intro h
    have : ∀ n, n < 123 → 97 ≤ n → n ∈ abcL := by decide
    exact this n (by omega) h.1
/-- all letters' counts together -/
def known (z : Str) (L : List Nat) : Int := (L.map fun c => Txt.count z ⟨#[c]⟩).sum
theorem known_eq (z : Str) : known z abcL = (z.cps.toList.countP isLow : Nat) := by
  unfold known
  have e : (abcL.map fun c => Txt.count z ⟨#[c]⟩) = abcL.map fun c => cnt c z.cps.toList := List.map_congr_left fun c _ => count_cnt z c
  rw [e, cnt_sum abcL (by decide)]
  congr 2
  funext n
  rw [Bool.eq_iff_iff, decide_eq_true_eq, mem_abc]
theorem due_eq (z : Str) : (decide (known z abcL = (z.cps.size : Int)) && (decide ((0 : Int) < known z abcL) && decide (known z abcL < 9))) = nameB z := by
  rw [known_eq]
  unfold nameB
  have hz : z.cps.size = z.cps.toList.length := by simp
  have hle := List.countP_le_length (p := isLow) (l := z.cps.toList)
  by_cases h : z.cps.toList.countP isLow = z.cps.toList.length
  · have ha : z.cps.toList.all isLow = true := by
      rw [List.all_eq_true]
      exact List.countP_eq_length.mp h
    rw [ha, h, hz]
    generalize z.cps.toList.length = n
    rw [Bool.and_true, decide_eq_true (show (n : Int) = (n : Int) from rfl), Bool.true_and]
    have e1 : decide ((0 : Int) < (n : Int)) = decide (1 ≤ n) := decide_eq_decide.mpr (by omega)
    have e2 : decide ((n : Int) < 9) = decide (n ≤ 8) := decide_eq_decide.mpr (by omega)
    rw [e1, e2]
  · have ha : z.cps.toList.all isLow = false := by
      rw [Bool.eq_false_iff]
      intro q
      rw [List.all_eq_true] at q
      exact h (List.countP_eq_length.mpr q)
    rw [ha, Bool.and_false, decide_eq_false (by omega), Bool.false_and]
theorem known_step (z : Str) {L : List Nat} {i c : Nat} (h : L[i]? = some c) : known z (L.take (i + 1)) = known z (L.take i) + Txt.count z ⟨#[c]⟩ := by
  unfold known
  have e : (L.map fun c => Txt.count z ⟨#[c]⟩)[i]? = some (Txt.count z ⟨#[c]⟩) := by rw [List.getElem?_map, h]; rfl
  rw [List.map_take, List.map_take, sum_take e]
end Mx

set_option maxRecDepth 100000
set_option maxHeartbeats 4000000
namespace Mx
open PySem PySem.Spec PyProof.Rows L2 Gx
/-! ### the order of texts -/
/-- a is not behind b -/
def leS (a b : Str) : Prop := ¬ b.cps.toList < a.cps.toList
theorem leS_iff (a b : Str) : leS a b ↔ ltCps b.cps.toList a.cps.toList = false := by
  rw [ltCps_eq, decide_eq_false_iff_not]
  exact Iff.rfl
theorem leS_anti {a b : Str} (h1 : leS a b) (h2 : leS b a) : a = b := by
  have e : a.cps.toList = b.cps.toList := List.le_antisymm (as := a.cps.toList) (bs := b.cps.toList) h1 h2
  cases a
  cases b
  simp only [Str.mk.injEq]
  exact Array.toList_inj.mp e
theorem leS_refl (a : Str) : leS a a := List.lt_irrefl _
theorem leS_trans {a b c : Str} (h1 : leS a b) (h2 : leS b c) : leS a c :=
  List.le_trans (l₁ := a.cps.toList) (l₂ := b.cps.toList) (l₃ := c.cps.toList) h1 h2
theorem leS_total (a b : Str) : leS a b ∨ leS b a := List.le_total a.cps.toList b.cps.toList
theorem risingS_iff : ∀ (l : List Str) (p : Str), risingS p l = true ↔ (p :: l).Pairwise leS
  | [], p => by simp [risingS]
  | x :: r, p => by
    rw [risingS, Bool.and_eq_true, risingS_iff r x, Bool.not_eq_true', ← leS_iff]
    constructor
    · rintro ⟨h1, h2⟩
      refine List.pairwise_cons.mpr ⟨fun y hy => ?_, h2⟩
      rcases List.mem_cons.mp hy with rfl | hy
      · exact h1
      · exact leS_trans h1 ((List.pairwise_cons.mp h2).1 y hy)
    · intro h
      obtain ⟨h1, h2⟩ := List.pairwise_cons.mp h
      exact ⟨h1 x (List.mem_cons_self ..), h2⟩
theorem sortedS_iff (l : List Str) : sortedS l = true ↔ l.Pairwise leS := by
  cases l with
  | nil => simp [sortedS]
  | cons x r => exact risingS_iff r x
theorem sortedS_unique {l m : List Str} (h : l.Perm m) (hl : sortedS l = true) (hm : sortedS m = true) : l = m :=
  List.Perm.eq_of_pairwise (fun _ _ _ _ => leS_anti) ((sortedS_iff l).mp hl) ((sortedS_iff m).mp hm) h
/-- a list of texts is what sorting makes of it just if it is sorted -/
theorem eq_sorted_iff {l m : List Str} (h : m.Perm l) (hm : sortedS m = true) : decide (l = m) = sortedS l := by
  cases e : sortedS l with
  | true => exact decide_eq_true (sortedS_unique h.symm e hm)
  | false => exact decide_eq_false fun q => by rw [q, hm] at e; cases e
/-! ### data of texts -/
def tD (xs : List Str) : List PyData := xs.map PyData.str
theorem eqv_texts : ∀ xs ys : List Str, PyData.eqvAll (tD xs) (tD ys) = decide (xs = ys)
  | [], [] => by simp [tD, PyData.eqvAll]
  | [], y :: ys => by simp [tD, PyData.eqvAll]
  | x :: xs, [] => by simp [tD, PyData.eqvAll]
  | x :: xs, y :: ys => by
    have ih := eqv_texts xs ys
    unfold tD at ih ⊢
    rw [List.map_cons, List.map_cons, PyData.eqvAll, ih, PyData.eqv]
    by_cases h : x = y
    · subst h
      by_cases h2 : xs = ys
      · subst h2
        simp
      · rw [decide_eq_false h2, Bool.and_false, decide_eq_false fun q => h2 (List.cons.inj q).2]
    · rw [decide_eq_false fun q => h (List.cons.inj q).1, beq_eq_false_iff_ne.mpr h, Bool.false_and]
theorem dp_texts {K : PySem.W.Frag} {H : Hp} : ∀ xs : List Str, DpAll K H (xs.map V.str) (tD xs)
  | [] => .nil
  | x :: xs => .cons (.str x) (dp_texts xs)
theorem canLay_texts : ∀ xs : List Str, (∀ x ∈ xs, PyData.strOk x = true) → PyData.canLayAll0 (tD xs) = true
  | [], _ => by simp [tD, PyData.canLayAll0]
  | x :: xs, h => by
    have ih := canLay_texts xs fun y hy => h y (List.mem_cons_of_mem _ hy)
    unfold tD at ih ⊢
    rw [List.map_cons, PyData.canLayAll0, ih, PyData.canLay0, h x (List.mem_cons_self ..)]
    rfl
theorem depth_texts : ∀ xs : List Str, PyData.depthAll (tD xs) ≤ 1
  | [] => by simp [tD, PyData.depthAll]
  | x :: xs => by
    have ih := depth_texts xs
    unfold tD at ih ⊢
    rw [List.map_cons, PyData.depthAll]
    simp only [PyData.depth]
    omega
theorem shaped_texts {xs : List Str} (h : ∀ x ∈ xs, PyData.strOk x = true) : SeqAt.shaped (.list (tD xs)) = true := by
  unfold SeqAt.shaped
  rw [Bool.and_eq_true]
  refine ⟨by simp only [PyData.canLay0]; exact canLay_texts xs h, decide_eq_true ?_⟩
  have := depth_texts xs
  simp only [PyData.depth]
  omega
theorem shaped_textsT {xs : List Str} (h : ∀ x ∈ xs, PyData.strOk x = true) : SeqAt.shaped (.tuple (tD xs)) = true := by
  unfold SeqAt.shaped
  rw [Bool.and_eq_true]
  refine ⟨by simp only [PyData.canLay0]; exact canLay_texts xs h, decide_eq_true ?_⟩
  have := depth_texts xs
  simp only [PyData.depth]
  omega
end Mx

set_option maxRecDepth 100000
set_option maxHeartbeats 4000000
namespace Gx
open PySem PySem.Spec PyProof.Rows L2 SeqAt
open AutoSeq1 (wpAny_loadPart')
/-! ### a dict is no tuple -/
theorem tup_eq_dict (l b : Addr) (items : Array Value) (n : Nat) (dd dd2 : Option Addr) (sl sl2 : Array (Option Value)) (d2 : Data) :
    Meets (Builtin.«tuple.__eq__» ⟨[.ref l, .ref b], []⟩) (fun _ R s => s.heap.get? l = some { cls := .type "tuple", dict := dd, data := .seq items n, slots := sl } ∧ s.heap.get? b = some { cls := .type "dict", dict := dd2, data := d2, slots := sl2 } ∧ R (.ok (.ret .notImplemented)) s) :=
  .of_wp fun prog w A R s h => by obtain ⟨hp, g, d, tk, os⟩ := s; obtain ⟨hl, hb, h⟩ := h; have f1 := F.sub_dict_tuple; wp_walk using wpAny_loadPart' hl, wpAny_loadPart' hb; exact ⟨_, rfl, h⟩
theorem dict_eq_tup {prog : Program} {w : World} {A : Around} {E : Value → Shared → Prop} {s : Shared} {Q : Value → Shared → Prop} {a b : Addr} (da : s.TypeIs (.ref a) "dict") (hb : s.TypeIs (.ref b) "tuple") (h : Q .notImplemented s) :
    wpAny (model prog w) A (call (.builtin "dict.__eq__") [.ref a, .ref b]) Q E s := by
  refine wpAny_call_entry PySem.F.slot_dict_eq da PySem.F.entry_dict_eq ?_ (PySem.F.args_dict_eq_2 _ _)
  show wpAny _ _ (Builtin.Dict.dictSlotArgs "__eq__" ⟨[.ref a, .ref b], []⟩ >>= _) _ _ s
  refine wpAny_bind ?_
  unfold Builtin.Dict.dictSlotArgs
  refine wpAny_bind (wpAny_notOrdered_dict da ?_)
  show wpAny _ _ (pure (Value.ref a, Value.ref b)) _ _ s
  refine wpAny_pure ?_
  refine wpAny_bind (wpAny_isInstance (T := "tuple") hb PySem.F.sub_tuple_dict ?_)
  simp only [Bool.not_false, if_true]
  exact wpAny_bind (wpAny_rule (wpAny_bind (wpAny_pure (wpAny_pure ⟨_, rfl, h⟩))))
section
variable {A : Around} {s : Shared}
theorem eqAt_tup_dict {l b : Addr} {items : Array Value} {ob : Obj} (hl : s.heap.IsTuple l items) (hb : s.heap.get? b = some ob) (hcb : ob.cls = .type "dict") (hu : A.units < cLine) : EqAt A s (.ref l) (.ref b) false := by
  obtain ⟨⟨cls, dd, data, sl⟩, ho, hc, n, hd⟩ := id hl
  simp only at hc hd
  subst hc hd
  obtain ⟨cls2, dd2, data2, sl2⟩ := ob
  simp only at hcb
  subst hcb
  have hne : l ≠ b := fun e => by
    subst e
    rw [ho] at hb
    exact absurd (congrArg Obj.cls (Option.some.inj hb)) (by simp)
  refine .of_refs hne fun prog w E Q h => ?_
  exact rc_eq_decline_or (k := false) ⟨_, ho, rfl⟩ ⟨_, hb, rfl⟩ (by decide) F.sub_dict_tuple F.slot_tuple_eq F.slot_dict_eq_refl
    (fun _ hq => call_meets F.slot_tuple_eq ⟨_, ho, rfl⟩ F.entry_tuple_eq (F.args_tuple_eq_2 _ _) (tup_eq_dict l b items n dd dd2 sl sl2 data2) ⟨ho, hb, hq⟩)
    (fun _ hq => dict_eq_tup ⟨_, hb, rfl⟩ ⟨_, ho, rfl⟩ hq)
    (fun _ hq => wpAny_isSame_ref_other' hne ho hb (by simp) hq) (.inr hu) h
end
section
variable {X : Cx}
/-- x in a list, data that are not deep -/
def rInF (K : PySem.W.Frag) : R2 := fun x y H Q => ∃ d ds, Dp K H x d ∧ Dp K H y (.list ds) ∧ d.canLay0 = true ∧ PyData.canLayAll0 ds = true ∧ d.depth ≤ 10 ∧ Q (.bl (ds.any fun z => PyData.eqv z d)) H
theorem op_inF (hu : X.A.units + 64 < cLine) : OpR X (compareOp .In) (rInF X.K) := by
  intro pins s σ H x y v u Q I rx ry h
  obtain ⟨d, ds, hd, he, sd, se, dp, q⟩ := h
  obtain ⟨as, r1⟩ := Dp.reads I d x v hd rx
  obtain ⟨bs, r2⟩ := Dp.reads I (.list ds) y u he ry
  exact SeqAt.in_list_reads r2 r1 se sd (by omega) ⟨.bl _, H, I, rfl, q⟩
/-- a dict in a list of tuples: it is not in it -/
def rInDict (K : PySem.W.Frag) : R2 := fun x y H Q => ∃ (a l : Addr) (kvs : List (Key × V)) (ps : List Addr), x = .ref a ∧ H a = some (.dK kvs) ∧ y = .ref l ∧ SqL K H l (ps.map V.ref) ∧ (∀ p ∈ ps, ∃ xs, SqT K H p xs) ∧ Q (.bl false) H
theorem op_inDict (hu : X.A.units + 64 < cLine) : OpR X (compareOp .In) (rInDict X.K) := by
  intro pins s σ H x y v u Q I rx ry h
  obtain ⟨a, l, kvs, ps, rfl, ea, rfl, hl, hp, q⟩ := h
  cases rx
  cases ry
  obtain ⟨its, rv, pl, hz⟩ := I.list hl
  have ei := refs_at rv
  subst ei
  obtain ⟨_, _, vs, _, hd⟩ := dk_of I.hok ea
  obtain ⟨ob, hb, hD⟩ := Heap.dictOf_iff.mp hd
  have hcb : ob.cls = .type "dict" := by
    obtain ⟨es, ep, ex, _⟩ := hD
    exact ex.1
  refine SeqAt.in_listAt (fun _ => false) pl.isList (fun y hy => ?_) ⟨.bl false, H, I, ?_, q⟩
  · rw [List.mem_toArray] at hy
    obtain ⟨p, hpm, rfl⟩ := List.mem_map.mp hy
    obtain ⟨xs, hx⟩ := hp p hpm
    obtain ⟨its2, _, ht, _⟩ := I.tuple hx
    exact eqAt_tup_dict ht hb hcb (by show X.A.units + 1 < cLine; omega)
  · show Value.bool _ = Value.bool false
    rw [Array.any_eq_false' |>.mpr (fun _ _ => by simp)]
end
end Gx

set_option maxRecDepth 100000
set_option maxHeartbeats 4000000
/-! own errors over a built-in error that takes another's maker (KeyError takes LookupError's) -/
namespace Gx
open PySem PySem.Spec PySem.Calls Builtin
/-- what making asks of the chain -/
structure Chn (B : String) (bm : List Value) : Prop where
  own : bm.contains (.type B) = true
  att : bm.contains (.type "AttributeError") = false
  nam : bm.contains (.type "NameError") = false
section
variable {M : Model} {prog : Program} {w : World} {A : Around} {E : Value → Shared → Prop} {R : Result → Shared → Prop} {hp : Heap} {gn : Array GenState} {dr : Drawn} {tk : Nat} {os : OsState}
variable {nm q : Str} {C N : Addr} {bs bm bmB : List Value} {hdct : Bool} {sn : List Str} {sub : List Value} {ab : Bool} {col : Option Bool} {dd : Option Addr} {k0 k1 k2 k3 k5 : Option Value} {B mk ini : String}
theorem kx_check (F : ExcBaseFacts B mk ini bmB) (ch : Chn B bm) {us : List Value} {Q : Unit → Shared → Prop} (cc : hp.get? C = some (excClassObj nm q C N bs bm hdct sn sub ab col dd k0 k1 k2 k3 k5 mk)) (hq : Q () ⟨hp, gn, dr, tk, os⟩) :
    wpAny M A (checkBuiltinCall mk ⟨.ref C :: us, []⟩) Q E ⟨hp, gn, dr, tk, os⟩ := by
  have c1 : (Value.ref C :: bm).contains (.type B) = true := by rw [List.contains_cons, ch.own, Bool.or_true]
  have st := F.noStar
  simp only [F.newRow, F.newSplit, F.newKind, checkBuiltinCall]
  repeat (first | refine wpAny_loadPart_at cc ?_ | (refine wpAny_isSubtype_exc cc ?_; rw [c1]) | refine wpAny_staticBase_exc cc ?_ | refine wpAny_madeBy_exc cc ?_ | simp only [bne_self_eq_false, Bool.false_eq_true, if_false] | wp_step)
  exact hq
theorem kx_new (F : ExcBaseFacts B mk ini bmB) (ch : Chn B bm) {us : List Value} (cc : hp.get? C = some (excClassObj nm q C N bs bm hdct sn sub ab col dd k0 k1 k2 k3 k5 mk))
    (hq : R (.ok (.ret (.ref (hp.objs.size + 1)))) ⟨(hp.push (W.kdv_tup us)).push (W.excObj C hp.objs.size none .none), gn, dr, tk, os⟩) (hz : us.length ≤ sizeLine) :
    codeAny (model prog w) A (.builtin mk ⟨.ref C :: us, []⟩) R ⟨hp, gn, dr, tk, os⟩ := by
  have fe := F.ends
  have c1 : (Value.ref C :: bm).contains (.type B) = true := by rw [List.contains_cons, ch.own, Bool.or_true]
  have c2 : (Value.ref C :: bm).contains (.type "AttributeError") = false := by rw [List.contains_cons, ch.att]; rfl
  have c3 : (Value.ref C :: bm).contains (.type "NameError") = false := by rw [List.contains_cons, ch.nam]; rfl
  refine codeAny_builtinAt F.entry ?_
  unfold Builtin.«BaseException.__new__»
  refine wpAt_bind ?_
  show wpAt _ _ _ (stack >>= _) _ _ _
  refine wpAt_bind (wpAt_stack fun p0 low => wpAt_of_wpAny ?_)
  wp_walk
  refine wpAt_of_wpAny ?_
  rw [F.owner]
  repeat (first | with_reducible refine wpAny_madeHere_exc F.canon cc ?_ | with_reducible refine wpAny_loadPart_at cc ?_ | (with_reducible refine wpAny_isSubtype_exc cc ?_; first | rw [c1] | rw [c2] | rw [c3]) | wp_step)
  show R _ _
  rw [Heap.size_push]
  exact hq
theorem kx_type (F : ExcBaseFacts B mk ini bmB) (ch : Chn B bm) {us : List Value} {fI : Addr} {Q : Fin → Shared → Prop} (cc : hp.get? C = some (excClassObj nm q C N bs bm hdct sn sub ab col dd k0 k1 k2 k3 k5 mk))
    (li : W.Looks (model prog w) hp (typeLookup (.ref C) "__init__") (some (.ref fI))) (lb : ∀ o, W.Looks (model prog w) hp (bindSpecial (.ref fI) o) (.ref fI, [o])) (hz : us.length ≤ sizeLine)
    (hq : codeAny (model prog w) A (.call (.ref fI) ⟨.ref (hp.objs.size + 1) :: us, []⟩)
      (fun r s' => match r with | .ok (.ret v) => v = .none ∧ Q (.done (.ret (.ref (hp.objs.size + 1)))) s' | .ok _ => False | .error e => E e s')
      ⟨(hp.push (W.kdv_tup us)).push (W.excObj C hp.objs.size none .none), gn, dr, tk, os⟩) : wpAny (model prog w) A (Builtin.«type.__call__» ⟨.ref C :: us, []⟩) Q E ⟨hp, gn, dr, tk, os⟩ := by
  repeat (first | with_reducible refine wpAny_loadPart_at cc ?_ | with_reducible refine wpAny_madeBy_exc cc ?_ | wp_step)
  refine codeAny_call_builtin_code (Code.quiet_builtin _ F.quiet) (kx_check F ch cc ?_)
  refine kx_new F ch cc ?_ hz
  show wpAny _ _ _ _ _ _
  have old : ∀ b o, hp.get? b = some o → ((hp.push (W.kdv_tup us)).push (W.excObj C hp.objs.size none .none)).get? b = some o := fun b o e => Heap.get?_push_of_some _ (Heap.get?_push_of_some _ e)
  have cc1 := old _ _ cc
  have ne : ((hp.push (W.kdv_tup us)).push (W.excObj C hp.objs.size none .none)).get? (hp.objs.size + 1) = some (W.excObj C hp.objs.size none .none) := by heap_get
  have cs : (Value.ref C :: bm).contains (.ref C) = true := by simp
  have li1 := li.keeps old
  have lb1 := (lb (.ref (hp.objs.size + 1))).keeps old
  unfold isInstance
  repeat (first | with_reducible refine wpAny_loadPart_at ne ?_ | (with_reducible refine wpAny_isSubtype_exc cc1 ?_; rw [cs]) | wp_step)
  show wpAny _ _ (typeLookup (.ref C) _) _ _ _
  refine li1.at ?_
  refine wpAny_holding (wpAny_bind (lb1.at ?_))
  refine wpAny_bind (wpAny_call (codeAny_mono hq fun r s1 z => ?_))
  rcases r with e | (v | _ | _ | _) <;> first | exact z | exact z.elim | skip
  obtain ⟨rfl, z⟩ := z
  first | exact wpAny_pure (wpAny_pure z) | (wp_walk; exact z)
theorem kx_call (F : ExcBaseFacts B mk ini bmB) (ch : Chn B bm) {us : List Value} {fI : Addr} (cc : hp.get? C = some (excClassObj nm q C N bs bm hdct sn sub ab col dd k0 k1 k2 k3 k5 mk))
    (li : W.Looks (model prog w) hp (typeLookup (.ref C) "__init__") (some (.ref fI))) (lb : ∀ o, W.Looks (model prog w) hp (bindSpecial (.ref fI) o) (.ref fI, [o])) (hz : us.length ≤ sizeLine)
    (hq : codeAny (model prog w) (A.under (.builtin "type.__call__" ⟨.ref C :: us, []⟩)) (.call (.ref fI) ⟨.ref (hp.objs.size + 1) :: us, []⟩) (W.InitBack (hp.objs.size + 1) R)
      ⟨(hp.push (W.kdv_tup us)).push (W.excObj C hp.objs.size none .none), gn, dr, tk, os⟩) : codeAny (model prog w) A (.call (.ref C) ⟨us, []⟩) R ⟨hp, gn, dr, tk, os⟩ := by
  have t1 := tc_lookup
  have t2 := tc_bind (.ref C)
  have t3 : (⟨hp, gn, dr, tk, os⟩ : Shared).TypeIs (.ref C) "type" := ⟨_, cc, rfl⟩
  refine codeAny_of_tree ?_
  show wpAny _ _ (callAny (.ref C) _) _ _ _
  repeat (any_goals (first | assumption | with_reducible refine wpAny_loadPart_at cc ?_ | wp_step))
  refine ⟨rfl, ?_⟩
  refine codeAny_call_builtin_at (Code.quiet_builtin _ (by decide +kernel)) entry_typeCall (wpAny_check_type_call_sub cc (kx_type F ch cc li lb hz ?_))
  refine codeAny_mono hq fun r s1 z => ?_
  rcases r with e | (v | _ | _ | _) <;> exact z
end
end Gx
namespace Gx
open PySem PySem.Spec PySem.W PySem.Calls PyProof.Rows L2
/-! ### own errors with one field, made, over any base -/
/-- a base: the maker's facts, and what each chain over it holds -/
structure XBase (B mk ini : String) (bmF bmB : List Value) : Prop where
  F : ExcBaseFacts B mk ini bmF
  ch : ∀ bm : List Value, excTail bmB bm = true → Chn B bm
theorem xbase_of {B mk ini : String} {bmB : List Value} (F : ExcBaseFacts B mk ini bmB) : XBase B mk ini bmB bmB :=
  ⟨F, fun bm t => ⟨by rw [excTail_contains _ bm t]; exact F.hasB, by rw [excTail_contains _ bm t]; exact F.noAttr, by rw [excTail_contains _ bm t]; exact F.noName⟩⟩
abbrev bmKey : List Value := [.type "KeyError", .type "LookupError", .type "Exception", .type "BaseException", .type "object"]
theorem xbase_KeyError : XBase "LookupError" "LookupError.__new__" "LookupError.__init__" [.type "LookupError", .type "Exception", .type "BaseException", .type "object"] bmKey :=
  ⟨PySem.F.excBase_LookupError, fun bm t => ⟨by rw [excTail_contains _ bm t]; decide +kernel, by rw [excTail_contains _ bm t]; decide +kernel, by rw [excTail_contains _ bm t]; decide +kernel⟩⟩
section
variable {prog : Program} {w : World} {A : Around} {R : Result → Shared → Prop} {s : Shared} {K : Frag} {mg : Str → Option Value} {C fI : Addr} {cn fld : Str} {B mk ini : String} {bmF bmB : List Value}
theorem x_madeC (FB : XBase B mk ini bmF bmB) (T : XTxt K mg cn fld mk bmB C fI) (D : InitDoes K C fI fld) {v : Value} (inK : K.In s.heap) (lim : s.heap.NoLimit) (room : A.depth + 1 < recursionLimit)
    (hq : ∀ h' tk e d, XMade s.heap h' e C d fld v → R (.ok (.ret (.ref e))) { s with heap := h', toks := tk }) : codeAny (model prog w) A (.call (.ref C) ⟨[v], []⟩) R s := by
  obtain ⟨nm, q, N, bs, bm, sn, sub, ab, col, dd, k0, k1, k2, k3, k5, hC, tail⟩ := T.cls
  obtain ⟨hp, g, dr, tk, os⟩ := s
  have stay : ∀ b o, hp.get? b = some o → ((hp.push (kdv_tup [v])).push (excObj C hp.objs.size none .none)).get? b = some o := fun b o e => Heap.get?_push_of_some _ (Heap.get?_push_of_some _ e)
  have there : ((hp.push (kdv_tup [v])).push (excObj C hp.objs.size none .none)).get? (hp.objs.size + 1) = some (excObj C hp.objs.size none .none) := by heap_get
  have fresh : K.lookup (hp.objs.size + 1) = none := by
    cases e : K.lookup (hp.objs.size + 1) with
    | none => rfl
    | some o => exact absurd (Nat.lt_of_succ_lt (Heap.lt_size (inK _ _ e))) (Nat.lt_irrefl _)
  refine kx_call FB.F (FB.ch bm tail) (inK _ _ hC) (looks_findIn inK T.iC) (fun self => bind_fn inK self T.tC) (one_line v) ?_
  refine D prog w _ _ ⟨(hp.push (kdv_tup [v])).push (excObj C hp.objs.size none .none), g, dr, tk, os⟩ _ _ v (inK.keeps stay) (lim.keeps stay) there fresh room fun h' tk' dx M => ?_
  have old : ∀ b o, hp.get? b = some o → h'.get? b = some o := fun b o e => M.keep b o (Nat.ne_of_lt (Nat.lt_succ_of_lt (Heap.lt_size e))) (stay b o e)
  have z : hp.objs.size + 1 + 1 ≤ dx := by
    have q := M.big
    first
      | exact q
      | simpa only [Heap.size_push] using q
  exact ⟨rfl, hq h' tk' (hp.objs.size + 1) dx ⟨old, Nat.le_succ _, ⟨_, _, M.obj, rfl, rfl, rfl, rfl⟩, Nat.le_trans (Nat.le_trans (Nat.le_succ _) (Nat.le_succ _)) z, M.ne, M.ns⟩⟩
end
/-! ### errors as values -/
/-- the error at e, of the class C, its dict at d -/
def ExV (C e : Addr) (d : Option Addr) : HO := .ext fun h => ∃ (oe : Obj) (vs : Array Value), h.get? e = some oe ∧ oe.cls = .ref C ∧ oe.dict = d ∧ oe.data = .fields vs
theorem exV_ok {P : Program} {w : World} {H : Hp} {h : Heap} {C e : Addr} {d : Option Addr} {oe : Obj} {vs : Array Value} (he : h.get? e = some oe) (hc : oe.cls = .ref C) (hd : oe.dict = d) (hf : oe.data = .fields vs) : ObjOk P w H h e (ExV C e d) :=
  ⟨⟨oe, vs, he, hc, hd, hf⟩, ⟨oe, he⟩, fun h1 h2 ⟨o, us, a, b, c, f⟩ k => ⟨o, us, k _ a, b, c, f⟩⟩
theorem exV_at {P : Program} {w : World} {H : Hp} {h : Heap} {C e : Addr} {d : Option Addr} (ok : HOk P w H h) (he : H e = some (ExV C e d)) : ∃ (oe : Obj) (vs : Array Value), h.get? e = some oe ∧ oe.cls = .ref C ∧ oe.dict = d ∧ oe.data = .fields vs :=
  (show ObjOk P w H h e (ExV C e d) from ok e _ he).1
section
variable {X : Cx} {C fI : Addr} {cn fld : Str} {B mk ini : String} {bmF bmB : List Value}
/-- cn(e), the error kept -/
def tMkV (C : Addr) (fld : Str) (ta : TA) : TE := fun σ H Q => ta σ H fun vs H1 => ∃ v, vs = [v] ∧ ∀ d e, H1 d = none → H1 e = none → e ≠ d → Q (.ref e) (upd (upd H1 d (.xd [(fld, v)])) e (ExV C e (some d)))
theorem pe_mkV {a : Expr} {ta : TA} {p pos : Pos} {k : Nat} (FB : XBase B mk ini bmF bmB) (T : XTxt X.K X.mg cn fld mk bmB C fI) (D : InitDoes X.K C fI fld) (room : Room k X.A) (ha : PA X [a] ta) (hg : Gl X cn)
    (hdb : (cn == ("__debug__" : Str)) = false := by decide) (hst : starEach (a :: []) X.env = (false, eval a X.env) :: starEach [] X.env := by rfl) (hpl : (backTo pos (starEach [] X.env)).any (·.1) = false := by rfl) :
    PE X (.Call (.Name cn p) [a] [] pos) (tMkV C fld ta) := by
  refine ⟨fun pins s σ H Q I h => ?_⟩
  refine wpAny_Call_Name_kw (ld_glob I hg T.gC ?_ hdb)
  refine PySem.W.callWith_K (h₀ := X.base) I.ok.mod.kin T.kC (thn (ha.run pos pins s σ H _ I h) ?_) hst hpl
  rintro us s1 ⟨vs, H1, I1, r1, v, rfl, q1⟩
  refine ⟨I1.kIn, ?_⟩
  obtain ⟨u, rfl, rv⟩ := vals1 r1
  show wpAny _ _ (call (.ref C) [u]) _ _ _
  have lim := I1.nolimit
  obtain ⟨hp, g, dr, tk, os⟩ := s1
  refine wpAny_call (x_madeC FB T D I1.kIn lim (by have := room.dp; omega) fun h' tk' e d M => ?_)
  obtain ⟨oe, fv, hoe, hc, hd, hdat, h1⟩ := M.obj
  obtain ⟨G', g1, g2⟩ := restrict h' fun b => decide (b ≠ e)
  have off : ∀ b, b ≠ e → G'.get? b = h'.get? b := fun b hb => g1 b (decide_eq_true hb)
  have gone : G'.get? e = none := g2 e (by simp)
  have old : ∀ b o, hp.get? b = some o → G'.get? b = some o := fun b o q => (off b (Nat.ne_of_lt (Nat.lt_of_lt_of_le (Heap.lt_size q) M.new))).trans (M.keep b o q)
  have ob : ObjOk X.prog X.w (upd H1 d (.xd [(fld, v)])) G' d (.xd [(fld, v)]) := ⟨_, M.ns.at (fun o q => (off d M.ne).trans q), fun f => relO_one rv f⟩
  have J : Inv X pins σ (upd H1 d (.xd [(fld, v)])) ⟨G', g, dr, tk', os⟩ := I1.laid (t' := tk') old M.big ob
  have ne0 : H1 e = none := I1.hok.fresh M.new
  have J2 := J.laidN (h' := h') (t' := tk') (o := ExV C e (some d)) (fun b o q => by
    by_cases hb : b = e
    · have q' : G'.get? b = some o := q
      rw [hb, gone] at q'
      cases q'
    · exact (off b hb).symm.trans q) gone (by rw [upd_ne (Ne.symm M.ne)]; exact ne0) (exV_ok hoe hc hd hdat)
  exact ⟨.ref e, _, J2, rfl, q1 d e (I1.hok.fresh M.big) ne0 (Ne.symm M.ne)⟩
end
end Gx

set_option maxRecDepth 100000
set_option maxHeartbeats 4000000
namespace Gx
open PySem PySem.Spec PySem.W PySem.Calls PyProof.Rows L2
/-! ### own errors without an __init__ of their own, as values -/
/-- what the written part says of such a class -/
structure XPln (K : Frag) (mg : Str → Option Value) (cn : Str) (mk ini : String) (bmB : List Value) (C : Addr) : Prop where
  gC : mg cn = some (.ref C)
  cls : ∃ nm q N bs bm hd sn sub ab col dd k0 k1 k2 k3 k5, K.lookup C = some (excClassObj nm q C N bs bm hd sn sub ab col dd k0 k1 k2 k3 k5 mk) ∧ excTail bmB bm = true
  iC : findIn K (.ref C) "__init__" = some (some (.builtin ini))
  kC : keepIn K (.ref C) = true
/-- .. of any own class of errors, for isinstance -/
structure XCls (K : Frag) (C : Addr) : Prop where
  isC : isClsIn K C = true
  ga : findIn K (.ref C) "__getattribute__" = some (some (.builtin "BaseException.__getattribute__"))
  gg : findIn K (.ref C) "__getattr__" = some none
  ex : subIn K (.ref C) (.type "BaseException") = some true
  cl : findIn K (.ref C) "__class__" = some (some (.builtin "object.__class__"))
  sp : specialIn K (.builtin "object.__class__") "__get__" = some (some (.builtin "getset_descriptor.__get__"))
  ta : takesIn K (.builtin "object.__class__") = some true
  ob : mroIn K C (.type "object") = some true
section
variable {X : Cx} {C : Addr} {cn : Str} {B mk ini : String} {bmB : List Value}
def tMkP (C : Addr) (ta : TA) : TE := fun σ H Q => ta σ H fun vs H1 => vs.length ≤ 1000 ∧ ∀ e, H1 e = none → Q (.ref e) (upd H1 e (ExV C e none))
theorem pe_mkP {a : Expr} {ta : TA} {p pos : Pos} (F : ExcBaseFacts B mk ini bmB) (T : XPln X.K X.mg cn mk ini bmB C) (ha : PA X [a] ta) (hg : Gl X cn)
    (hdb : (cn == ("__debug__" : Str)) = false := by decide) (hst : starEach (a :: []) X.env = (false, eval a X.env) :: starEach [] X.env := by rfl) (hpl : (backTo pos (starEach [] X.env)).any (·.1) = false := by rfl) :
    PE X (.Call (.Name cn p) [a] [] pos) (tMkP C ta) := by
  refine ⟨fun pins s σ H Q I h => ?_⟩
  refine wpAny_Call_Name_kw (ld_glob I hg T.gC ?_ hdb)
  refine PySem.W.callWith_K (h₀ := X.base) I.ok.mod.kin T.kC (thn (ha.run pos pins s σ H _ I h) ?_) hst hpl
  rintro us s1 ⟨vs, H1, I1, r1, hz, q1⟩
  refine ⟨I1.kIn, ?_⟩
  obtain ⟨nm, q, N, bs, bm, hd, sn, sub, ab, col, dd, k0, k1, k2, k3, k5, hC, tail⟩ := T.cls
  have hl : us.length ≤ sizeLine := by
    rw [← r1.length]
    exact Nat.le_trans hz (by decide)
  obtain ⟨hp, g, dr, tk, os⟩ := s1
  refine PySem.W.call_B F (fun Y => excTail_contains Y bm tail) (I1.kIn _ _ hC) (looks_findIn I1.kIn T.iC) hl fun h' k he ht => ?_
  have fr := I1.hok.fresh (Nat.le_succ hp.objs.size)
  exact ⟨.ref (hp.objs.size + 1), _, I1.laid (t' := tk) k (Nat.le_succ _) (exV_ok he rfl rfl rfl), rfl, q1 _ fr⟩
end
/-- the error at e stands, with its dict if it has one -/
def ExAt (H : Hp) (e C : Addr) (d : Option Addr) (fs : List (Str × V)) : Prop := H e = some (ExV C e d) ∧ ∀ dd, d = some dd → H dd = some (.xd fs)
section
variable {X : Cx} {pins : List (Addr × Obj)} {σ : L2.St} {H : Hp} {s : Shared}
theorem exAt_inst {e C : Addr} {d : Option Addr} {fs : List (Str × V)} (I : Inv X pins σ H s) (h : ExAt H e C d fs) : ∃ (oe : Obj) (od : Option Obj), PySem.W.InstAt s.heap e oe C od := by
  obtain ⟨h1, h2⟩ := h
  obtain ⟨oe, vs, he, hc, hd, hf⟩ := exV_at I.hok h1
  have nc : PySem.W.notCls oe = true := by unfold PySem.W.notCls; rw [hf] <;> rfl
  cases d with
  | none => exact ⟨oe, none, he, hc, nc, by rw [hd]; trivial⟩
  | some dd =>
    obtain ⟨mA, hns, _⟩ := (show ObjOk X.prog X.w H s.heap dd (.xd fs) from I.hok dd _ (h2 dd rfl))
    obtain ⟨od, ho, _⟩ := lookIn_ns hns
    exact ⟨oe, some od, he, hc, nc, by rw [hd]; exact ho⟩
end
/-- isinstance(e, c), e an own error -/
def rIsV (K : PySem.W.Frag) : List V → Hp → VK → Prop := fun xs H Q => ∃ (e C : Addr) (d : Option Addr) (fs : List (Str × V)) (c : V) (u : Value) (b : Bool), xs = [.ref e, c] ∧ ExAt H e C d fs ∧ XCls K C ∧ ClsV c u ∧ PySem.W.kitOne K (.ref C) u = some b ∧ Q (.bl b) H
section
variable {X : Cx}
theorem call_isV : CallR X (.builtin "isinstance") (rIsV X.K) := by
  intro pins s σ H xs us Q I r h
  obtain ⟨e, C, d, fs, c, u, b, rfl, hx, T, k, hb, q⟩ := h
  obtain ⟨u1, u2, rfl, r1, r2⟩ := vals2 r
  have e2 := k.eq r2
  subst e2
  cases (show u1 = Value.ref e from r1)
  obtain ⟨oe, od, J⟩ := exAt_inst I hx
  exact PySem.W.kia_one (PySem.W.kitx_exc (ox := oe) (od := od) T.isC T.ga T.gg T.ex T.cl T.sp T.ta T.ob) I.kIn J hb (fun z => nomatch z) fun tk => ⟨.bl b, H, I.tok tk, rfl, q⟩
/-- e.fld, e an own error with that field -/
def tGetV (C : Addr) (fld : Str) (te : TE) : TE := fun σ H Q => te σ H fun x H1 => ∃ (e dd : Addr) (v : V), x = .ref e ∧ ExAt H1 e C (some dd) [(fld, v)] ∧ Q v H1
theorem pe_getV {C fI : Addr} {cn fld : Str} {mk : String} {bmB : List Value} {e : Expr} {te : TE} {pos : Pos} (T : XTxt X.K X.mg cn fld mk bmB C fI) (he : PE X e te)
    (hb : attributeBase e fld X.env (eval e X.env) = eval e X.env := by rfl) : PE X (.Attribute e fld pos) (tGetV C fld te) := by
  constructor
  intro pins s σ H Q I h
  refine attr_of hb (thn (he.run pins s σ H _ I h) ?_)
  rintro u s1 ⟨x, H1, I1, rx, e1, dd, v, rfl, ⟨h1, h2⟩, q⟩
  obtain rfl : u = Value.ref e1 := rx
  obtain ⟨oe, vs, here, hc, hd, hf⟩ := exV_at I1.hok h1
  obtain ⟨mA, hns, hr⟩ := (show ObjOk X.prog X.w H1 s1.heap dd (.xd [(fld, v)]) from I1.hok dd _ (h2 dd rfl))
  obtain ⟨od, ho, hl⟩ := lookIn_ns hns
  have l : List.lookup fld [(fld, v)] = some v := by simp [List.lookup]
  have hrf := hr fld
  rw [l] at hrf
  obtain ⟨u, hu, ru⟩ := RelO.some_of (v := v) (o := mA fld) hrf
  have J : PySem.W.InstAt s1.heap e1 oe C (some od) := ⟨here, hc, by unfold PySem.W.notCls; rw [hf] <;> rfl, by rw [hd]; exact ho⟩
  exact HandSPX.exc_get I1.kIn J T.ga T.gg T.exC (PySem.W.findObj_own T.hdC T.noN rfl (by rw [hl, hu])) (handed_of ru) ⟨v, H1, I1.tok _, ru, q⟩
end
end Gx

set_option maxRecDepth 100000
set_option maxHeartbeats 4000000
namespace Gx
open PySem PySem.Spec PySem.W PySem.Calls PyProof.Rows L2
/-! ### stores over KeyError -/
theorem store_KeyErr : StoreFacts "KeyError" bmKey "object.__setattr__" "object" := by
  constructor
  case mro => kernel_rfl
  case slot => exact .of (owner := "object") (n := "__setattr__") (by rw [typeLookup_type, builtinLookup_eq_fast]; kernel_rfl) (by decide +kernel) (by decide +kernel) (by decide +kernel) (.inl (by decide +kernel)) (by rw [isSubtype_type]; kernel_rfl)
  case entry => exact PySem.F.store_LookupError.entry
  case kind => decide +kernel
  case split => decide +kernel
  case hasOwner => decide +kernel
  case args => exact fun a b c => PySem.F.store_LookupError.args a b c
  case passes => exact fun o => by kernel_rfl
/-! ### the table of all errors: who is derived from whom -/
def subC (i j : Nat) : Bool := i == j || (j == 0 && decide (i ≤ 11))
def BS : List String := ["ValueError", "KeyError", "IndexError", "LookupError", "RuntimeError", "OverflowError", "ArithmeticError"]
def subB (i : Nat) (b : String) : Bool :=
  if b = "ValueError" then decide (i ≤ 11) else if b = "KeyError" then i == 12 || i == 13 else if b = "IndexError" then i == 15
  else if b = "LookupError" then decide (12 ≤ i) && decide (i ≤ 15) else if b = "RuntimeError" then i == 16 else if b = "OverflowError" then i == 17 else decide (17 ≤ i)
def xclsB (K : Frag) (C : Addr) : Bool :=
  isClsIn K C && (decide (findIn K (.ref C) "__getattribute__" = some (some (.builtin "BaseException.__getattribute__"))) && (decide (findIn K (.ref C) "__getattr__" = some none) && (decide (subIn K (.ref C) (.type "BaseException") = some true) &&
    (decide (findIn K (.ref C) "__class__" = some (some (.builtin "object.__class__"))) && (decide (specialIn K (.builtin "object.__class__") "__get__" = some (some (.builtin "getset_descriptor.__get__"))) &&
    (decide (takesIn K (.builtin "object.__class__") = some true) && decide (mroIn K C (.type "object") = some true)))))))
theorem xclsB_ok {K : Frag} {C : Addr} (h : xclsB K C = true) : XCls K C := by
  unfold xclsB at h
  simp only [Bool.and_eq_true, decide_eq_true_eq] at h
  obtain ⟨a, b, c, d, e, f, g, i⟩ := h
  exact ⟨a, b, c, d, e, f, g, i⟩
def tabB (K : Frag) (cs : List Addr) : Bool := (List.range 20).all fun i => xclsB K (cs.getD i 0) && (((List.range 20).all fun j => decide (kitOne K (.ref (cs.getD i 0)) (.ref (cs.getD j 0)) = some (subC i j))) && (BS.all fun b => decide (kitOne K (.ref (cs.getD i 0)) (.type b) = some (subB i b))))
theorem getD_range (c : Nat → Addr) {i : Nat} (h : i < 20) : ((List.range 20).map c).getD i 0 = c i := by
  rw [List.getD_eq_getElem?_getD, List.getElem?_map, List.getElem?_range h]
  rfl
section
variable {K : Frag} {c : Nat → Addr} (t : tabB K ((List.range 20).map c) = true) {i : Nat} (hi : i < 20)
include t hi
theorem tab_at : xclsB K (c i) = true ∧ (∀ j, j < 20 → kitOne K (.ref (c i)) (.ref (c j)) = some (subC i j)) ∧ ∀ b ∈ BS, kitOne K (.ref (c i)) (.type b) = some (subB i b) := by
  unfold tabB at t
  have h := List.all_eq_true.mp t i (List.mem_range.mpr hi)
  simp only [Bool.and_eq_true, List.all_eq_true, decide_eq_true_eq, List.mem_range] at h
  rw [getD_range c hi] at h
  refine ⟨h.1, fun j hj => ?_, fun b hb => h.2.2 b hb⟩
  have := h.2.1 j hj
  rw [getD_range c hj] at this
  exact this
theorem tab_cls : XCls K (c i) := xclsB_ok (tab_at t hi).1
theorem tab_own {j : Nat} (hj : j < 20) : kitOne K (.ref (c i)) (.ref (c j)) = some (subC i j) := (tab_at t hi).2.1 j hj
theorem tab_blt {b : String} (hb : b ∈ BS) : kitOne K (.ref (c i)) (.type b) = some (subB i b) := (tab_at t hi).2.2 b hb
end
end Gx

set_option maxRecDepth 100000
set_option maxHeartbeats 4000000
namespace Gx
open PySem PySem.Spec PySem.W PySem.Calls PyProof.Rows L2
/-- an own class of errors is caught by its own name -/
theorem exm_own {K : PySem.W.Frag} {S : Addr} (b : PySem.W.subIn K (.ref S) (.type "BaseException") = some true) (i : PySem.W.isClsIn K S = true) (t : PySem.W.typeIn K (.ref S) = some (.type "type")) (s : PySem.W.subIn K (.ref S) (.ref S) = some true) : PySem.W.exmOne K (.ref S) (.ref S) = some true := by
  have i' : (PySem.W.clsIn K S).isSome = true := i
  unfold PySem.W.exmOne PySem.W.kitCls
  simp [b, i', t, s]
section
variable {X : Cx} {C : Addr} {cn : Str} {B mk ini : String} {bmB : List Value}
/-- raise cn(a), an own error without an __init__ of its own -/
def tMkR (C : Addr) (ta : TA) : L2.St → Hp → XK → Prop := fun σ H Q => ta σ H fun vs H1 => vs.length ≤ 1000 ∧ Q (.ref C) none H1
theorem pmk_P {a : Expr} {ta : TA} {p pos : Pos} (F : ExcBaseFacts B mk ini bmB) (T : XPln X.K X.mg cn mk ini bmB C) (XC : XCls X.K C) (ha : PA X [a] ta) (hg : Gl X cn)
    (hdb : (cn == ("__debug__" : Str)) = false := by decide) (hst : starEach (a :: []) X.env = (false, eval a X.env) :: starEach [] X.env := by rfl) (hpl : (backTo pos (starEach [] X.env)).any (·.1) = false := by rfl) :
    PMk X (.Call (.Name cn p) [a] [] pos) (tMkR C ta) := by
  intro pins s σ H Q I h
  refine wpAny_Call_Name_kw (ld_glob I hg T.gC ?_ hdb)
  refine PySem.W.callWith_K (h₀ := X.base) I.ok.mod.kin T.kC (thn (ha.run pos pins s σ H _ I h) ?_) hst hpl
  rintro us s1 ⟨vs, H1, I1, r1, hz, q1⟩
  refine ⟨I1.kIn, ?_⟩
  obtain ⟨nm, q, N, bs, bm, hd, sn, sub, ab, col, dd, k0, k1, k2, k3, k5, hC, tail⟩ := T.cls
  have hl : us.length ≤ sizeLine := by
    rw [← r1.length]
    exact Nat.le_trans hz (by decide)
  have tyC : typeIn X.K (.ref C) = some (.type "type") := by
    show (X.K.lookup C).map (·.cls) = _
    rw [hC]
    rfl
  obtain ⟨hp, g, dr, tk, os⟩ := s1
  refine PySem.W.call_B F (fun Y => excTail_contains Y bm tail) (I1.kIn _ _ hC) (looks_findIn I1.kIn T.iC) hl fun h' k he ht => ?_
  obtain ⟨G', g1, g2⟩ := restrict h' fun b => decide (b ≠ hp.objs.size + 1)
  have off : ∀ b, b ≠ hp.objs.size + 1 → G'.get? b = h'.get? b := fun b hb => g1 b (decide_eq_true hb)
  have gone : G'.get? (hp.objs.size + 1) = none := g2 _ (by simp)
  have old : ∀ b o, hp.get? b = some o → G'.get? b = some o := fun b o q => (off b (Nat.ne_of_lt (Nat.lt_succ_of_lt (Heap.lt_size q)))).trans (k b o q)
  have J : Inv X pins σ H1 ⟨G', g, dr, tk, os⟩ := I1.kept (t' := tk) old
  refine ⟨hp.objs.size + 1, _, _, ⟨G', g, dr, tk, os⟩, H1, .ref C, none, rfl, J, ?_, gone, he, ⟨rfl, rfl⟩, rfl, rfl, I1.hok.fresh (Nat.le_succ _), rfl, I1.bare, raises_own XC.ex tyC, q1⟩
  intro b o q
  have q' : G'.get? b = some o := q
  by_cases hb : b = hp.objs.size + 1
  · rw [hb, gone] at q'
    cases q'
  · exact (off b hb).symm.trans q
end
/-! ### methods that may raise -/
/-- the class at C has a method m that keeps sp, and may raise -/
def CalMX (P : Program) (w : World) (K : PySem.W.Frag) (mg : Str → Option Value) (base : Heap) (C : Addr) (m : Str) (k : Nat) (ps : List Str) (sp : Sp) : Prop :=
  ∃ (f : Addr) (fd : FuncData), FnG P w K mg base (L2.CX P w) k f fd ps sp ∧ Meth K C m f ∧ Binds K fd ps []
theorem DefM.calX {P : Program} {w : World} {K : PySem.W.Frag} {mg : Str → Option Value} {base : Heap} {C : Addr} {m qual : Str} {st : Stmt} {k : Nat} {ps : List Str} {sp : Sp} (d : DefM K C m qual st ps)
    (h : ∀ f fd, Fun K m qual st f fd → FnG P w K mg base (L2.CX P w) k f fd ps sp) : CalMX P w K mg base C m k ps sp := by
  obtain ⟨f, fd, F, me, b, fi⟩ := d
  exact ⟨f, fd, h f fd F, me, b⟩
theorem CalMX.up {P : Program} {w : World} {K : PySem.W.Frag} {mg : Str → Option Value} {base : Heap} {C : Addr} {m : Str} {j k : Nat} {ps : List Str} {sp : Sp} (c : CalMX P w K mg base C m j ps sp) (h : j ≤ k) : CalMX P w K mg base C m k ps sp := by
  obtain ⟨f, fd, F, r⟩ := c
  exact ⟨f, fd, F.up h, r⟩
section
variable {X : Cx} {C : Addr} {m : Str} {k : Nat} {ps : List Str} {sp : Sp} {ta : TE} {t : TA} {o e : Expr} {es : List Expr} {pos apos : Pos} {E : L2.St → XK}
/-- o.m(..), which may raise -/
def tMethX (C : Addr) (m : Str) (sp : Sp) (E : L2.St → XK) (ta : TE) (t : TA) : TE := fun σ H Q => ta σ H fun x H1 => ∃ a dx fs, x = .ref a ∧ H1 a = some (.ins C dx fs) ∧ fs.lookup m = none ∧ t σ H1 fun vs H2 => sp (x :: vs) H2 Q (E σ)
theorem pe_methX {pl : Sem Bool} (he : PE X o ta) (cl : Cls X.K C) (c : CalMX X.prog X.w X.K X.mg X.base C m k ps sp) (g : Gd X.A) (room : Room k X.A) (hx : ∀ σ, PassesAt (L2.CX X.prog X.w) X σ (E σ)) (ha : PA X (e :: es) t)
    (hst : starEach (e :: es) X.env = (false, eval e X.env) :: starEach es X.env := by rfl) (hpl : (backTo pos (starEach es X.env)).any (·.1) = false := by rfl)
    (ht : eval (.Call (.Attribute o m apos) (e :: es) [] pos) X.env = (do
      let ov ← eval o X.env
      standAt apos.atName
      let (f, first) ← holding [ov] (getMethod ov m pl)
      callWith pos f first (backTo pos (starEach (e :: es) X.env)) (backToKw pos (keywordEach [] X.env))) := by rfl) :
    PE X (.Call (.Attribute o m apos) (e :: es) [] pos) (tMethX C m sp E ta t) := by
  obtain ⟨f, fd, F, hm, b⟩ := c
  refine ⟨fun pins s σ H Q I h => ?_⟩
  refine PySem.W.methodCall_KW (pl := pl) (thn (he.run pins s σ H _ I h) fun u s1 ⟨x, H1, I1, rx, a, dx, fs, ex, ea, l, q⟩ => ?_) ht
  subst ex
  obtain rfl : u = Value.ref a := rx
  refine getmeth_ok I1 ea cl hm l ?_
  refine PySem.W.callWith_K (first := [.ref a]) (h₀ := X.base) I.ok.mod.kin hm.kp (thn (ha.run pos pins s1 σ H1 _ I1 q) fun us s2 ⟨vs, H2, I2, r, q2⟩ => ⟨I2.kIn, ?_⟩) hst hpl
  have hl : (Value.ref a :: us).length = ps.length := by
    rw [← F.len _ _ _ _ q2, List.length_cons, List.length_cons, r.length]
  have b1 := b s2 (.ref a :: us) I2.kIn (by rw [List.append_nil]; exact hl)
  rw [List.append_nil] at b1
  exact runX (us := .ref a :: us) (vs := .ref a :: vs) (args := ⟨.ref a :: us, []⟩) F g room b1 (hx σ) I2 (.cons rfl r) q2
end
end Gx

set_option maxRecDepth 100000
set_option maxHeartbeats 4000000
/-! ### own end: a law whose promise holds where no repr is under way, and whose defs make lambdas -/
namespace Gx
open PySem PySem.Spec PyProof.Rows L2
/-- the abstract heap at the law's call: the script and the empty tables of the defs that make lambdas -/
def H0T (a : Addr) (o : Obj) (ns : List Int) (own : Bool) (ts : List Addr) : Hp := fun b => if b ∈ ts then some (.tbl #[]) else H00 a o ns own b
theorem h0t_in {a b : Addr} {o : Obj} {ns : List Int} {own : Bool} {ts : List Addr} (h : b ∈ ts) : H0T a o ns own ts b = some (.tbl #[]) := by
  unfold H0T
  rw [if_pos h]
theorem h0t_out {a b : Addr} {o : Obj} {ns : List Int} {own : Bool} {ts : List Addr} (h : b ∉ ts) : H0T a o ns own ts b = H00 a o ns own b := by
  unfold H0T
  rw [if_neg h]
theorem h0t_some {a b : Addr} {o : Obj} {ns : List Int} {own : Bool} {ts : List Addr} {u : HO} (h : H0T a o ns own ts b = some u) : (b ∈ ts ∧ u = .tbl #[]) ∨ (b ∉ ts ∧ own = false ∧ b = a ∧ u = .frz o (.lst (ns.map V.int))) := by
  by_cases c : b ∈ ts
  · rw [h0t_in c] at h
    cases h
    exact .inl ⟨c, rfl⟩
  · rw [h0t_out c] at h
    exact .inr ⟨c, h00_some h⟩
/-- the tables cs stand in the heap, and the module does not name them -/
structure TabsHere (K : PySem.W.Frag) (h : Heap) (cs : List (Addr × Addr)) : Prop where
  hd : ∀ c ∈ cs, PySem.W.CodeHd h c.1 c.2
  at_ : ∀ c ∈ cs, h.get? c.2 = some (PySem.W.tabObj #[])
  free : ∀ c ∈ cs, K.lookup c.2 = none
theorem lawGT {P : Program} {w : World} {K : PySem.W.Frag} {mg mb : Str → Option Value} {CX : CXT} {k : Nat} {fa a : Addr} {fd : FuncData} {x : Str} {sp : Sp} {t : Shared} {vs : List Value} {ns : List Int} {cs : List (Addr × Addr)}
    (inK : K.In t.heap) (glob : t.heap.Ns mainGlobals mg) (blt : t.heap.Ns builtinsNs mb) (boot : ∀ y : Str, y ≠ "__name__" → mb y = bootBuiltins y) (noLim : t.heap.NoLimit) (gens : t.gens = #[]) (tabs : TabsHere K t.heap cs)
    (bmod : ∃ (bm : Addr) (ob : Obj), mg "__builtins__" = some (.ref bm) ∧ bm ≠ builtinsNs ∧ t.heap.get? bm = some ob ∧ ob.cls = .type "module" ∧ ob.dict = some builtinsNs ∧ ob.data = .plain)
    (scr : t.heap.get? a = some { cls := .type "list", data := .seq vs.toArray }) (hints : IntsAre vs ns) (short : ns.length ≤ sizeLine) (room : Room k callerA)
    (F : ∀ base : Heap, K.In base → base.Ns mainGlobals mg → (∀ c ∈ cs, LamX.TabB base mg c.1 c.2) → FnG P w K mg base CX k fa fd [x] sp) (bind : ∀ (s : Shared) (u : Value), BindsTo s fd ⟨[u], []⟩ [(x, u)])
    (want : ∀ H : Hp, (∀ c ∈ cs, H c.2 = some (.tbl #[])) → SqL K H a (ns.map V.int) → sp [.ref a] H (fun v _ => v = .bl true) fun _ _ _ => False)
    (noErr : ∀ H e s', CX [] H t (fun _ _ _ => False) e s' → False) :
    codeAny (model P w) callerA (.call (.ref fa) ⟨[.ref a], []⟩) (fun r s' => r = .ok (.ret (.bool true)) ∧ OldK t.heap s'.heap ∧ s'.os = t.os ∧ AllBare s'.gens) t := by
  have hv : Vals (ns.map V.int) vs := vals_ints hints
  have hlv : vs.length = ns.length := hints.length
  obtain ⟨own, hown⟩ : ∃ own : Bool, own = (K.lookup a).isSome := ⟨_, rfl⟩
  obtain ⟨ts, hts⟩ : ∃ ts : List Addr, ts = cs.map (·.2) := ⟨_, rfl⟩
  have tin : ∀ {c : Addr × Addr}, c ∈ cs → c.2 ∈ ts := fun h => by
    rw [hts]
    exact List.mem_map.mpr ⟨_, h, rfl⟩
  have tout : ∀ {b : Addr}, b ∈ ts → ∃ c ∈ cs, c.2 = b := fun h => by
    rw [hts] at h
    exact List.mem_map.mp h
  have tget : ∀ {b : Addr}, b ∈ ts → t.heap.get? b = some (PySem.W.tabObj #[]) := fun h => by
    obtain ⟨c, hc, rfl⟩ := tout h
    exact tabs.at_ c hc
  have na : a ∉ ts := fun h => by
    have e := tget h
    rw [scr] at e
    have e2 := congrArg Obj.data (Option.some.inj e)
    cases e2
  let o : Obj := { cls := .type "list", data := .seq vs.toArray }
  let H0 : Hp := H0T a o ns own ts
  have hOk : HOk P w H0 t.heap := by
    intro b u e
    rcases h0t_some e with ⟨h, rfl⟩ | ⟨_, _, rfl, rfl⟩
    · exact tget h
    · exact ⟨scr, by rw [List.length_map]; exact short, vs, _, hv, scr⟩
  have none0 : ∀ {b : Addr}, b ∉ ts → own = true ∨ b ≠ a → H0 b = none := fun h1 h2 => (h0t_out h1).trans (h00_none h2)
  have keepT : ∀ {b : Addr} {ob : Obj}, t.heap.get? b = some ob → b ∉ ts → own = true ∨ b ≠ a → (hidT t.heap H0).get? b = some ob := fun e n1 n2 => hidT_get e (none0 n1 n2)
  -- what is neither the script nor a table
  have other : ∀ {b : Addr} {ob : Obj}, t.heap.get? b = some ob → (∀ xs n, ob.data ≠ .seq xs n) → ob.data ≠ .fields #[] → b ∉ ts ∧ b ≠ a := by
    intro b ob e n1 n2
    refine ⟨fun h => ?_, fun h => ?_⟩
    · rw [tget h] at e
      cases e
      exact n2 rfl
    · rw [h, scr] at e
      cases e
      exact n1 _ _ rfl
  have nsKeep : ∀ {b : Addr} {m : Str → Option Value}, t.heap.Ns b m → (hidT t.heap H0).Ns b m := by
    rintro b m ⟨ob, es, ep, e, dd, r⟩
    obtain ⟨n1, n2⟩ := other e (fun xs n z => by rw [dd] at z; cases z) (fun z => by rw [dd] at z; cases z)
    exact ⟨ob, es, ep, keepT e n1 (.inr n2), dd, r⟩
  have inK' : K.In (hidT t.heap H0) := by
    intro b ob e
    have nt : b ∉ ts := fun h => by
      obtain ⟨c, hc, rfl⟩ := tout h
      rw [tabs.free c hc] at e
      cases e
    refine keepT (inK b ob e) nt ?_
    by_cases hb : b = a
    · subst hb
      left
      rw [hown, e]
      rfl
    · exact .inr hb
  have noLim' : (hidT t.heap H0).NoLimit := by
    obtain ⟨mc, h1, h2⟩ := noLim
    exact ⟨mc, nsKeep h1, h2⟩
  have tabB : ∀ c ∈ cs, LamX.TabB (hidT t.heap H0) mg c.1 c.2 := by
    intro c hc
    have hP := tabs.at_ c hc
    constructor
    · obtain ⟨oc, us, file, tf, flags, tg, inF, text, tt, e, r1, r2, r3, r4⟩ := tabs.hd c hc
      obtain ⟨n1, n2⟩ := other e (fun xs n z => by rw [r2] at z; cases z) (fun z => by
        rw [r2] at z
        cases z
        cases r3)
      exact ⟨oc, us, file, tf, flags, tg, inF, text, tt, keepT e n1 (.inr n2), r1, r2, r3, r4⟩
    · obtain ⟨bm, ob, b1, b2, b3, b4, b5, b6⟩ := bmod
      obtain ⟨n1, n2⟩ := other b3 (fun xs n z => by rw [b6] at z; cases z) (fun z => by rw [b6] at z; cases z)
      refine ⟨bm, ob, b1, b2, ?_, fun z => n1 (z ▸ tin hc), keepT b3 n1 (.inr n2), b4, b5, b6⟩
      rintro rfl
      obtain ⟨og, es, ep, e, dd, _⟩ := glob
      rw [b3] at e
      cases e
      rw [b6] at dd
      cases dd
    · rintro z
      obtain ⟨og, es, ep, e, dd, _⟩ := glob
      rw [z, hP] at e
      cases e
      cases dd
  have env : Env0 P w K mg (hidT t.heap H0) callerA [] t H0 := by
    refine ⟨rfl, ⟨inK', nsKeep glob, ⟨mb, nsKeep blt, boot⟩, noLim'⟩, fun b ob e => of_hidT e, Nat.le_of_eq (hidT_size _ _), trivial, ?_, hOk, .of_eq gens⟩
    intro b hb
    exact absurd (show b ∈ ([] : List Addr) from hb) List.not_mem_nil
  have hS : SqL K H0 a (ns.map V.int) := by
    cases own with
    | false =>
      refine .inl (.inr ⟨o, ?_⟩)
      show H0T a o ns false ts a = _
      rw [h0t_out na]
      unfold H00
      rw [if_pos ⟨rfl, rfl⟩]
    | true =>
      obtain ⟨ob, e⟩ := Option.isSome_iff_exists.mp hown.symm
      have e2 := inK a ob e
      rw [scr] at e2
      cases e2
      exact .inr ⟨_, vs.toArray, _, e, rfl, rfl, rfl, by rw [List.size_toArray, hlv]; exact short, by simpa using hv⟩
  have runs := (F _ inK' (nsKeep glob) tabB).run callerA [] t H0 ⟨[.ref a], []⟩ [.ref a] [.ref a] _ _ rfl room env (bind t (.ref a)) (.cons rfl .nil) (want _ (fun c hc => h0t_in (tin hc)) hS)
  refine codeAny_mono runs ?_
  intro res s' hres
  match res, hres with
  | .error e, hres => exact (noErr _ e s' hres).elim
  | .ok (.ret u), hres =>
    obtain ⟨v, H', hos, bare, un, ok', rel, rfl⟩ := hres
    obtain rfl : u = Value.bool true := rel
    have stays : ∀ b ob, b ∉ ts → t.heap.get? b = some ob → s'.heap.get? b = some ob := by
      intro b ob nb e
      cases q : H0 b with
      | none => exact un.keep b ob e q (fun z => absurd (show b ∈ ([] : List Addr) from z) List.not_mem_nil) List.not_mem_nil
      | some u =>
        rcases h0t_some q with ⟨h, _⟩ | ⟨_, _, _, rfl⟩
        · exact absurd h nb
        · have q' := un.frzs b _ _ q
          have e1 := (hOk b _ q).1
          rw [e] at e1
          cases e1
          exact (ok' b _ q').1
    have grows : ∀ c ∈ cs, ∃ more : Array Value, s'.heap.get? c.2 = some (PySem.W.tabObj more) := by
      intro c hc
      obtain ⟨more, z⟩ := un.tbls c.2 #[] (h0t_in (tin hc))
      exact ⟨_, ok' c.2 _ z⟩
    refine ⟨rfl, ⟨fun b ob e => ?_, fun b ob e => ?_⟩, hos, bare⟩
    · by_cases hb : b ∈ ts
      · obtain ⟨c, hc, rfl⟩ := tout hb
        obtain ⟨more, hm⟩ := grows c hc
        have hP := tabs.at_ c hc
        rw [hP] at e
        cases e
        refine .inr (.inl ⟨((tabs.hd c hc).tab hP).isCodeTable, rfl, #[], more, rfl, ?_⟩)
        rw [Array.empty_append]
        exact hm
      · exact .inl (stays b ob hb e)
    · by_cases hb : b ∈ ts
      · obtain ⟨c, hc, rfl⟩ := tout hb
        obtain ⟨more, hm⟩ := grows c hc
        exact ⟨_, hm⟩
      · exact ⟨ob, stays b ob hb e⟩
/-- what k_head leaves, for such a law -/
theorem walkGT {l : PySem.W.OpenLaw} {n k : Nat} {q : Program} {loose : List Str} {XP : (Str → Option Value) → Heap → Prop} {YP : World → Heap → Prop} {d : DefRec} {K : Params → PySem.W.Frag} {CX : World → CXT} {x : Str}
    (most : l.most = some n) (small : n ≤ sizeLine) (plain : d.params.defaults = []) (room : Room k callerA) (hY : ∀ (w : World) (h : Heap), YP w h → (K w.params).In h)
    (F : ∀ (w : World) (mg : Str → Option Value) (fa : Addr) (h : Heap), (K w.params).In h → h.Ns mainGlobals mg → mg d.name = some (.ref fa) →
      ∃ (fd : FuncData) (cs : List (Addr × Addr)) (sp : Sp), (∀ c ∈ cs, (∃ (y : Str) (e : DefRec), (recsOf q).find? (fun r => r.name == y) = some e ∧ PySem.W.tabIn (K w.params) y = some c) ∧ (K w.params).lookup c.2 = none) ∧
        (∀ (s : Shared) (u : Value), BindsTo s fd ⟨[u], []⟩ [(x, u)]) ∧
        (∀ (H : Hp) (a : Addr) (ns : List Int), ns.length ≤ n → (∀ c ∈ cs, H c.2 = some (.tbl #[])) → SqL (K w.params) H a (ns.map V.int) → sp [.ref a] H (fun v _ => v = .bl true) fun _ _ _ => False) ∧
        ∀ base : Heap, (K w.params).In base → base.Ns mainGlobals mg → (∀ c ∈ cs, LamX.TabB base mg c.1 c.2) → FnG l.prog w (K w.params) mg base (CX w) k fa fd [x] sp)
    (noErr : ∀ (w : World) (H : Hp) (s : Shared) (e : Value) (s' : Shared), CX w [] H s (fun _ _ _ => False) e s' → False) :
    PySem.W.WalkO q loose XP YP l.row.toRowW d [] (fun f vs => PySem.call f vs) := by
  refine Att.attach_call most plain fun w s₀ t mg mb fa o pm cd doc a vs ns G Y ho hd hcd hmg scr hints hlen gens => ?_
  obtain ⟨fd, cs, sp, tabs, bind, want, body⟩ := F w mg fa _ (hY w _ Y) G.T.g hmg
  have th : ∀ c ∈ cs, PySem.W.CodeHd t.heap c.1 c.2 ∧ t.heap.get? c.2 = some (PySem.W.tabObj #[]) := fun c hc => by
    obtain ⟨⟨y, e, h1, h2⟩, _⟩ := tabs c hc
    exact PySem.W.tab_of G.T (hY w _ Y) h1 h2
  exact lawGT (hY w _ Y) G.T.g G.T.b G.T.builtins G.T.nolimit gens ⟨fun c hc => (th c hc).1, fun c hc => (th c hc).2, fun c hc => (tabs c hc).2⟩ G.T.bmain scr hints (Nat.le_trans hlen small) room body bind
    (fun H hO hS => want H a ns hlen hO hS) fun H e s' => noErr w H t e s'
/-! ### a def that makes lambdas: its own code is known -/
section
variable {P : Program} {w : World} {K : PySem.W.Frag} {mg : Str → Option Value} {base : Heap}
/-- .. where no repr is under way; its code object is at c -/
theorem okGL {x qual : Str} {st : Stmt} {f c : Addr} {fd : FuncData} {N ps : List Str} {k : Nat} {sp : Sp} (F : Fun K x qual st f fd) (hc : fd.code = .ref c) (S : FnScope N ps (defScope st)) (hlen : ∀ vs H Q E, sp vs H Q E → vs.length = ps.length)
    (hb : ∀ (A : Around) (outer : List Env) (s : Shared) (H : Hp) (vs : List V) (Q : VK) (E : XK), Gd (A.deeper (envOfC qual (defScope st) s.heap.objs.size f (.ref c))) → Room k (A.deeper (envOfC qual (defScope st) s.heap.objs.size f (.ref c))) → sp vs H Q E →
      ∃ t, PSs (cxOf CX0 P w K mg base N qual (defScope st) f (.ref c) A outer s H E).nox (defBody st) t ∧ t { nx := fun _ H' => Q .non H', rt := Q } (start N vs) H) : FnG P w K mg base CX0 (k + 1) f fd ps sp := by
  obtain ⟨oc, od, kV, doc, pm, an, cdv, ct, osl, rfl, lk, hcd⟩ := F.ex
  have e : cdv = .ref c := hc
  subst e
  refine fnG_body lk hcd S hlen fun A outer s H vs Q E g hr want => ?_
  obtain ⟨t, h, q⟩ := hb A outer s H vs Q E g hr want
  exact ⟨t, h.nox, q⟩
end
end Gx

set_option maxRecDepth 100000
set_option maxHeartbeats 4000000
namespace Gx
open PySem PySem.Spec PyProof.Rows L2 LamX
/-- an own class of errors is not caught by the name of another -/
theorem exm_no {K : PySem.W.Frag} {S C : Addr} (b : PySem.W.subIn K (.ref C) (.type "BaseException") = some true) (i : PySem.W.isClsIn K C = true) (t : PySem.W.typeIn K (.ref C) = some (.type "type")) (s : PySem.W.subIn K (.ref S) (.ref C) = some false) : PySem.W.exmOne K (.ref S) (.ref C) = some false := by
  have i' : (PySem.W.clsIn K C).isSome = true := i
  unfold PySem.W.exmOne PySem.W.kitCls
  simp [b, i', t, s]
/-- one table, one name -/
theorem one_of : ∀ {Tb : List (Addr × Str)} {P : Addr} {q : Str}, (Tb.map (·.1)).Nodup → (P, q) ∈ Tb → ∀ p ∈ Tb, p.1 = P → p.2 = q
  | (P0, q0) :: r, P, q, nd, m, p, hp, e => by
    rw [List.map_cons, List.nodup_cons] at nd
    rcases List.mem_cons.mp m with h | h
    · cases h
      rcases List.mem_cons.mp hp with rfl | h2
      · rfl
      · exact absurd (List.mem_map.mpr ⟨p, h2, e⟩) nd.1
    · rcases List.mem_cons.mp hp with rfl | h2
      · exact absurd (List.mem_map.mpr ⟨_, h, e.symm⟩) nd.1
      · exact one_of nd.2 h p h2 e
/-- as Def.calG, the name's address handed on -/
theorem Def.calGL {P : Program} {w : World} {K : PySem.W.Frag} {mg : Str → Option Value} {base : Heap} {x qual : Str} {st : Stmt} {ps : List Str} (d : Def K mg x qual st ps) {k : Nat} {sp : Sp} (h : ∀ f fd, mg x = some (.ref f) → Fun K x qual st f fd → FnG P w K mg base CX0 k f fd ps sp) : CalG P w K mg base k x ps sp := by
  obtain ⟨f, fd, F, b, g⟩ := d
  exact ⟨f, fd, h f fd g F, F.kp, b, g⟩
abbrev ln (x : Str) : Str := (x ++ ".<locals>.") ++ "<lambda>"
/-- a def of the module that makes lambdas: its code and its table -/
structure Lam (K : PySem.W.Frag) (mg : Str → Option Value) (base : Heap) (Tb : List (Addr × Str)) (x : Str) (c Pt : Addr) : Prop where
  tb : TabB base mg c Pt
  mem : (Pt, ln x) ∈ Tb
  one : ∀ p ∈ Tb, p.1 = Pt → p.2 = ln x
  code : ∀ (f : Addr) (oc : Value) (od : Option Addr) (fd : FuncData) (sl : Array (Option Value)), mg x = some (.ref f) → K.lookup f = some ⟨oc, od, .func fd, sl⟩ → fd.code = .ref c
theorem Lam.of {K : PySem.W.Frag} {mg : Str → Option Value} {base : Heap} {Tb : List (Addr × Str)} {x : Str} {c Pt : Addr} (L : Lam K mg base Tb x c Pt) {qual : Str} {st : Stmt} {f : Addr} {fd : FuncData} (g : mg x = some (.ref f)) (F : Fun K x qual st f fd) : fd.code = .ref c := by
  obtain ⟨oc, od, kV, doc, pm, an, cdv, ct, osl, _, lk, _⟩ := F.ex
  exact L.code f oc od fd osl g lk
theorem tabIn_of {K : PySem.W.Frag} {x : Str} {f c Pt : Addr} {oc oc2 : Value} {od od2 : Option Addr} {fd : FuncData} {sl sl2 : Array (Option Value)} {vs : Array Value} (a : PySem.W.nsIn K mainGlobals x = some (some (.ref f))) (l : K.lookup f = some ⟨oc, od, .func fd, sl⟩) (hc : fd.code = .ref c) (lc : K.lookup c = some ⟨oc2, od2, .fields vs, sl2⟩) (hp : vs[11]? = some (.ref Pt)) : PySem.W.tabIn K x = some (c, Pt) := by
  unfold PySem.W.tabIn
  simp only [a, l, hc, lc, hp]
/-- .. as the top has made it -/
theorem Lam.mk_of {K : PySem.W.Frag} {mg : Str → Option Value} {base : Heap} {Tb : List (Addr × Str)} {x : Str} {c Pt : Addr} (X : K.In base) (G : base.Ns mainGlobals mg) (ht : PySem.W.tabIn K x = some (c, Pt)) (tb : TabB base mg c Pt) (nd : (Tb.map (·.1)).Nodup) (m : (Pt, ln x) ∈ Tb) : Lam K mg base Tb x c Pt :=
  ⟨tb, m, one_of nd m, fun f oc od fd sl g lk => PySem.W.law_code X G ht g (X _ _ lk) rfl⟩
end Gx

set_option maxRecDepth 100000
set_option maxHeartbeats 4000000
namespace Kl
open PySem PySem.Spec PyProof.Rows L2 Gx
def topS (i : Nat) : Stmt := PySem.Challenge.pw_linkbooks_k16_errors_of_rows.main.body.getD i (.Pass ⟨0, 0, 0, 0⟩)
abbrev s_wall : Stmt := topS 0
theorem sc_wall : FnScope ["k"] ["k"] (defScope s_wall) := ⟨rfl, rfl, rfl, by decide +kernel, rfl, by decide +kernel, by decide +kernel⟩
abbrev s_is_integer : Stmt := topS 11
theorem sc_is_integer : FnScope ["value"] ["value"] (defScope s_is_integer) := ⟨rfl, rfl, rfl, by decide +kernel, rfl, by decide +kernel, by decide +kernel⟩
abbrev s_is_count : Stmt := topS 12
theorem sc_is_count : FnScope ["value"] ["value"] (defScope s_is_count) := ⟨rfl, rfl, rfl, by decide +kernel, rfl, by decide +kernel, by decide +kernel⟩
abbrev s_is_name : Stmt := topS 13
theorem sc_is_name : FnScope ["value"] ["value"] (defScope s_is_name) := ⟨rfl, rfl, rfl, by decide +kernel, rfl, by decide +kernel, by decide +kernel⟩
abbrev s_is_sorted : Stmt := topS 14
theorem sc_is_sorted : FnScope ["value", "most", "name"] ["value", "most"] (defScope s_is_sorted) := ⟨rfl, rfl, rfl, by decide +kernel, rfl, by decide +kernel, by decide +kernel⟩
abbrev s_words_of : Stmt := topS 16
theorem sc_words_of : FnScope ["line"] ["line"] (defScope s_words_of) := ⟨rfl, rfl, rfl, by decide +kernel, rfl, by decide +kernel, by decide +kernel⟩
abbrev s_names_in : Stmt := topS 17
theorem sc_names_in : FnScope ["text", "most", "names"] ["text", "most"] (defScope s_names_in) := ⟨rfl, rfl, rfl, by decide +kernel, rfl, by decide +kernel, by decide +kernel⟩
abbrev s_text_of : Stmt := topS 18
theorem sc_text_of : FnScope ["names"] ["names"] (defScope s_text_of) := ⟨rfl, rfl, rfl, by decide +kernel, rfl, by decide +kernel, by decide +kernel⟩
abbrev s_is_making : Stmt := topS 22
theorem sc_is_making : FnScope ["value"] ["value"] (defScope s_is_making) := ⟨rfl, rfl, rfl, by decide +kernel, rfl, by decide +kernel, by decide +kernel⟩
abbrev s_all_names : Stmt := topS 23
theorem sc_all_names : FnScope ["leaf", "makings"] ["leaf", "makings"] (defScope s_all_names) := ⟨rfl, rfl, rfl, by decide +kernel, rfl, by decide +kernel, by decide +kernel⟩
abbrev s_are_kinds : Stmt := topS 24
theorem sc_are_kinds : FnScope ["leaf", "makings", "names", "name", "part"] ["leaf", "makings"] (defScope s_are_kinds) := ⟨rfl, rfl, rfl, by decide +kernel, rfl, by decide +kernel, by decide +kernel⟩
abbrev s_sums_above : Stmt := topS 27
theorem sc_sums_above : FnScope ["parts_of", "below", "name", "parts", "part"] ["parts_of", "below"] (defScope s_sums_above) := ⟨rfl, rfl, rfl, by decide +kernel, rfl, by decide +kernel, by decide +kernel⟩
abbrev s_sums_by_rank : Stmt := topS 28
theorem sc_sums_by_rank : FnScope ["leaf", "parts_of", "ranks", "by_rank"] ["leaf", "parts_of", "ranks"] (defScope s_sums_by_rank) := ⟨rfl, rfl, rfl, by decide +kernel, rfl, by decide +kernel, by decide +kernel⟩
abbrev s_are_digits : Stmt := topS 34
theorem sc_are_digits : FnScope ["value", "digit"] ["value"] (defScope s_are_digits) := ⟨rfl, rfl, rfl, by decide +kernel, rfl, by decide +kernel, by decide +kernel⟩
abbrev s_are_loose_digits : Stmt := topS 35
theorem sc_are_loose_digits : FnScope ["value"] ["value"] (defScope s_are_loose_digits) := ⟨rfl, rfl, rfl, by decide +kernel, rfl, by decide +kernel, by decide +kernel⟩
abbrev s_digit_at : Stmt := topS 36
theorem sc_digit_at : FnScope ["digits", "rank"] ["digits", "rank"] (defScope s_digit_at) := ⟨rfl, rfl, rfl, by decide +kernel, rfl, by decide +kernel, by decide +kernel⟩
abbrev s_merged : Stmt := topS 37
theorem sc_merged : FnScope ["one", "other"] ["one", "other"] (defScope s_merged) := ⟨rfl, rfl, rfl, by decide +kernel, rfl, by decide +kernel, by decide +kernel⟩
abbrev s_check_kinds : Stmt := topS 38
theorem sc_check_kinds : FnScope ["kinds"] ["kinds"] (defScope s_check_kinds) := ⟨rfl, rfl, rfl, by decide +kernel, rfl, by decide +kernel, by decide +kernel⟩
abbrev s_check_loose : Stmt := topS 39
theorem sc_check_loose : FnScope ["row"] ["row"] (defScope s_check_loose) := ⟨rfl, rfl, rfl, by decide +kernel, rfl, by decide +kernel, by decide +kernel⟩
abbrev s_is_digit : Stmt := topS 40
theorem sc_is_digit : FnScope ["value"] ["value"] (defScope s_is_digit) := ⟨rfl, rfl, rfl, by decide +kernel, rfl, by decide +kernel, by decide +kernel⟩
abbrev s_is_loose : Stmt := topS 41
theorem sc_is_loose : FnScope ["value"] ["value"] (defScope s_is_loose) := ⟨rfl, rfl, rfl, by decide +kernel, rfl, by decide +kernel, by decide +kernel⟩
abbrev s_is_row : Stmt := topS 42
theorem sc_is_row : FnScope ["kinds", "value", "sizes", "digit", "here", "name"] ["kinds", "value"] (defScope s_is_row) := ⟨rfl, rfl, rfl, by decide +kernel, rfl, by decide +kernel, by decide +kernel⟩
abbrev s_write_digit : Stmt := topS 43
theorem sc_write_digit : FnScope ["digit"] ["digit"] (defScope s_write_digit) := ⟨rfl, rfl, rfl, by decide +kernel, rfl, by decide +kernel, by decide +kernel⟩
abbrev s_read_digit : Stmt := topS 44
theorem sc_read_digit : FnScope ["text", "digit"] ["text"] (defScope s_read_digit) := ⟨rfl, rfl, rfl, by decide +kernel, rfl, by decide +kernel, by decide +kernel⟩
abbrev s_write_row : Stmt := topS 45
theorem sc_write_row : FnScope ["row", "digit"] ["row"] (defScope s_write_row) := ⟨rfl, rfl, rfl, by decide +kernel, rfl, by decide +kernel, by decide +kernel⟩
abbrev s_read_row : Stmt := topS 46
theorem sc_read_row : FnScope ["text", "row", "word"] ["text"] (defScope s_read_row) := ⟨rfl, rfl, rfl, by decide +kernel, rfl, by decide +kernel, by decide +kernel⟩
abbrev s_trimmed : Stmt := topS 47
theorem sc_trimmed : FnScope ["digits", "many"] ["digits"] (defScope s_trimmed) := ⟨rfl, rfl, rfl, by decide +kernel, rfl, by decide +kernel, by decide +kernel⟩
abbrev s_keys_of : Stmt := topS 48
theorem sc_keys_of : FnScope ["kinds", "row", "sizes", "digit", "here", "name"] ["kinds", "row"] (defScope s_keys_of) := ⟨rfl, rfl, rfl, by decide +kernel, rfl, by decide +kernel, by decide +kernel⟩
abbrev s_trees_of : Stmt := topS 49
theorem sc_trees_of : FnScope ["row", "digit"] ["row"] (defScope s_trees_of) := ⟨rfl, rfl, rfl, by decide +kernel, rfl, by decide +kernel, by decide +kernel⟩
abbrev s_added : Stmt := topS 50
theorem sc_added : FnScope ["one", "other", "ranks", "row", "rank"] ["one", "other"] (defScope s_added) := ⟨rfl, rfl, rfl, by decide +kernel, rfl, by decide +kernel, by decide +kernel⟩
abbrev s_law_dice : Stmt := topS 52
theorem sc_law_dice : FnScope ["_law_script", "_law_spot", "_law_cell", "_law_left"] ["_law_script", "_law_spot"] (defScope s_law_dice) := ⟨rfl, rfl, rfl, by decide +kernel, rfl, by decide +kernel, by decide +kernel⟩
abbrev s_law_roll : Stmt := topS 53
theorem sc_law_roll : FnScope ["_law_dice_here", "_law_total", "_law_found", "_law_one", "_law_two"] ["_law_dice_here", "_law_total"] (defScope s_law_roll) := ⟨rfl, rfl, rfl, by decide +kernel, rfl, by decide +kernel, by decide +kernel⟩
abbrev s_law_pick : Stmt := topS 54
theorem sc_law_pick : FnScope ["_law_dice_here", "_law_items"] ["_law_dice_here", "_law_items"] (defScope s_law_pick) := ⟨rfl, rfl, rfl, by decide +kernel, rfl, by decide +kernel, by decide +kernel⟩
abbrev s_law_word_of : Stmt := topS 55
theorem sc_law_word_of : FnScope ["_law_call", "e"] ["_law_call"] (defScope s_law_word_of) := ⟨rfl, rfl, rfl, by decide +kernel, rfl, by decide +kernel, by decide +kernel⟩
abbrev s_law_right : Stmt := topS 56
theorem sc_law_right : FnScope ["_law_dice_here", "_law_kinds", "_law_none", "_law_odd", "_law_digit", "_law_text", "_law_top", "_law_good", "_law_told", "_law_judged"] ["_law_dice_here", "_law_kinds"] (defScope s_law_right) := ⟨rfl, rfl, rfl, by decide +kernel, rfl, by decide +kernel, by decide +kernel⟩
abbrev s_law_limits_right : Stmt := topS 57
theorem sc_law_limits_right : FnScope ["_law_dice_here", "_law_many", "_law_rank", "_law_one", "_law_other", "_law_more", "_law_great", "_law_greater", "_law_told", "_law_due"] ["_law_dice_here"] (defScope s_law_limits_right) := ⟨rfl, rfl, rfl, by decide +kernel, rfl, by decide +kernel, by decide +kernel⟩
abbrev s_law : Stmt := topS 58
theorem sc_law : FnScope ["_law_script", "_law_kinds", "_law_spot", "_law_dice_here", "_law_turn"] ["_law_script"] (defScope s_law) := ⟨rfl, rfl, rfl, by decide +kernel, rfl, by decide +kernel, by decide +kernel⟩
abbrev s_ParseError_init : Stmt := inClass (topS 5) 0
abbrev XT_ParseError (K : PySem.W.Frag) (mg : Str → Option Value) (C fI : Addr) : Prop := XTxt K mg "ParseError" "number" "ValueError.__new__" [.type "ValueError", .type "Exception", .type "BaseException", .type "object"] C fI
/-- the error ParseError as the top has made it -/
def XDef_ParseError (K : PySem.W.Frag) (mg : Str → Option Value) : Prop := ∃ (C fI : Addr) (fd : FuncData), XT_ParseError K mg C fI ∧ Fun K "__init__" "ParseError.__init__" s_ParseError_init fI fd
theorem init_ParseError {K : PySem.W.Frag} {mg : Str → Option Value} {C fI : Addr} {fd : FuncData} (T : XT_ParseError K mg C fI) (F : Fun K "__init__" "ParseError.__init__" s_ParseError_init fI fd) : InitDoes K C fI "number" := by
  intro prog w A R s x t0 v inK lim hx fresh room hq
  obtain ⟨oc, od, kV, doc, pm, an, cdv, ct, osl, rfl, lk, hcd⟩ := F.ex
  refine Att.call_fn (binds := [("self", .ref x), ("number", v)]) inK lim lk hcd room (BindsTo.of_eq (by first | rfl | with_unfolding_all rfl)) (by first | rfl | decide) (fun s₁ IC => ?_) rfl rfl rfl
  obtain ⟨h₁, tk₁, rfl⟩ := IC.toInCall.same
  have k := IC.toInCall.keep
  have hn := IC.toInCall.ns
  have inK₁ : K.In h₁ := inK.keeps k
  have hx₁ := k _ _ hx
  show wpAny _ _ (execs _ _) _ _ _
  refine wpAny_execs_cons (plainObj_wpAny_Assign_Attribute ?_)
  refine wpAny_Name (wpAny_loadName_local (v := v) (by rfl) (by rfl) hn (by first | rfl | with_unfolding_all rfl | kernel_rfl) ?_) (by decide)
  refine wpAny_Name (wpAny_loadName_local (v := .ref x) (by rfl) (by rfl) hn (by first | rfl | with_unfolding_all rfl | kernel_rfl) ?_) (by decide)
  refine PySem.W.set_plain inK₁ (ox := PySem.W.excObj C t0 none .none) (od := none) ⟨hx₁, rfl, rfl, trivial⟩ T.sa ?_
  refine exc_storeX PySem.F.store_ValueError inK₁ hx₁ T.over T.tak T.hdC (fun h₃ tk₃ dx k₃ dn dne hx₃ hn₃ => ?_)
  show wpAny _ _ (execs _ _) _ _ _
  exact wpAny_execs_nil (hq h₃ tk₃ dx ⟨fun b o hb e => k₃ b o hb (k b o e), hx₃, Nat.le_of_lt (Nat.lt_of_lt_of_le hn.lt dn), dne, hn₃⟩)
abbrev s_UnknownName_init : Stmt := inClass (topS 6) 0
abbrev XT_UnknownName (K : PySem.W.Frag) (mg : Str → Option Value) (C fI : Addr) : Prop := XTxt K mg "UnknownName" "word" "LookupError.__new__" [.type "KeyError", .type "LookupError", .type "Exception", .type "BaseException", .type "object"] C fI
/-- the error UnknownName as the top has made it -/
def XDef_UnknownName (K : PySem.W.Frag) (mg : Str → Option Value) : Prop := ∃ (C fI : Addr) (fd : FuncData), XT_UnknownName K mg C fI ∧ Fun K "__init__" "UnknownName.__init__" s_UnknownName_init fI fd
theorem init_UnknownName {K : PySem.W.Frag} {mg : Str → Option Value} {C fI : Addr} {fd : FuncData} (T : XT_UnknownName K mg C fI) (F : Fun K "__init__" "UnknownName.__init__" s_UnknownName_init fI fd) : InitDoes K C fI "word" := by
  intro prog w A R s x t0 v inK lim hx fresh room hq
  obtain ⟨oc, od, kV, doc, pm, an, cdv, ct, osl, rfl, lk, hcd⟩ := F.ex
  refine Att.call_fn (binds := [("self", .ref x), ("word", v)]) inK lim lk hcd room (BindsTo.of_eq (by first | rfl | with_unfolding_all rfl)) (by first | rfl | decide) (fun s₁ IC => ?_) rfl rfl rfl
  obtain ⟨h₁, tk₁, rfl⟩ := IC.toInCall.same
  have k := IC.toInCall.keep
  have hn := IC.toInCall.ns
  have inK₁ : K.In h₁ := inK.keeps k
  have hx₁ := k _ _ hx
  show wpAny _ _ (execs _ _) _ _ _
  refine wpAny_execs_cons (plainObj_wpAny_Assign_Attribute ?_)
  refine wpAny_Name (wpAny_loadName_local (v := v) (by rfl) (by rfl) hn (by first | rfl | with_unfolding_all rfl | kernel_rfl) ?_) (by decide)
  refine wpAny_Name (wpAny_loadName_local (v := .ref x) (by rfl) (by rfl) hn (by first | rfl | with_unfolding_all rfl | kernel_rfl) ?_) (by decide)
  refine PySem.W.set_plain inK₁ (ox := PySem.W.excObj C t0 none .none) (od := none) ⟨hx₁, rfl, rfl, trivial⟩ T.sa ?_
  refine exc_storeX Gx.store_KeyErr inK₁ hx₁ T.over T.tak T.hdC (fun h₃ tk₃ dx k₃ dn dne hx₃ hn₃ => ?_)
  show wpAny _ _ (execs _ _) _ _ _
  exact wpAny_execs_nil (hq h₃ tk₃ dx ⟨fun b o hb e => k₃ b o hb (k b o e), hx₃, Nat.le_of_lt (Nat.lt_of_lt_of_le hn.lt dn), dne, hn₃⟩)
abbrev s_InvalidNumber_init : Stmt := inClass (topS 7) 0
abbrev XT_InvalidNumber (K : PySem.W.Frag) (mg : Str → Option Value) (C fI : Addr) : Prop := XTxt K mg "InvalidNumber" "value" "IndexError.__new__" [.type "IndexError", .type "LookupError", .type "Exception", .type "BaseException", .type "object"] C fI
/-- the error InvalidNumber as the top has made it -/
def XDef_InvalidNumber (K : PySem.W.Frag) (mg : Str → Option Value) : Prop := ∃ (C fI : Addr) (fd : FuncData), XT_InvalidNumber K mg C fI ∧ Fun K "__init__" "InvalidNumber.__init__" s_InvalidNumber_init fI fd
theorem init_InvalidNumber {K : PySem.W.Frag} {mg : Str → Option Value} {C fI : Addr} {fd : FuncData} (T : XT_InvalidNumber K mg C fI) (F : Fun K "__init__" "InvalidNumber.__init__" s_InvalidNumber_init fI fd) : InitDoes K C fI "value" := by
  intro prog w A R s x t0 v inK lim hx fresh room hq
  obtain ⟨oc, od, kV, doc, pm, an, cdv, ct, osl, rfl, lk, hcd⟩ := F.ex
  refine Att.call_fn (binds := [("self", .ref x), ("value", v)]) inK lim lk hcd room (BindsTo.of_eq (by first | rfl | with_unfolding_all rfl)) (by first | rfl | decide) (fun s₁ IC => ?_) rfl rfl rfl
  obtain ⟨h₁, tk₁, rfl⟩ := IC.toInCall.same
  have k := IC.toInCall.keep
  have hn := IC.toInCall.ns
  have inK₁ : K.In h₁ := inK.keeps k
  have hx₁ := k _ _ hx
  show wpAny _ _ (execs _ _) _ _ _
  refine wpAny_execs_cons (plainObj_wpAny_Assign_Attribute ?_)
  refine wpAny_Name (wpAny_loadName_local (v := v) (by rfl) (by rfl) hn (by first | rfl | with_unfolding_all rfl | kernel_rfl) ?_) (by decide)
  refine wpAny_Name (wpAny_loadName_local (v := .ref x) (by rfl) (by rfl) hn (by first | rfl | with_unfolding_all rfl | kernel_rfl) ?_) (by decide)
  refine PySem.W.set_plain inK₁ (ox := PySem.W.excObj C t0 none .none) (od := none) ⟨hx₁, rfl, rfl, trivial⟩ T.sa ?_
  refine exc_storeX PySem.F.store_IndexError inK₁ hx₁ T.over T.tak T.hdC (fun h₃ tk₃ dx k₃ dn dne hx₃ hn₃ => ?_)
  show wpAny _ _ (execs _ _) _ _ _
  exact wpAny_execs_nil (hq h₃ tk₃ dx ⟨fun b o hb e => k₃ b o hb (k b o e), hx₃, Nat.le_of_lt (Nat.lt_of_lt_of_le hn.lt dn), dne, hn₃⟩)
abbrev s_Kinds_init : Stmt := inClass (topS 25) 0
theorem sc_Kinds_init : FnScope ["self", "leaf", "makings", "name"] ["self", "leaf", "makings"] (defScope s_Kinds_init) := ⟨rfl, rfl, rfl, by decide +kernel, rfl, by decide +kernel, by decide +kernel⟩
abbrev s_Kinds_leaf : Stmt := inClass (topS 25) 2
theorem sc_Kinds_leaf : FnScope ["self"] ["self"] (defScope s_Kinds_leaf) := ⟨rfl, rfl, rfl, by decide +kernel, rfl, by decide +kernel, by decide +kernel⟩
abbrev s_Kinds_makings : Stmt := inClass (topS 25) 3
theorem sc_Kinds_makings : FnScope ["self"] ["self"] (defScope s_Kinds_makings) := ⟨rfl, rfl, rfl, by decide +kernel, rfl, by decide +kernel, by decide +kernel⟩
abbrev s_Kinds_names : Stmt := inClass (topS 25) 4
theorem sc_Kinds_names : FnScope ["self"] ["self"] (defScope s_Kinds_names) := ⟨rfl, rfl, rfl, by decide +kernel, rfl, by decide +kernel, by decide +kernel⟩
abbrev s_Kinds_lines : Stmt := inClass (topS 25) 5
theorem sc_Kinds_lines : FnScope ["self", "made", "name"] ["self"] (defScope s_Kinds_lines) := ⟨rfl, rfl, rfl, by decide +kernel, rfl, by decide +kernel, by decide +kernel⟩
abbrev s_Kinds_contains : Stmt := inClass (topS 25) 9
theorem sc_Kinds_contains : FnScope ["self", "value"] ["self", "value"] (defScope s_Kinds_contains) := ⟨rfl, rfl, rfl, by decide +kernel, rfl, by decide +kernel, by decide +kernel⟩
abbrev s_Kinds_getitem : Stmt := inClass (topS 25) 10
theorem sc_Kinds_getitem : FnScope ["self", "name"] ["self", "name"] (defScope s_Kinds_getitem) := ⟨rfl, rfl, rfl, by decide +kernel, rfl, by decide +kernel, by decide +kernel⟩
abbrev s_Kinds_len : Stmt := inClass (topS 25) 12
theorem sc_Kinds_len : FnScope ["self"] ["self"] (defScope s_Kinds_len) := ⟨rfl, rfl, rfl, by decide +kernel, rfl, by decide +kernel, by decide +kernel⟩
abbrev s_Kinds_eq : Stmt := inClass (topS 25) 13
theorem sc_Kinds_eq : FnScope ["self", "other"] ["self", "other"] (defScope s_Kinds_eq) := ⟨rfl, rfl, rfl, by decide +kernel, rfl, by decide +kernel, by decide +kernel⟩
abbrev s_Kinds_str : Stmt := inClass (topS 25) 14
theorem sc_Kinds_str : FnScope ["self"] ["self"] (defScope s_Kinds_str) := ⟨rfl, rfl, rfl, by decide +kernel, rfl, by decide +kernel, by decide +kernel⟩
/-- the class Kinds as the top has made it -/
structure Cl_Kinds (K : PySem.W.Frag) (mg : Str → Option Value) (C : Addr) : Prop where
  gC : mg "Kinds" = some (.ref C)
  cl : Cls K C
  n_leaf : NoAttr K C "_leaf"
  n_makings : NoAttr K C "_makings"
  n_names : NoAttr K C "_names"
  made : ∃ f fd, Mk K C f ∧ Fun K "__init__" "Kinds.__init__" s_Kinds_init f fd ∧ Binds K fd ["self", "leaf", "makings"] []
  p_leaf : PropD K C "leaf" "Kinds.leaf" s_Kinds_leaf
  p_makings : PropD K C "makings" "Kinds.makings" s_Kinds_makings
  p_names : PropD K C "names" "Kinds.names" s_Kinds_names
  p_lines : PropD K C "lines" "Kinds.lines" s_Kinds_lines
  m_contains : DefM K C "__contains__" "Kinds.__contains__" s_Kinds_contains ["self", "value"]
  m_getitem : DefM K C "__getitem__" "Kinds.__getitem__" s_Kinds_getitem ["self", "name"]
  m_len : DefM K C "__len__" "Kinds.__len__" s_Kinds_len ["self"]
  m_eq : DefM K C "__eq__" "Kinds.__eq__" s_Kinds_eq ["self", "other"]
  m_str : DefM K C "__str__" "Kinds.__str__" s_Kinds_str ["self"]
  ne : PySem.W.findIn K (.ref C) "__ne__" = some (some (.builtin "object.__ne__"))
  ob : PySem.W.mroIn K C (.type "object") = some true
  kit : PySem.W.kitOne K (.ref C) (.ref C) = some true
  kitT : PySem.W.kitOne K (.type "tuple") (.ref C) = some false
  kitD : PySem.W.kitOne K (.type "dict") (.ref C) = some false
  kitR : PySem.W.kitOne K (.ref C) (.type "tuple") = some false
  kitS : PySem.W.kitOne K (.ref C) (.type "str") = some false
  kit_NoneType : PySem.W.kitOne K (.type "NoneType") (.ref C) = some false
  kit_int : PySem.W.kitOne K (.type "int") (.ref C) = some false
  kit_bool : PySem.W.kitOne K (.type "bool") (.ref C) = some false
  kit_str : PySem.W.kitOne K (.type "str") (.ref C) = some false
  kit_list : PySem.W.kitOne K (.type "list") (.ref C) = some false
  ca : PySem.W.findIn K (.ref C) "__class__" = some (some (.builtin "object.__class__"))
  cg : PySem.W.specialIn K (.builtin "object.__class__") "__get__" = some (some (.builtin "getset_descriptor.__get__"))
  ct : PySem.W.takesIn K (.builtin "object.__class__") = some true
/-- what the walk asks of the top -/
structure Top (K : PySem.W.Frag) (mg : Str → Option Value) : Prop where
  b_IndexError : mg "IndexError" = none
  b_KeyError : mg "KeyError" = none
  b_TypeError : mg "TypeError" = none
  b_ValueError : mg "ValueError" = none
  b_abs : mg "abs" = none
  b_all : mg "all" = none
  b_bool : mg "bool" = none
  b_classmethod : mg "classmethod" = none
  b_dict : mg "dict" = none
  b_int : mg "int" = none
  b_isinstance : mg "isinstance" = none
  b_len : mg "len" = none
  b_list : mg "list" = none
  b_max : mg "max" = none
  b_min : mg "min" = none
  b_property : mg "property" = none
  b_range : mg "range" = none
  b_repr : mg "repr" = none
  b_set : mg "set" = none
  b_sorted : mg "sorted" = none
  b_str : mg "str" = none
  b_sum : mg "sum" = none
  b_tuple : mg "tuple" = none
  b_zip : mg "zip" = none
  g_MAX_LETTERS : ∃ t, mg "MAX_LETTERS" = some (.int 8 t)
  g__TOO_LONG : ∃ t, mg "_TOO_LONG" = some (.int 1000000000000000000000000000000000000000000000000000000000000 t)
  g_MAX_KINDS : ∃ t, mg "MAX_KINDS" = some (.int 6 t)
  g_MAX_PARTS : ∃ t, mg "MAX_PARTS" = some (.int 3 t)
  g_MAX_DIGIT : ∃ t, mg "MAX_DIGIT" = some (.int 3 t)
  g_MAX_RANKS : ∃ t, mg "MAX_RANKS" = some (.int 400 t)
  g_LOOSE_DIGIT : ∃ t, mg "LOOSE_DIGIT" = some (.int 20 t)
  g__LOOSE_RANKS : ∃ t, mg "_LOOSE_RANKS" = some (.int 402 t)
  d_wall : Def K mg "_wall" "_wall" s_wall ["k"]
  d_is_integer : Def K mg "is_integer" "is_integer" s_is_integer ["value"]
  d_is_count : Def K mg "is_count" "is_count" s_is_count ["value"]
  d_is_name : Def K mg "is_name" "is_name" s_is_name ["value"]
  d_is_sorted : DefK K mg "is_sorted" "is_sorted" s_is_sorted ["value", "most"] 1 ["most"]
  d_words_of : Def K mg "words_of" "words_of" s_words_of ["line"]
  d_names_in : DefK K mg "names_in" "names_in" s_names_in ["text", "most"] 1 ["most"]
  d_text_of : Def K mg "text_of" "text_of" s_text_of ["names"]
  d_is_making : Def K mg "_is_making" "_is_making" s_is_making ["value"]
  d_all_names : Def K mg "_all_names" "_all_names" s_all_names ["leaf", "makings"]
  d_are_kinds : Def K mg "_are_kinds" "_are_kinds" s_are_kinds ["leaf", "makings"]
  d_sums_above : Def K mg "sums_above" "sums_above" s_sums_above ["parts_of", "below"]
  d_sums_by_rank : Def K mg "sums_by_rank" "sums_by_rank" s_sums_by_rank ["leaf", "parts_of", "ranks"]
  d_are_digits : Def K mg "are_digits" "are_digits" s_are_digits ["value"]
  d_are_loose_digits : Def K mg "are_loose_digits" "are_loose_digits" s_are_loose_digits ["value"]
  d_digit_at : Def K mg "digit_at" "digit_at" s_digit_at ["digits", "rank"]
  d_merged : Def K mg "merged" "merged" s_merged ["one", "other"]
  d_check_kinds : Def K mg "_check_kinds" "_check_kinds" s_check_kinds ["kinds"]
  d_check_loose : Def K mg "_check_loose" "_check_loose" s_check_loose ["row"]
  d_is_digit : Def K mg "is_digit" "is_digit" s_is_digit ["value"]
  d_is_loose : Def K mg "is_loose" "is_loose" s_is_loose ["value"]
  d_is_row : Def K mg "is_row" "is_row" s_is_row ["kinds", "value"]
  d_write_digit : Def K mg "write_digit" "write_digit" s_write_digit ["digit"]
  d_read_digit : Def K mg "read_digit" "read_digit" s_read_digit ["text"]
  d_write_row : Def K mg "write_row" "write_row" s_write_row ["row"]
  d_read_row : Def K mg "read_row" "read_row" s_read_row ["text"]
  d_trimmed : Def K mg "trimmed" "trimmed" s_trimmed ["digits"]
  d_keys_of : Def K mg "keys_of" "keys_of" s_keys_of ["kinds", "row"]
  d_trees_of : Def K mg "trees_of" "trees_of" s_trees_of ["row"]
  d_added : Def K mg "added" "added" s_added ["one", "other"]
  d_law_dice : Def K mg "_law_dice" "_law_dice" s_law_dice ["_law_script", "_law_spot"]
  d_law_roll : Def K mg "_law_roll" "_law_roll" s_law_roll ["_law_dice_here", "_law_total"]
  d_law_pick : Def K mg "_law_pick" "_law_pick" s_law_pick ["_law_dice_here", "_law_items"]
  d_law_word_of : Def K mg "_law_word_of" "_law_word_of" s_law_word_of ["_law_call"]
  d_law_right : Def K mg "_law_right" "_law_right" s_law_right ["_law_dice_here", "_law_kinds"]
  d_law_limits_right : Def K mg "_law_limits_right" "_law_limits_right" s_law_limits_right ["_law_dice_here"]
  c_Kinds : ∃ C, Cl_Kinds K mg C
  p_InvalidRow : ∃ C, XPln K mg "InvalidRow" "ValueError.__new__" "ValueError.__init__" [.type "ValueError", .type "Exception", .type "BaseException", .type "object"] C ∧ XCls K C ∧ PySem.W.exmOne K (.ref C) (.ref C) = some true
  p_InvalidKinds : ∃ C, XPln K mg "InvalidKinds" "ValueError.__new__" "ValueError.__init__" [.type "ValueError", .type "Exception", .type "BaseException", .type "object"] C ∧ XCls K C ∧ PySem.W.exmOne K (.ref C) (.ref C) = some true
  x_ParseError : XDef_ParseError K mg
  x_UnknownName : XDef_UnknownName K mg
  x_InvalidNumber : XDef_InvalidNumber K mg
end Kl

set_option maxRecDepth 100000
set_option maxHeartbeats 4000000
namespace Kl
open PySem PySem.Spec PyProof.Rows L2 Gx Mx
section
variable {P : Program} {w : World} {K : PySem.W.Frag} {mg : Str → Option Value} {base : Heap}
/-! ### kinds of values -/
theorem tyx_same {H H' : Hp} (sm : Same H H') {v : V} {t : Value} (h : TyX K H v t) : TyX K H' v t := by
  cases h with
  | base b =>
    cases b with
    | non => exact .base .non
    | bl x => exact .base (.bl x)
    | int i => exact .base (.int i)
    | str x => exact .base (.str x)
    | flt x => exact .base (.flt x)
    | lst e => exact .base (.lst (sm _ _ e))
    | frz e => exact .base (.frz (sm _ _ e))
    | tup e => exact .base (.tup (sm _ _ e))
    | dK e => exact .base (.dK (sm _ _ e))
    | dT e => exact .base (.dT (sm _ _ e))
    | ins e cl ha hn htk hm => exact .base (.ins (sm _ _ e) cl ha hn htk hm)
  | byt b => exact .byt b
  | set e => exact .set (sm _ _ e)
  | kList e c => exact .kList e c
  | kTuple e c => exact .kTuple e c
  | kDict e c => exact .kDict e c
  | fTuple e => exact .fTuple (sm _ _ e)
  | fDict e => exact .fDict (sm _ _ e)
/-- the value is no instance of this built-in class -/
def Not (K : PySem.W.Frag) (H : Hp) (v : V) (T : String) : Prop := ∃ t, TyX K H v t ∧ PySem.W.kitOne K t (.type T) = some false
theorem Not.same {H H' : Hp} (sm : Same H H') {v : V} {T : String} (h : Not K H v T) : Not K H' v T := by
  obtain ⟨t, a, b⟩ := h
  exact ⟨t, tyx_same sm a, b⟩
/-- text, or not -/
def NameArg (K : PySem.W.Frag) (H : Hp) (v : V) : Prop := (∃ z : Str, v = .str z ∧ z.length ≤ sizeLine) ∨ ((∀ z, v ≠ .str z) ∧ Not K H v "str")
theorem NameArg.same {H H' : Hp} (sm : Same H H') {v : V} (h : NameArg K H v) : NameArg K H' v := by
  rcases h with h | ⟨a, b⟩
  · exact .inl h
  · exact .inr ⟨a, b.same sm⟩
/-- int, truth, or neither -/
def IntArg (K : PySem.W.Frag) (H : Hp) (v : V) : Prop := (∃ i, v = .int i) ∨ (∃ b, v = .bl b) ∨ ((∀ i, v ≠ .int i) ∧ Not K H v "int")
theorem IntArg.same {H H' : Hp} (sm : Same H H') {v : V} (h : IntArg K H v) : IntArg K H' v := by
  rcases h with h | h | ⟨a, b⟩
  · exact .inl h
  · exact .inr (.inl h)
  · exact .inr (.inr ⟨a, b.same sm⟩)
/-! ### is_integer, is_count -/
def TEN60 : Int := 1000000000000000000000000000000000000000000000000000000000000
def intV : V → Bool
  | .int i => decide (-TEN60 < i) && decide (i < TEN60)
  | _ => false
def cntV : V → Bool
  | .int i => (decide (-TEN60 < i) && decide (i < TEN60)) && decide (0 ≤ i)
  | _ => false
def spInt (K : PySem.W.Frag) : Sp := fun vs H Q _ => ∃ v : V, vs = [v] ∧ IntArg K H v ∧ Q (.bl (intV v)) H
theorem ok_int {f : Addr} {fd : FuncData} (F : Fun K "is_integer" "is_integer" s_is_integer f fd) (T : Top K mg) : FnOk P w K mg base CX0 1 f fd ["value"] (spInt K) := by
  obtain ⟨tm, gm⟩ := T.g__TOO_LONG
  refine F.ok sc_is_integer (fun vs H Q E h => ?_) (fun cdv A outer s H vs Q E hr h => ?_)
  · obtain ⟨v, rfl, _⟩ := h
    rfl
  · obtain ⟨v, rfl, hv, q⟩ := h
    refine ⟨_, pss_cons (ps_if (PW.pt (pw_or (pt_not (pt_val (pe_callB call_isi (by rfl) T.b_isinstance (by decide +kernel) (pa_cons (pv 0) (pa_cons (pe_bltn (v := .ty "int") (by rfl) T.b_int (by decide +kernel) rfl) pa_nil)))))
          (pw_or1 (pt_val (pe_callB call_isi (by rfl) T.b_isinstance (by decide +kernel) (pa_cons (pv 0) (pa_cons (pe_bltn (v := .ty "bool") (by rfl) T.b_bool (by decide +kernel) rfl) pa_nil)))))))
        (pss_one (ps_ret pe_bl)) pss_nil)
      (pss_one (ps_ret (pe_chain op_lt op_lt (pe_un un_neg (pe_glob (v := .int TEN60) (by rfl) gm ⟨_, rfl⟩)) (pv 0) (pe_glob (v := .int TEN60) (by rfl) gm ⟨_, rfl⟩)))), ?_⟩
    rcases hv with ⟨i, rfl⟩ | ⟨b, rfl⟩ | ⟨hn, t, ht, hk⟩
    · refine ⟨_, rfl, _, .ty "int", .type "int", .type "int", true, rfl, .ty _, .base (.int i), kit_ty (by decide +kernel), true, rfl, ?_⟩
      refine ⟨_, rfl, _, .ty "bool", .type "int", .type "bool", false, rfl, .ty _, .base (.int i), kit_ty (by decide +kernel), false, rfl, ?_⟩
      refine ⟨_, rfl, _, rfl, _, _, rfl, rfl, _, rfl, ?_⟩
      have q' : Q (.bl (decide (-TEN60 < i) && decide (i < TEN60))) H := q
      cases e : decide (-TEN60 < i) with
      | false =>
        rw [e] at q'
        exact q'
      | true =>
        rw [e] at q'
        exact ⟨_, _, rfl, rfl, q'⟩
    · refine ⟨_, rfl, _, .ty "int", .type "bool", .type "int", true, rfl, .ty _, .base (.bl b), kit_ty (by decide +kernel), true, rfl, ?_⟩
      exact ⟨_, rfl, _, .ty "bool", .type "bool", .type "bool", true, rfl, .ty _, .base (.bl b), kit_ty (by decide +kernel), true, rfl, q⟩
    · refine ⟨_, rfl, _, .ty "int", t, .type "int", false, rfl, .ty _, ht, hk, false, rfl, ?_⟩
      have e : intV v = false := by
        cases v with
        | int i => exact absurd rfl (hn i)
        | _ => rfl
      rw [e] at q
      exact q
def spCnt (K : PySem.W.Frag) : Sp := fun vs H Q _ => ∃ v : V, vs = [v] ∧ IntArg K H v ∧ Q (.bl (cntV v)) H
theorem ok_cnt {f : Addr} {fd : FuncData} (F : Fun K "is_count" "is_count" s_is_count f fd) (T : Top K mg) : FnOk P w K mg base CX0 2 f fd ["value"] (spCnt K) := by
  have ci : Cal P w K mg base 1 "is_integer" ["value"] (spInt K) := T.d_is_integer.cal fun f fd F => ok_int F T
  refine F.ok sc_is_count (fun vs H Q E h => ?_) (fun cdv A outer s H vs Q E hr h => ?_)
  · obtain ⟨v, rfl, _⟩ := h
    rfl
  · obtain ⟨v, rfl, hv, q⟩ := h
    refine ⟨_, pss_one (ps_ret (pe_and (pe_cal ci hr (by rfl) (pa_cons (pv 0) pa_nil)) (pe_one (pe_cmpR op_ge (pv 0) pe_int (nomark _))))), ?_⟩
    refine ⟨_, rfl, v, rfl, hv, _, rfl, ?_⟩
    cases v with
    | int i =>
      have q' : Q (.bl (intV (.int i) && decide (0 ≤ i))) H := q
      cases e : intV (.int i) with
      | false =>
        rw [e] at q'
        exact q'
      | true =>
        rw [e] at q'
        exact ⟨_, rfl, _, _, rfl, rfl, q'⟩
    | _ => exact q
/-! ### is_name -/
def nameV : V → Bool
  | .str z => nameB z
  | _ => false
def spName (K : PySem.W.Frag) : Sp := fun vs H Q _ => ∃ v : V, vs = [v] ∧ NameArg K H v ∧ Q (.bl (nameV v)) H
theorem nameV_no {v : V} (h : ∀ z, v ≠ .str z) : nameV v = false := by
  cases v with
  | str z => exact absurd rfl (h z)
  | _ => rfl
theorem ok_name {f : Addr} {fd : FuncData} (F : Fun K "is_name" "is_name" s_is_name f fd) (T : Top K mg) : FnOk P w K mg base CX0 1 f fd ["value"] (spName K) := by
  obtain ⟨tm, gm⟩ := T.g_MAX_LETTERS
  refine F.ok sc_is_name (fun vs H Q E h => ?_) (fun cdv A outer s H vs Q E hr h => ?_)
  · obtain ⟨v, rfl, _⟩ := h
    rfl
  · obtain ⟨v, rfl, hv, q⟩ := h
    refine ⟨_, pss_cons (ps_if (PW.pt (pw_or (pt_not (pt_val (pe_callB call_isi (by rfl) T.b_isinstance (by decide +kernel) (pa_cons (pv 0) (pa_cons (pe_bltn (v := .ty "str") (by rfl) T.b_str (by decide +kernel) rfl) pa_nil)))))
          (pw_or1 (pt_not (pt_chain op_le op_le pe_int (pe_callB call_len_str (by rfl) T.b_len PySem.boot_len (pa_cons (pv 0) pa_nil)) (pe_glob (v := .int 8) (by rfl) gm ⟨_, rfl⟩))))))
        (pss_one (ps_ret pe_bl)) pss_nil)
      (pss_one (ps_ret (pe_and (pe_m0 PySem.F.slot_str_isascii PySem.F.type_str_isascii mt_isascii (pv 0))
        (pe_and (pe_m0 PySem.F.slot_str_isalpha PySem.F.type_str_isalpha mt_isalpha (pv 0)) (pe_one (pe_m0 PySem.F.slot_str_islower PySem.F.type_str_islower mt_islower (pv 0))))))), ?_⟩
    rcases hv with ⟨z, rfl, hz⟩ | ⟨hn, t, ht, hk⟩
    · have q' : Q (.bl (nameB z)) H := q
      refine ⟨_, rfl, _, .ty "str", .type "str", .type "str", true, rfl, .ty _, .base (.str z), kit_ty (by decide +kernel), true, rfl, ?_⟩
      refine ⟨_, rfl, _, rfl, hz, _, _, rfl, rfl, _, rfl, ite2 (fun e1 => ?_) (fun e1 => ?_)⟩
      · have h1 : 1 ≤ z.cps.size := by
          have e2 : (1 : Int) ≤ (z.length : Int) := of_decide_eq_true e1
          have e3 : z.length = z.cps.size := rfl
          omega
        refine ⟨_, _, rfl, rfl, _, rfl, ?_⟩
        have e3 : decide ((z.length : Int) ≤ 8) = decide (z.cps.size ≤ 8) := decide_eq_decide.mpr (by
          have e3 : z.length = z.cps.size := rfl
          omega)
        by_cases h8 : z.cps.size ≤ 8
        · have e4 : decide ((z.length : Int) ≤ 8) = true := e3.trans (decide_eq_true h8)
          rw [e4]
          have e5 : nameB z = (Txt.isascii z && (Txt.isalpha z && Txt.islower z)) := by
            rw [name_by z h1]
            unfold nameB
            rw [decide_eq_true h1, decide_eq_true h8, Bool.true_and, Bool.true_and]
          rw [e5] at q'
          refine ⟨_, rfl, ⟨_, rfl⟩, z, rfl, rfl, trivial, _, rfl, ?_⟩
          cases a1 : Txt.isascii z with
          | false =>
            rw [a1] at q'
            exact q'
          | true =>
            rw [a1] at q'
            refine ⟨_, rfl, ⟨_, rfl⟩, z, rfl, rfl, trivial, _, rfl, ?_⟩
            cases a2 : Txt.isalpha z with
            | false =>
              rw [a2] at q'
              exact q'
            | true =>
              rw [a2] at q'
              exact ⟨_, rfl, ⟨_, rfl⟩, z, rfl, rfl, trivial, q'⟩
        · have e4 : decide ((z.length : Int) ≤ 8) = false := e3.trans (decide_eq_false h8)
          rw [e4]
          show Q (.bl false) H
          have e5 : nameB z = false := by
            unfold nameB
            rw [decide_eq_false h8, Bool.and_false, Bool.false_and]
          rw [← e5]
          exact q'
      · have h1 : ¬ 1 ≤ z.cps.size := fun h => e1 (decide_eq_true (by
          have e3 : z.length = z.cps.size := rfl
          omega))
        refine ⟨_, rfl, ?_⟩
        show Q (.bl false) H
        have e5 : nameB z = false := by
          unfold nameB
          rw [decide_eq_false h1, Bool.false_and, Bool.false_and]
        rw [← e5]
        exact q'
    · refine ⟨_, rfl, _, .ty "str", t, .type "str", false, rfl, .ty _, ht, hk, false, rfl, ?_⟩
      rw [nameV_no hn] at q
      exact q
end
end Kl

set_option maxRecDepth 100000
set_option maxHeartbeats 4000000
namespace Kl
open PySem PySem.Spec PyProof.Rows L2 Gx Mx
/-! ### kinds and their makings: the mathematics -/
abbrev Mak := List (Str × List Str)
/-- the names that are drawn -/
def POOL : List Str := ["a", "b", "ab", "c", "leaf", "zzzzzzzz", "d", "e", "f", "aa", "page", "to"]
theorem pool_names : POOL.all nameB = true := by decide +kernel
theorem pool_short : POOL.all (fun z => decide (z.length ≤ 8)) = true := by decide +kernel
theorem pool_nd : POOL.Nodup := by decide +kernel
theorem pool_name {z : Str} (h : z ∈ POOL) : nameB z = true := List.all_eq_true.mp pool_names z h
theorem pool_len {z : Str} (h : z ∈ POOL) : z.length ≤ 8 := of_decide_eq_true (List.all_eq_true.mp pool_short z h)
def keysOf (M : Mak) : List Str := M.map (·.1)
/-- these are kinds of drawn names -/
structure Vld (leaf : Str) (M : Mak) : Prop where
  lf : leaf ∈ POOL
  keys : ∀ z ∈ keysOf M, z ∈ POOL
  nd : (keysOf M).Nodup
  parts : ∀ m ∈ M, sortedS m.2 = true ∧ 2 ≤ m.2.length ∧ m.2.length ≤ 3 ∧ ∀ p ∈ m.2, p = leaf ∨ p ∈ keysOf M
  few : ∀ ns : List Str, ns.Nodup → (∀ z ∈ ns, z = leaf ∨ z ∈ keysOf M) → ns.length ≤ 6
theorem Vld.part {leaf : Str} {M : Mak} (v : Vld leaf M) {m : Str × List Str} (hm : m ∈ M) {p : Str} (hp : p ∈ m.2) : p ∈ POOL := by
  rcases (v.parts m hm).2.2.2 p hp with rfl | h
  · exact v.lf
  · exact v.keys p h
theorem Vld.len {leaf : Str} {M : Mak} (v : Vld leaf M) : M.length ≤ 6 := by
  have h := v.few (keysOf M) v.nd fun z hz => .inr hz
  unfold keysOf at h
  rw [List.length_map] at h
  exact h
/-- the ascending names of kinds -/
structure IsNames (leaf : Str) (ks ns : List Str) : Prop where
  srt : sortedS ns = true
  nd : ns.Nodup
  mem : ∀ z, z ∈ ns ↔ z = leaf ∨ z ∈ ks
theorem sorted_same {l m : List Str} (hl : sortedS l = true) (hm : sortedS m = true) (dl : l.Nodup) (dm : m.Nodup) (e : ∀ z, z ∈ l ↔ z ∈ m) : l = m :=
  sortedS_unique ((List.perm_ext_iff_of_nodup dl dm).mpr e) hl hm
theorem IsNames.unique {leaf : Str} {ks ks' ns ms : List Str} (h : IsNames leaf ks ns) (h' : IsNames leaf ks' ms) (e : ∀ z, z ∈ ks ↔ z ∈ ks') : ns = ms :=
  sorted_same h.srt h'.srt h.nd h'.nd fun z => by rw [h.mem, h'.mem, e]
theorem sortedS_sub {l m : List Str} (h : sortedS m = true) (s : l.Sublist m) : sortedS l = true := (sortedS_iff l).mpr (((sortedS_iff m).mp h).sublist s)
/-! ### makings looked up -/
def lookM (M : Mak) (z : Str) : Option (List Str) := (M.find? fun m => decide (m.1 = z)).map (·.2)
theorem lookM_cons (m : Str × List Str) (M : Mak) (z : Str) : lookM (m :: M) z = if m.1 = z then some m.2 else lookM M z := by
  unfold lookM
  rw [List.find?_cons]
  by_cases h : m.1 = z
  · rw [if_pos h, decide_eq_true h]
    rfl
  · rw [if_neg h, decide_eq_false h]
theorem lookM_mem {M : Mak} (nd : (keysOf M).Nodup) {m : Str × List Str} (h : m ∈ M) : lookM M m.1 = some m.2 := by
  induction M with
  | nil => cases h
  | cons x M ih =>
    have nd' : (x.1 :: keysOf M).Nodup := nd
    rw [List.nodup_cons] at nd'
    rw [lookM_cons]
    rcases List.mem_cons.mp h with rfl | h
    · rw [if_pos rfl]
    · rw [if_neg fun e => nd'.1 (by rw [e]; exact List.mem_map.mpr ⟨m, h, rfl⟩)]
      exact ih nd'.2 h
theorem lookM_some {M : Mak} {z : Str} {ps : List Str} (h : lookM M z = some ps) : (z, ps) ∈ M := by
  induction M with
  | nil => cases h
  | cons x M ih =>
    rw [lookM_cons] at h
    by_cases e : x.1 = z
    · rw [if_pos e] at h
      cases h
      rw [← e]
      exact List.mem_cons_self
    · rw [if_neg e] at h
      exact List.mem_cons_of_mem _ (ih h)
theorem lookM_none {M : Mak} {z : Str} : lookM M z = none ↔ z ∉ keysOf M := by
  induction M with
  | nil => exact ⟨(fun _ h => nomatch h), fun _ => rfl⟩
  | cons x M ih =>
    rw [lookM_cons]
    show _ ↔ z ∉ x.1 :: keysOf M
    rw [List.mem_cons, not_or]
    by_cases e : x.1 = z
    · rw [if_pos e]
      exact ⟨(fun h => nomatch h), fun h => absurd e.symm h.1⟩
    · rw [if_neg e, ih]
      exact ⟨fun h => ⟨fun q => e q.symm, h⟩, fun h => h.2⟩
theorem lookM_in {M : Mak} {z : Str} (h : z ∈ keysOf M) : ∃ ps, lookM M z = some ps := by
  cases e : lookM M z with
  | none => exact absurd h (lookM_none.mp e)
  | some ps => exact ⟨ps, rfl⟩
/-- M' is M, ascending by its keys -/
structure OrdOf (M M' : Mak) : Prop where
  srt : sortedS (keysOf M') = true
  nd : (keysOf M').Nodup
  look : ∀ z, lookM M' z = lookM M z
theorem OrdOf.keys {M M' : Mak} (h : OrdOf M M') (z : Str) : z ∈ keysOf M' ↔ z ∈ keysOf M := by
  have e := h.look z
  constructor
  · intro q
    obtain ⟨ps, hp⟩ := lookM_in q
    rw [hp] at e
    cases c : decide (z ∈ keysOf M) with
    | true => exact of_decide_eq_true c
    | false =>
      rw [lookM_none.mpr (of_decide_eq_false c)] at e
      cases e
  · intro q
    obtain ⟨ps, hp⟩ := lookM_in q
    rw [hp] at e
    cases c : decide (z ∈ keysOf M') with
    | true => exact of_decide_eq_true c
    | false =>
      rw [lookM_none.mpr (of_decide_eq_false c)] at e
      cases e
theorem mak_of_keys {M : Mak} (nd : (keysOf M).Nodup) : M = (keysOf M).map fun z => (z, (lookM M z).getD []) := by
  unfold keysOf
  rw [List.map_map]
  refine (List.map_id M).symm.trans (List.map_congr_left fun m hm => ?_)
  show m = (m.1, (lookM M m.1).getD [])
  rw [lookM_mem nd hm]
  rfl
theorem OrdOf.eq {M M' : Mak} (h : OrdOf M M') {ys : List Str} (hs : sortedS ys = true) (hp : ys.Perm (keysOf M)) (nd : (keysOf M).Nodup) : M' = ys.map fun z => (z, (lookM M z).getD []) := by
  have e : keysOf M' = ys := sorted_same h.srt hs h.nd (hp.nodup_iff.mpr nd) fun z => by rw [h.keys, hp.mem_iff]
  rw [mak_of_keys h.nd, e]
  exact List.map_congr_left fun z _ => by rw [h.look]
theorem OrdOf.mk' {M : Mak} {ys : List Str} (hs : sortedS ys = true) (hp : ys.Perm (keysOf M)) (nd : (keysOf M).Nodup) : OrdOf M (ys.map fun z => (z, (lookM M z).getD [])) := by
  have ek : keysOf (ys.map fun z => (z, (lookM M z).getD [])) = ys := by
    unfold keysOf
    rw [List.map_map]
    exact List.map_id ys
  have dy : ys.Nodup := hp.nodup_iff.mpr nd
  refine ⟨by rw [ek]; exact hs, by rw [ek]; exact dy, fun z => ?_⟩
  by_cases h : z ∈ ys
  · have h1 := lookM_mem (M := ys.map fun z => (z, (lookM M z).getD [])) (by rw [ek]; exact dy) (List.mem_map.mpr ⟨z, h, rfl⟩)
    obtain ⟨ps, q⟩ := lookM_in (hp.mem_iff.mp h)
    rw [h1, q]
    rfl
  · rw [lookM_none.mpr (by rw [ek]; exact h), lookM_none.mpr fun q => h (hp.mem_iff.mpr q)]
theorem OrdOf.vld {leaf : Str} {M M' : Mak} (h : OrdOf M M') (v : Vld leaf M) : Vld leaf M' := by
  refine ⟨v.lf, fun z hz => v.keys z ((h.keys z).mp hz), h.nd, fun m hm => ?_, fun ns hn hs => v.few ns hn fun z hz => (hs z hz).imp id (h.keys z).mp⟩
  have e := h.look m.1
  rw [lookM_mem h.nd hm] at e
  obtain ⟨h1, h2, h3, h4⟩ := v.parts (m.1, m.2) (lookM_some e.symm)
  exact ⟨h1, h2, h3, fun p hp => (h4 p hp).imp id (h.keys p).mpr⟩
/-! ### what is told of kinds -/
def lineK (n : Str) (ps : List Str) : Str := (("kind " : Str) ++ n ++ " ") ++ Txt.join "+" ps
def linesK (leaf : Str) (M : Mak) : List Str := (("leaf " : Str) ++ leaf) :: M.map fun m => lineK m.1 m.2
def usersK (M : Mak) (z : Str) : List Str := (M.filter fun m => decide (z ∈ m.2)).map (·.1)
def partedK (ps : List Str) (z : Str) : List Str := ps.take (ps.idxOf z) ++ ps.drop (ps.idxOf z + 1)
/-- the users by the names and the makings in any order -/
theorem users_by {leaf : Str} {M M' : Mak} {ns : List Str} (h : OrdOf M M') (hn : IsNames leaf (keysOf M) ns) (z : Str) : ns.filter (fun u => decide (z ∈ (lookM M u).getD [])) = usersK M' z := by
  have e : usersK M' z = (keysOf M').filter fun u => decide (z ∈ (lookM M u).getD []) := by
    unfold usersK keysOf
    rw [List.filter_map]
    refine congrArg _ (List.filter_congr fun m hm => ?_)
    show decide (z ∈ m.2) = decide (z ∈ (lookM M m.1).getD [])
    rw [← h.look, lookM_mem h.nd hm]
    rfl
  rw [e]
  refine sorted_same (sortedS_sub hn.srt List.filter_sublist) (sortedS_sub h.srt List.filter_sublist) (hn.nd.sublist List.filter_sublist) (h.nd.sublist List.filter_sublist) fun u => ?_
  rw [List.mem_filter, List.mem_filter, hn.mem, h.keys]
  constructor
  · rintro ⟨h1, h2⟩
    refine ⟨?_, h2⟩
    cases c : decide (u ∈ keysOf M) with
    | true => exact of_decide_eq_true c
    | false =>
      rw [lookM_none.mpr (of_decide_eq_false c)] at h2
      exact absurd (of_decide_eq_true h2) (by simp)
  · rintro ⟨h1, h2⟩
    exact ⟨.inr h1, h2⟩
/-! ### makings in the heap -/
/-- a tuple in the heap whose object has no dict of its own -/
def TupZ (H : Hp) (a : Addr) (xs : List V) : Prop := ∃ ob : Obj, ob.dict = none ∧ H a = some (.frz ob (.tup xs))
theorem TupZ.sq {K : PySem.W.Frag} {H : Hp} {a : Addr} {xs : List V} (h : TupZ H a xs) : SqT K H a xs := by
  obtain ⟨ob, _, e⟩ := h
  exact .inl (.inr ⟨ob, e⟩)
theorem TupZ.ty {K : PySem.W.Frag} {H : Hp} {a : Addr} {xs : List V} (h : TupZ H a xs) : TyX K H (.ref a) (.type "tuple") := by
  obtain ⟨ob, _, e⟩ := h
  exact .fTuple e
theorem TupZ.at {H H' : Hp} {a : Addr} {xs : List V} (h : TupZ H a xs) (s : ∀ o, H a = some o → H' a = some o) : TupZ H' a xs := by
  obtain ⟨ob, d, e⟩ := h
  exact ⟨ob, d, s _ e⟩
theorem TupZ.mono {H H' : Hp} {a : Addr} {xs : List V} (h : TupZ H a xs) (s : Same H H') : TupZ H' a xs := h.at fun o e => s _ _ e
theorem TupZ.ne {H : Hp} {a b : Addr} {xs : List V} (h : TupZ H a xs) {o : HO} (e : H b = some o) (n : ∀ ob, o ≠ .frz ob (.tup xs)) : a ≠ b := fun z => by
  obtain ⟨ob, _, q⟩ := h
  rw [z, e] at q
  exact n ob (Option.some.inj q)
def MakAt (H : Hp) (kvs : List (Key × V)) (M : Mak) : Prop := Paired (fun (kv : Key × V) (m : Str × List Str) => kv.1 = Sum.inr m.1 ∧ ∃ a, kv.2 = .ref a ∧ TupZ H a (m.2.map V.str)) kvs M
theorem MakAt.same {H H' : Hp} {kvs : List (Key × V)} {M : Mak} (h : MakAt H kvs M) (s : ∀ a xs, TupZ H a xs → TupZ H' a xs) : MakAt H' kvs M := by
  unfold MakAt at h ⊢
  induction h with
  | nil => exact .nil
  | cons h _ ih =>
    obtain ⟨h1, a, h2, h3⟩ := h
    exact .cons ⟨h1, a, h2, s a _ h3⟩ ih
theorem MakAt.len {H : Hp} {kvs : List (Key × V)} {M : Mak} (h : MakAt H kvs M) : kvs.length = M.length := Paired.length h
theorem MakAt.keys {H : Hp} {kvs : List (Key × V)} {M : Mak} (h : MakAt H kvs M) : kvs.map (·.1) = (keysOf M).map Sum.inr := by
  unfold MakAt at h
  induction h with
  | nil => rfl
  | cons h _ ih =>
    exact congr (congrArg List.cons h.1) ih
theorem MakAt.get {H : Hp} {kvs : List (Key × V)} {M : Mak} (h : MakAt H kvs M) (z : Str) : (lookM M z = none ∧ valV kvs (Sum.inr z) = none) ∨ ∃ ps a, lookM M z = some ps ∧ valV kvs (Sum.inr z) = some (.ref a) ∧ TupZ H a (ps.map V.str) := by
  unfold MakAt at h
  induction h with
  | nil => exact .inl ⟨rfl, rfl⟩
  | @cons kv m kvs M h _ ih =>
    obtain ⟨h1, a, h2, h3⟩ := h
    rw [lookM_cons]
    by_cases e : m.1 = z
    · rw [if_pos e, valV_pos (by rw [h1, e])]
      exact .inr ⟨m.2, a, rfl, by rw [h2], h3⟩
    · rw [if_neg e, valV_neg (by rw [h1]; exact fun q => e (Sum.inr.inj q))]
      exact ih
theorem MakAt.at {H : Hp} {kvs : List (Key × V)} {M : Mak} (h : MakAt H kvs M) {i : Nat} {k : Key} {v : V} (e : kvs[i]? = some (k, v)) : ∃ m a, M[i]? = some m ∧ k = Sum.inr m.1 ∧ v = .ref a ∧ TupZ H a (m.2.map V.str) := by
  unfold MakAt at h
  induction h generalizing i with
  | nil => cases e
  | @cons kv m kvs M h _ ih =>
    cases i with
    | zero =>
      cases e
      obtain ⟨h1, a, h2, h3⟩ := h
      exact ⟨m, a, rfl, h1, h2, h3⟩
    | succ i => exact ih e
theorem MakAt.key {H : Hp} {kvs : List (Key × V)} {M : Mak} (h : MakAt H kvs M) {z : Str} (hz : z ∈ keysOf M) : ∃ ps a, lookM M z = some ps ∧ valV kvs (Sum.inr z) = some (.ref a) ∧ TupZ H a (ps.map V.str) := by
  rcases h.get z with ⟨e, _⟩ | h
  · exact absurd hz (lookM_none.mp e)
  · exact h
/-- kinds with this leaf and these makings stand at x, their dict at md, their names ns -/
def KindsAt (C : Addr) (H : Hp) (x md : Addr) (leaf : Str) (M : Mak) (ns : List Str) : Prop :=
  ∃ dx nt kvs, H x = some (.ins C dx [("_leaf", .str leaf), ("_makings", .ref md), ("_names", .ref nt)]) ∧ H md = some (.dK kvs) ∧ MakAt H kvs M ∧ H nt = some (.tup (ns.map V.str))
theorem KindsAt.keep {C : Addr} {H H' : Hp} {x md e : Addr} {leaf : Str} {M : Mak} {ns : List Str} (h : KindsAt C H x md leaf M ns) (s : ∀ b o, b ≠ e → H b = some o → H' b = some o) (n1 : x ≠ e) (n2 : md ≠ e) (n3 : ∀ xs, H e ≠ some (.tup xs)) (n4 : ∀ xs, ¬ TupZ H e xs) : KindsAt C H' x md leaf M ns := by
  obtain ⟨dx, nt, kvs, h1, h2, h3, h4⟩ := h
  have t : ∀ a xs, H a = some (.tup xs) → H' a = some (.tup xs) := fun a xs q => s a _ (fun z => n3 xs (z ▸ q)) q
  exact ⟨dx, nt, kvs, s _ _ n1 h1, s _ _ n2 h2, h3.same fun a xs q => q.at fun o e' => s _ _ (fun z => n4 xs (z ▸ q)) e', t _ _ h4⟩
theorem KindsAt.same {C : Addr} {H H' : Hp} {x md : Addr} {leaf : Str} {M : Mak} {ns : List Str} (h : KindsAt C H x md leaf M ns) (s : Same H H') : KindsAt C H' x md leaf M ns := by
  obtain ⟨dx, nt, kvs, h1, h2, h3, h4⟩ := h
  exact ⟨dx, nt, kvs, s _ _ h1, s _ _ h2, h3.same fun a xs q => q.mono s, s _ _ h4⟩
end Kl

set_option maxRecDepth 100000
set_option maxHeartbeats 4000000
namespace Gx
open PySem PySem.Spec PyProof.Rows L2
/-- the name x is a def called with n values by position and keywords ks, that keeps sp and raises nothing -/
def CalO (P : Program) (w : World) (K : PySem.W.Frag) (mg : Str → Option Value) (base : Heap) (k : Nat) (x : Str) (ps : List Str) (n : Nat) (ks : List Str) (gV : List V → List V → List V) (sp : Sp) : Prop :=
  ∃ (f : Addr) (fd : FuncData) (g : List Value → List Value → List Value), FnOk P w K mg base CX0 k f fd ps sp ∧ PySem.W.keepIn K (.ref f) = true ∧ KBn K fd ps n ks g gV ∧ mg x = some (.ref f)
section
variable {P : Program} {w : World} {K : PySem.W.Frag} {mg : Str → Option Value} {base : Heap}
theorem DefK.calO {x qual : Str} {st : Stmt} {ps ks : List Str} {n : Nat} (d : DefK K mg x qual st ps n ks) {k : Nat} {sp : Sp} (h : ∀ f fd, Fun K x qual st f fd → FnOk P w K mg base CX0 k f fd ps sp) : CalO P w K mg base k x ps n ks (fun vs zs => vs ++ zs) sp := by
  obtain ⟨f, fd, F, b, g⟩ := d
  exact ⟨f, fd, _, h f fd F, F.kp, b, g⟩
theorem CalO.mono {x : Str} {ps ks : List Str} {n j k : Nat} {gV : List V → List V → List V} {sp : Sp} (c : CalO P w K mg base j x ps n ks gV sp) (h : j ≤ k) : CalO P w K mg base k x ps n ks gV sp := by
  obtain ⟨f, fd, g, F, more⟩ := c
  exact ⟨f, fd, g, F.mono h, more⟩
end
section
variable {X : Cx}
def tClO (n m : Nat) (sp : Sp) (gV : List V → List V → List V) (t tk : TA) : TE := fun σ H Q => t σ H fun vs H1 => tk σ H1 fun zs H2 => vs.length = n ∧ zs.length = m ∧ sp (gV vs zs) H2 Q E0
theorem pe_calO {x : Str} {ps ks : List Str} {n : Nat} {gV : List V → List V → List V} {sp : Sp} {k : Nat} {e : Expr} {es : List Expr} {kws : List Keyword} {t tk : TA} {p pos : Pos} (c : CalO X.prog X.w X.K X.mg X.base k x ps n ks gV sp) (room : Room k X.A) (hg : Gl X x)
    (h : PA X (e :: es) t) (hk : PK X kws tk) (hall : (backToKw pos (keywordEach kws X.env)).all (·.1.isSome) = true := by rfl) (hks : (backToKw pos (keywordEach kws X.env)).filterMap (·.1) = ks := by rfl)
    (hdb : (x == ("__debug__" : Str)) = false := by decide) (hst : starEach (e :: es) X.env = (false, eval e X.env) :: starEach es X.env := by rfl)
    (hpl : ((backTo pos (starEach (e :: es) X.env)).any (·.1) || (backToKw pos (keywordEach kws X.env)).any (·.1.isNone)) = false := by rfl) :
    PE X (.Call (.Name x p) (e :: es) kws pos) (tClO n ks.length sp gV t tk) := by
  obtain ⟨f, fd, gg, F, kp, b, hm⟩ := c
  refine ⟨fun pins s σ H Q I want => wpAny_Call_Name_kw (ld_glob I hg hm ?_ hdb)⟩
  refine PySem.W.callWith_KW (h₀ := X.base) I.ok.mod.kin kp hall (thn (h.run pos pins s σ H _ I want) ?_) hpl hst
  rintro us s1 ⟨vs, H1, I1, r, q⟩
  refine thn (hk.run pos pins s1 σ H1 _ I1 q) ?_
  rintro ws s2 ⟨zs, H2, I2, rz, l1, l2, q2⟩
  refine ⟨I2.kIn, ?_⟩
  rw [hks]
  have rel := b.rel r rz
  have bt := b.to s2 us ws I2.kIn (r.length.symm.trans l1) (rz.length.symm.trans l2)
  refine wpAny_call (codeAny_mono (F.run X.A X.stack s2 H2 ⟨us, ks.zip ws⟩ _ _ Q E0 room I2.env0 bt rel q2) fun res s' hres => ?_)
  match res, hres with
  | .error e, hres => exact hres.elim
  | .ok (.ret u), hres => exact I2.after hres
end
/-! ### rules within comprehensions, the written part named -/
section
variable {X : Cx} {K : PySem.W.Frag}
theorem pi_tupK {tg l : Expr} {tl : TE} (hk : X.K = K) (hl : PE X l tl) : PI X tg l (iTup K tl) := by
  subst hk
  exact pi_tup hl
theorem pi_listK {tg l : Expr} {tl : TE} (hk : X.K = K) (hl : PE X l tl) : PI X tg l (iList K tl) := by
  subst hk
  exact pi_list hl
theorem op_inSeqK (hk : X.K = K) : OpR X (compareOp .In) (rIn K false) := by
  subst hk
  exact op_in_seq
end
/-- a walk's bookkeeping, whatever its turn does -/
theorem walk_in {J : It} {n : Nat} {G : Hp → Prop} {Y : Nat → Hp → V → Hp → Prop} (w : Walk J n G Y) {H0 : Hp} {Qd : Hp → Prop} {body : V → Hp → (Hp → Prop) → Prop} (Pv : Nat → Hp → Prop) (h0 : Pv 0 H0) (hG : ∀ i H, i ≤ n → Pv i H → G H)
    (hs : ∀ i x H H', i < n → Pv i H → Y i H x H' → body x H' (Pv (i + 1))) (hd : ∀ H, Pv n H → Qd H) :
    ∃ W : Nat → Nat → Hp → Prop, (∃ m, W 0 m H0) ∧ ∀ i m H, W i m H → (J.stop i H ∧ Qd H) ∨ (J.go i H ∧ ∃ Nx : Hp → Prop, (∀ H', Nx H' → ∃ m', m' < m ∧ W (i + 1) m' H') ∧ ∀ x H', J.yld i H x H' → body x H' Nx) := by
  refine ⟨fun i m H => m = n - i ∧ i ≤ n ∧ Pv i H, ⟨n, (Nat.sub_zero n).symm, Nat.zero_le _, h0⟩, ?_⟩
  rintro i m H ⟨rfl, hi, p⟩
  have q := hG i H hi p
  rcases Nat.lt_or_ge i n with lt | ge
  · exact .inr ⟨w.goes i H lt q, Pv (i + 1), fun H' p' => ⟨n - (i + 1), by omega, rfl, lt, p'⟩, fun x H' y => hs i x H H' lt p (w.yields i H x H' lt q y)⟩
  · obtain rfl : i = n := Nat.le_antisymm hi ge
    exact .inl ⟨w.stops H q, hd H p⟩
end Gx
namespace Kl
open PySem PySem.Spec PyProof.Rows L2 Gx Mx
section
variable {P : Program} {w : World} {K : PySem.W.Frag} {mg : Str → Option Value} {base : Heap}
/-! ### is_sorted of texts -/
def spSorted (K : PySem.W.Frag) : Sp := fun vs H Q _ => ∃ (p : Addr) (zs : List Str) (M : Int), vs = [.ref p, .int M] ∧ SqT K H p (zs.map V.str) ∧ TyX K H (.ref p) (.type "tuple") ∧ 0 ≤ M ∧ M ≤ 100 ∧ zs.length ≤ 1000 ∧ (∀ z ∈ zs, z.length ≤ 1000) ∧
  ∀ H', Same H H' → Q (.bl (decide ((zs.length : Int) ≤ M) && (zs.all nameB && sortedS zs))) H'
theorem names_low {z : Str} (h : nameB z = true) : PyData.strOk z = true := by
  unfold nameB at h
  rw [Bool.and_eq_true] at h
  show z.cps.all _ = true
  rw [Array.all_eq_true']
  intro c hc
  have := List.all_eq_true.mp h.2 c (Array.mem_toList_iff.mpr hc)
  exact decide_eq_true (Nat.lt_trans (isLow_lt this) (by decide))
theorem ok_sorted {f : Addr} {fd : FuncData} (F : Fun K "is_sorted" "is_sorted" s_is_sorted f fd) (T : Top K mg) : FnOk P w K mg base CX0 3 f fd ["value", "most"] (spSorted K) := by
  have cc : Cal P w K mg base 2 "is_count" ["value"] (spCnt K) := T.d_is_count.cal fun f fd F => ok_cnt F T
  have cn : Cal P w K mg base 2 "is_name" ["value"] (spName K) := (T.d_is_name.cal fun f fd F => ok_name F T).mono (by decide)
  refine F.ok sc_is_sorted (fun vs H Q E h => ?_) (fun cdv A outer s H vs Q E hr h => ?_)
  · obtain ⟨p, zs, M, rfl, _⟩ := h
    rfl
  · obtain ⟨p, zs, M, rfl, hp, hT, hM, hM2, hlen, hz, hq⟩ := h
    refine ⟨_, pss_cons (ps_if (pt_not (pt_val (pe_cal cc hr (by rfl) (pa_cons (pv 1) pa_nil)))) (pss_one ps_never) pss_nil)
      (pss_cons (ps_if (PW.pt (pw_or (pt_not (pt_val (pe_callB call_isi (by rfl) T.b_isinstance (by decide +kernel) (pa_cons (pv 0) (pa_cons (pe_bltn (v := .ty "tuple") (by rfl) T.b_tuple (by decide +kernel) rfl) pa_nil)))))
          (pw_or1 (pt_cmpR op_gt (pe_callB call_len_seq (by rfl) T.b_len PySem.boot_len (pa_cons (pv 0) pa_nil)) (pv 1) (nomark _))))) (pss_one (ps_ret pe_bl)) pss_nil)
      (pss_cons (ps_if (pt_not (pt_val (pe_callB (cr_all rfl) (by rfl) T.b_all (by decide +kernel) (pa_cons (pe_lc (own := [("name", 2)]) (g := gName 2) (tt := tYes) rfl sc_is_sorted.nd (pi_tup (pv 0))
            (blkOk_by (N := ["value", "most", "name"]) (sc := defScope s_is_sorted) (by decide +kernel))
            (fun _ _ _ _ _ => pg_name (i := 2) sc_is_sorted.nd rfl (.inl rfl)) (fun _ _ _ _ _ => pts_nil) (fun _ _ _ _ _ => pe_cal cn hr (by rfl) (pa_cons (pv 2) pa_nil))) pa_nil)))) (pss_one (ps_ret pe_bl)) pss_nil)
      (pss_one (ps_ret (pe_cmpR (op_eqD hr.units) (pe_callTy call_list_of (by rfl) T.b_list (by decide +kernel) (pa_cons (pv 0) pa_nil)) (pe_callB cr_sortedTS (by rfl) T.b_sorted (by decide +kernel) (pa_cons (pv 0) pa_nil)) (nomark _)))))), ?_⟩
    have hc : cntV (.int M) = true := by
      show ((decide (-TEN60 < M) && decide (M < TEN60)) && decide (0 ≤ M)) = true
      rw [decide_eq_true (show -TEN60 < M by unfold TEN60; omega), decide_eq_true (show M < TEN60 by unfold TEN60; omega), decide_eq_true hM]
      rfl
    refine ⟨_, rfl, .int M, rfl, .inl ⟨M, rfl⟩, _, rfl, ?_⟩
    rw [hc]
    refine ⟨_, rfl, _, .ty "tuple", .type "tuple", .type "tuple", true, rfl, .ty _, hT, kit_ty (by decide +kernel), true, rfl, ?_⟩
    refine ⟨_, rfl, p, _, rfl, .inr hp, _, rfl, _, _, rfl, rfl, _, rfl, ite2 (fun e => ?_) (fun e => ?_)⟩
    · have e1 : decide ((zs.length : Int) ≤ M) = false := decide_eq_false (by
        have := of_decide_eq_true e
        rw [List.length_map] at this
        omega)
      rw [e1, Bool.false_and] at hq
      exact hq H (Same.refl H)
    · have e1 : decide ((zs.length : Int) ≤ M) = true := decide_eq_true (by
        have : ¬ (M < ((zs.map V.str).length : Int)) := fun z => e (decide_eq_true z)
        rw [List.length_map] at this
        omega)
      rw [e1, Bool.true_and] at hq
      refine ⟨_, rfl, p, rfl, ⟨_, hp⟩, fun D hD => ?_⟩
      refine lc_tup (xs := zs.map V.str) (fun j H2 => H2 D = some (.lst ((zs.take j).map fun z => V.bl (nameB z))) ∧ Same H H2) ⟨upd_same, fun b u e => by rw [upd_ne (ne_of_none e hD)]; exact e⟩ (fun j H2 _ hP => ?_) (fun j x H2 hj hP => ?_) (fun H2 hP => ?_)
      · rcases hp with (h | ⟨u, h⟩) | h
        · exact .inl (.inl (hP.2 _ _ h))
        · exact .inl (.inr ⟨u, hP.2 _ _ h⟩)
        · exact .inr h
      · obtain ⟨eD, sm⟩ := hP
        obtain ⟨z, hzj, rfl⟩ : ∃ z, zs[j]? = some z ∧ V.str z = x := by
          rw [List.getElem?_map] at hj
          cases e : zs[j]? with
          | none => rw [e] at hj; cases hj
          | some z => rw [e] at hj; exact ⟨z, rfl, by cases hj; rfl⟩
        refine ⟨rfl, _, rfl, _, rfl, .inl ⟨z, rfl, Nat.le_trans (hz z (List.mem_of_getElem? hzj)) (by decide)⟩, _, eD, ?_, ?_, fun b u e => by rw [upd_ne (ne_of_none e hD)]; exact sm b u e⟩
        · rw [List.length_map, List.length_take]
          exact Nat.lt_of_le_of_lt (Nat.le_trans (Nat.min_le_right _ _) hlen) (by decide)
        · rw [upd_same, List.take_add_one, hzj, List.map_append]
          rfl
      · obtain ⟨eD, sm⟩ := hP
        rw [List.length_map, List.take_length] at eD
        refine ⟨D, zs.map nameB, rfl, .inl (.inl (by rw [eD, List.map_map]; rfl)), _, rfl, ?_⟩
        have ea : (zs.map nameB).all id = zs.all nameB := by rw [List.all_map]; rfl
        rw [ea]
        cases hall : zs.all nameB with
        | false =>
          rw [hall, Bool.false_and] at hq
          exact hq _ sm
        | true =>
          rw [hall, Bool.true_and] at hq
          have hok : ∀ z ∈ zs, PyData.strOk z = true := fun z hz => names_low (List.all_eq_true.mp hall z hz)
          have hp2 : SqT K H2 p (zs.map V.str) := by
            rcases hp with (h | ⟨u, h⟩) | h
            · exact .inl (.inl (sm _ _ h))
            · exact .inl (.inr ⟨u, sm _ _ h⟩)
            · exact .inr h
          refine ⟨_, rfl, p, _, rfl, .inr hp2, fun l nl => ?_⟩
          have sm2 : Same H (upd H2 l (.lst (zs.map V.str))) := fun b u e => by rw [upd_ne (ne_of_none (sm b u e) nl)]; exact sm b u e
          have hp3 : SqT K (upd H2 l (.lst (zs.map V.str))) p (zs.map V.str) := by
            rcases hp with (h | ⟨u, h⟩) | h
            · exact .inl (.inl (sm2 _ _ h))
            · exact .inl (.inr ⟨u, sm2 _ _ h⟩)
            · exact .inr h
          refine ⟨_, rfl, p, zs, rfl, hp3, by omega, fun ys l2 hperm hsrt nl2 => ?_⟩
          refine ⟨.list (tD zs), .list (tD ys), ?_, ?_, shaped_texts hok, shaped_texts (fun z hz => hok z (hperm.mem_iff.mp hz)), ?_⟩
          · exact .lst (.inl (.inl (by rw [upd_ne (ne_of_none upd_same nl2), upd_same]))) (dp_texts zs)
          · exact .lst (.inl (.inl upd_same)) (dp_texts ys)
          · rw [PyData.eqv, eqv_texts, eq_sorted_iff hperm hsrt]
            exact hq _ (fun b u e => by rw [upd_ne (ne_of_none (sm2 b u e) nl2)]; exact sm2 b u e)
/-! ### _is_making of a making -/
def spMaking (K : PySem.W.Frag) : Sp := fun vs H Q _ => ∃ (p : Addr) (zs : List Str), vs = [.ref p] ∧ TupZ H p (zs.map V.str) ∧ zs.all nameB = true ∧ sortedS zs = true ∧ 2 ≤ zs.length ∧ zs.length ≤ 3 ∧ (∀ z ∈ zs, z.length ≤ 1000) ∧ ∀ H', Same H H' → Q (.bl true) H'
theorem ok_making {f : Addr} {fd : FuncData} (F : Fun K "_is_making" "_is_making" s_is_making f fd) (T : Top K mg) : FnOk P w K mg base CX0 4 f fd ["value"] (spMaking K) := by
  obtain ⟨tm, gm⟩ := T.g_MAX_PARTS
  have cs : CalO P w K mg base 3 "is_sorted" ["value", "most"] 1 ["most"] (fun vs zs => vs ++ zs) (spSorted K) := T.d_is_sorted.calO fun f fd F => ok_sorted F T
  refine F.ok sc_is_making (fun vs H Q E h => ?_) (fun cdv A outer s H vs Q E hr h => ?_)
  · obtain ⟨p, zs, rfl, _⟩ := h
    rfl
  · obtain ⟨p, zs, rfl, hp, hn, hs, h2, h3, hz, q⟩ := h
    refine ⟨_, pss_one (ps_ret (pe_and (pe_calO cs hr (by rfl) (pa_cons (pv 0) pa_nil) (pk_cons (pe_glob (v := .int 3) (by rfl) gm ⟨_, rfl⟩) pk_nil))
      (pe_one (pe_cmpR op_ge (pe_callB call_len_seq (by rfl) T.b_len PySem.boot_len (pa_cons (pv 0) pa_nil)) pe_int (nomark _))))), ?_⟩
    refine ⟨_, rfl, rfl, rfl, p, zs, 3, rfl, hp.sq, hp.ty, by decide, by decide, by omega, hz, fun H1 s1 => ⟨_, rfl, ?_⟩⟩
    rw [hn, hs, decide_eq_true (show ((zs.length : Int) ≤ 3) by omega)]
    refine ⟨_, rfl, p, _, rfl, .inr (hp.mono s1).sq, _, _, rfl, rfl, ?_⟩
    have e : decide ((2 : Int) ≤ ((zs.map V.str).length : Int)) = true := decide_eq_true (by rw [List.length_map]; omega)
    show Q (.bl (decide ((2 : Int) ≤ ((zs.map V.str).length : Int)))) H1
    rw [e]
    exact q H1 s1
/-! ### _all_names -/
def spNames : Sp := fun vs H Q _ => ∃ (leaf : Str) (md : Addr) (kvs : List (Key × V)) (ks : List Str), vs = [.str leaf, .ref md] ∧ H md = some (.dK kvs) ∧ kvs.map (·.1) = ks.map Sum.inr ∧ ks.length ≤ 100 ∧
  ∀ (ns : List Str) (p : Addr) (H' : Hp), IsNames leaf ks ns → Same H H' → H p = none → H' p = some (.tup (ns.map V.str)) → Q (.ref p) H'
theorem ok_names {f : Addr} {fd : FuncData} (F : Fun K "_all_names" "_all_names" s_all_names f fd) (T : Top K mg) : FnOk P w K mg base CX0 1 f fd ["leaf", "makings"] spNames := by
  refine F.ok sc_all_names (fun vs H Q E h => ?_) (fun cdv A outer s H vs Q E hr h => ?_)
  · obtain ⟨leaf, md, kvs, ks, rfl, _⟩ := h
    rfl
  · obtain ⟨leaf, md, kvs, ks, rfl, hd, hk, hl, q⟩ := h
    refine ⟨_, pss_one (ps_ret (pe_callTy call_tuple_of (by rfl) T.b_tuple (by decide +kernel) (pa_cons (pe_callB (cr_sortedX rfl) (by rfl) T.b_sorted (by decide +kernel) (pa_cons
      (pe_callTy (cr_setX rfl) (by rfl) T.b_set (by decide +kernel) (pa_cons (pe_lst (pa_cons (pv 0) (pa_starD rfl (pv 1) pa_nil))) pa_nil)) pa_nil)) pa_nil))), ?_⟩
    have ek : (kvs.map fun kv => kV kv.1) = ks.map V.str := by
      have e := congrArg (List.map kV) hk
      rw [List.map_map, List.map_map] at e
      exact e
    have lk : kvs.length = ks.length := by
      have e := congrArg List.length hk
      rw [List.length_map, List.length_map] at e
      exact e
    have e1 : [V.str leaf] ++ ((kvs.map fun kv => kV kv.1) ++ []) = ((leaf :: ks).map V.str) := by rw [List.append_nil, ek]; rfl
    refine ⟨_, rfl, _, rfl, md, kvs, rfl, hd, ?_, fun l nl => ?_⟩
    · show (V.str leaf :: ((kvs.map fun kv => kV kv.1) ++ [])).length ≤ sizeLine
      rw [List.length_cons, List.append_nil, List.length_map]
      exact Nat.le_trans (show kvs.length + 1 ≤ 101 by omega) (by decide)
    have s1 : Same H (upd H l (.lst ((leaf :: ks).map V.str))) := fun b u e => by rw [upd_ne (ne_of_none e nl)]; exact e
    have e2 : upd H l (.lst (V.str leaf :: ((kvs.map fun kv => kV kv.1) ++ []))) = upd H l (.lst ((leaf :: ks).map V.str)) := by rw [← e1]; rfl
    rw [e2]
    generalize hH1 : upd H l (.lst ((leaf :: ks).map V.str)) = H1 at s1
    have h1l : H1 l = some (.lst ((leaf :: ks).map V.str)) := by rw [← hH1, upd_same]
    refine ⟨l, leaf :: ks, rfl, .inl (.inl h1l), by show (leaf :: ks).length ≤ 1000; rw [List.length_cons]; omega, fun a na => ?_⟩
    have s2 : Same H (upd H1 a (SetO' P w a (leaf :: ks))) := fun b u e => by rw [upd_ne (ne_of_none (s1 b u e) na)]; exact s1 b u e
    refine ⟨a, leaf :: ks, rfl, upd_same, by show (leaf :: ks).length ≤ 1000; rw [List.length_cons]; omega, fun ys p hs nd hm np => ?_⟩
    have s3 : Same H (upd (upd H1 a (SetO' P w a (leaf :: ks))) p (.lst (ys.map V.str))) := fun b u e => by rw [upd_ne (ne_of_none (s2 b u e) np)]; exact s2 b u e
    refine ⟨p, ys.map V.str, rfl, .inl ⟨.inl (.inl upd_same), fun t nt => ?_⟩⟩
    refine q ys t _ ⟨hs, nd, fun z => (hm z).trans List.mem_cons⟩ (fun b u e => by rw [upd_ne (ne_of_none (s3 b u e) nt)]; exact s3 b u e) ?_ upd_same
    exact s3.free nt
end
end Kl

set_option maxRecDepth 100000
set_option maxHeartbeats 4000000
namespace Kl
open PySem PySem.Spec PyProof.Rows L2 Gx Mx
section
variable {P : Program} {w : World} {K : PySem.W.Frag} {mg : Str → Option Value} {base : Heap}
theorem flat_strs' (zs : List Str) : (zs.map V.str).all flatV = true := by
  rw [List.all_map]
  exact List.all_eq_true.mpr fun _ _ => rfl
theorem inV_strs (z : Str) (zs : List Str) : inV (.str z) (zs.map V.str) = decide (z ∈ zs) := by
  unfold inV
  rw [List.any_map]
  have e : (fun y => eqV y (V.str z)) ∘ V.str = fun y => decide (y = z) := by
    funext y
    show (y == z) = decide (y = z)
    by_cases h : y = z
    · subst h
      rw [decide_eq_true rfl]
      exact beq_self_eq_true y
    · rw [decide_eq_false h]
      exact beq_eq_false_iff_ne.mpr h
  rw [e, Bool.eq_iff_iff, List.any_eq_true, decide_eq_true_eq]
  constructor
  · rintro ⟨y, hy, q⟩
    rw [← of_decide_eq_true q]
    exact hy
  · intro h
    exact ⟨z, h, decide_eq_true rfl⟩
/-! ### _are_kinds of kinds -/
def spAre : Sp := fun vs H Q _ => ∃ (leaf : Str) (md : Addr) (kvs : List (Key × V)) (M : Mak), vs = [.str leaf, .ref md] ∧ H md = some (.dK kvs) ∧ MakAt H kvs M ∧ Vld leaf M ∧ ∀ H', Same H H' → Q (.bl true) H'
theorem all_true (n : Nat) : (List.replicate n true).all id = true := by
  induction n with
  | zero => rfl
  | succ n ih => rw [List.replicate_succ, List.all_cons, ih]; rfl
theorem rep_snoc (j : Nat) : (List.replicate j (V.bl true)) ++ [V.bl true] = List.replicate (j + 1) (V.bl true) := by
  rw [List.replicate_succ', ]
theorem rep_map (n : Nat) : List.replicate n (V.bl true) = (List.replicate n true).map V.bl := by rw [List.map_replicate]
abbrev NA : List Str := ["leaf", "makings", "names", "name", "part"]
theorem ok_are {f : Addr} {fd : FuncData} (F : Fun K "_are_kinds" "_are_kinds" s_are_kinds f fd) (T : Top K mg) : FnOk P w K mg base CX0 5 f fd ["leaf", "makings"] spAre := by
  obtain ⟨tm, gm⟩ := T.g_MAX_KINDS
  have cn : Cal P w K mg base 4 "is_name" ["value"] (spName K) := (T.d_is_name.cal fun f fd F => ok_name F T).mono (by decide)
  have cm : Cal P w K mg base 4 "_is_making" ["value"] (spMaking K) := T.d_is_making.cal fun f fd F => ok_making F T
  have ca : Cal P w K mg base 4 "_all_names" ["leaf", "makings"] spNames := (T.d_all_names.cal fun f fd F => ok_names F T).mono (by decide)
  refine F.ok sc_are_kinds (fun vs H Q E h => ?_) (fun cdv A outer s H vs Q E hr h => ?_)
  · obtain ⟨leaf, md, kvs, M, rfl, _⟩ := h
    rfl
  · obtain ⟨leaf, md, kvs, M, rfl, hd, hM, hV, q⟩ := h
    have hu := hu_of hr
    refine ⟨_, pss_cons (ps_if (PW.pt (pw_or (pt_not (pt_val (pe_cal cn hr (by rfl) (pa_cons (pv 0) pa_nil)))) (pw_or1 (pt_not (pt_val (pe_callB call_isi (by rfl) T.b_isinstance (by decide +kernel) (pa_cons (pv 1) (pa_cons (pe_bltn (v := .ty "dict") (by rfl) T.b_dict (by decide +kernel) rfl) pa_nil))))))))
          (pss_one (ps_ret pe_bl)) pss_nil)
      (pss_cons (ps_if (pt_not (pt_val (pe_callB (cr_all rfl) (by rfl) T.b_all (by decide +kernel) (pa_cons (pe_lock (pe_lc (own := [("name", 3)]) (g := gName 3) (tt := tYes) rfl sc_are_kinds.nd (pi_keys (pv 1))
            (blkOk_by (N := NA) (sc := defScope s_are_kinds) (by decide +kernel)) (fun _ _ _ _ _ => pg_name (i := 3) sc_are_kinds.nd rfl (.inl rfl)) (fun _ _ _ _ _ => pts_nil)
            (fun _ _ _ _ _ => pe_and (pe_cal cn hr (by rfl) (pa_cons (pv 3) pa_nil)) (pe_one (pe_cal cm hr (by rfl) (pa_cons (pe_dget hu (pv 1) (pv 3) (fun _ _ => rfl)) pa_nil)))))) pa_nil)))) (pss_one (ps_ret pe_bl)) pss_nil)
      (pss_cons (ps_set (i := 2) sc_are_kinds.nd rfl (.inr rfl) (pe_cal ca hr (by rfl) (pa_cons (pv 0) (pa_cons (pv 1) pa_nil))))
      (pss_cons (ps_if (pt_cmpR op_gt (pe_callB call_len_seq (by rfl) T.b_len PySem.boot_len (pa_cons (pv 2) pa_nil)) (pe_glob (v := .int 6) (by rfl) gm ⟨_, rfl⟩) (nomark _)) (pss_one (ps_ret pe_bl)) pss_nil)
      (pss_one (ps_ret (pe_callB (cr_all rfl) (by rfl) T.b_all (by decide +kernel) (pa_cons (pe_lock (pe_lc2 (own := [("name", 3), ("part", 4)]) (vs1 := [4]) (g := gName 3) (g1 := gName 4) (tt := tYes) (tt1 := tYes) rfl sc_are_kinds.nd (pi_keys (pv 1))
            (blkOk_by (N := NA) (sc := defScope s_are_kinds) (by decide +kernel)) (by decide) (fun _ _ _ _ _ => pg_name (i := 3) sc_are_kinds.nd rfl (.inl rfl)) (fun _ _ _ _ _ => pts_nil) (fun _ _ _ _ _ => pi_tupK (K := K) (by exact rfl) (pe_dget hu (pv 1) (pv 3) (fun _ _ => rfl)))
            (fun _ _ _ _ _ => pg_name (i := 4) sc_are_kinds.nd rfl (.inl rfl)) (fun _ _ _ _ _ => pts_nil)
            (fun _ _ _ _ _ => pe_cmpR (op_inSeqK (K := K) (by exact rfl)) (pv 4) (pv 2) (by rfl)))) pa_nil))))))), ?_⟩
    have lM := hV.len
    have lk := hM.len
    -- is_name(leaf), isinstance(makings, dict)
    refine ⟨_, rfl, .str leaf, rfl, .inl ⟨leaf, rfl, Nat.le_trans (pool_len hV.lf) (by decide)⟩, _, rfl, ?_⟩
    rw [show nameV (.str leaf) = true from pool_name hV.lf]
    refine ⟨_, rfl, _, .ty "dict", .type "dict", .type "dict", true, rfl, .ty _, .base (.dK hd), kit_ty (by decide +kernel), true, rfl, ?_⟩
    -- all([..])
    refine ⟨md, _, hd, trivial, fun od => ?_⟩
    have dM : ∀ {j : Nat} {m : Str × List Str}, M[j]? = some m → ∀ {H2 : Hp}, Same (upd H md (.frz od (.dK kvs))) H2 → ∃ a, DGet H2 md (.str m.1) (some (.ref a)) ∧ TupZ H2 a (m.2.map V.str) := by
      intro j m hj H2 s2
      obtain ⟨ps, a, e1, e2, e3⟩ := hM.key (z := m.1) (List.mem_map.mpr ⟨m, List.mem_of_getElem? hj, rfl⟩)
      rw [lookM_mem hV.nd (List.mem_of_getElem? hj)] at e1
      cases e1
      have na : a ≠ md := e3.ne hd (fun _ => nofun)
      refine ⟨a, .inl ⟨kvs, Sum.inr m.1, .inr ⟨od, s2 _ _ upd_same⟩, rfl, e2.symm⟩, (e3.at fun o e => by rw [upd_ne na]; exact e).mono s2⟩
    refine ⟨_, rfl, md, od, rfl, .inl ⟨kvs, upd_same, fun D hD => ?_⟩⟩
    refine lc_it walk_keys (fun j H2 => H2 D = some (.lst (List.replicate j (V.bl true))) ∧ Same (upd H md (.frz od (.dK kvs))) H2) ⟨upd_same, fun b u e => by rw [upd_ne (ne_of_none e hD)]; exact e⟩ (fun j H2 _ hP => hP.2 _ _ upd_same) (fun j x H2 H2' hj hP hy => ?_) (fun H2 hP => ?_)
    · obtain ⟨eD, sm⟩ := hP
      obtain ⟨rfl, k, v, hkv, rfl⟩ := hy
      obtain ⟨m, a, hm, rfl, rfl, _⟩ := hM.at hkv
      have hmM := List.mem_of_getElem? hm
      obtain ⟨p1, p2, p3, p4⟩ := hV.parts m hmM
      obtain ⟨a', hg, ha⟩ := dM hm sm
      have hpool : m.1 ∈ POOL := hV.keys _ (List.mem_map.mpr ⟨m, hmM, rfl⟩)
      refine ⟨rfl, _, rfl, .str m.1, rfl, .inl ⟨m.1, rfl, Nat.le_trans (pool_len hpool) (by decide)⟩, _, rfl, ?_⟩
      rw [show nameV (.str m.1) = true from pool_name hpool]
      refine ⟨_, rfl, _, rfl, md, _, rfl, hg, a', m.2, rfl, ha, List.all_eq_true.mpr fun z hz => pool_name (hV.part hmM hz), p1, p2, p3, fun z hz => Nat.le_trans (pool_len (hV.part hmM hz)) (by decide), fun H3 s3 => ?_⟩
      refine ⟨_, s3 _ _ eD, ?_, ?_, fun b u e => by rw [upd_ne (ne_of_none e hD)]; exact s3 _ _ (sm b u e)⟩
      · rw [List.length_replicate]
        exact Nat.lt_of_le_of_lt (show j ≤ 6 by omega) (by decide)
      · rw [upd_same, rep_snoc]
    obtain ⟨eD, sm⟩ := hP
    have s1 := same_unlock hd sm
    refine ⟨sm _ _ upd_same, D, List.replicate kvs.length true, rfl, .inl (.inl ?_), _, rfl, ?_⟩
    · have nD : D ≠ md := fun z => by
        rw [z, upd_same] at hD
        cases hD
      rw [upd_ne nD, eD, rep_map]
    rw [all_true]
    generalize upd H2 md (.dK kvs) = H3 at s1
    have hd3 := s1 _ _ hd
    have hM3 : MakAt H3 kvs M := hM.same fun a xs e => e.mono s1
    -- names
    refine ⟨_, rfl, _, rfl, leaf, md, kvs, keysOf M, rfl, hd3, hM3.keys, by unfold keysOf; rw [List.length_map]; omega, fun ns p H4 hns s4 np hp => ?_⟩
    refine ⟨_, rfl, p, _, rfl, .inr (.inl (.inl hp)), _, _, rfl, rfl, _, rfl, ?_⟩
    have few : ns.length ≤ 6 := hV.few ns hns.nd fun z hz => (hns.mem z).mp hz
    refine ite2 (fun e => ?_) (fun _ => ?_)
    · exfalso
      have e := of_decide_eq_true e
      rw [List.length_map] at e
      omega
    have hd4 := s4 _ _ hd3
    have hM4 : MakAt H4 kvs M := hM3.same fun a xs e => e.mono s4
    have s14 : Same H H4 := fun b u e => s4 _ _ (s1 _ _ e)
    clear hd hM hd3 hM3 s1 s4 hD eD sm dM
    refine ⟨md, _, hd4, trivial, fun od => ?_⟩
    have npm : p ≠ md := fun z => by
      rw [z, hd4] at hp
      cases hp
    refine ⟨_, rfl, md, od, rfl, .inl ⟨kvs, upd_same, fun D hD => ?_⟩⟩
    refine walk_in walk_keys (fun j H2 => ∃ n, H2 D = some (.lst (List.replicate n (V.bl true))) ∧ n ≤ 3 * j ∧ Same (upd H4 md (.frz od (.dK kvs))) H2) ⟨0, upd_same, Nat.zero_le _, fun b u e => by rw [upd_ne (ne_of_none e hD)]; exact e⟩ (fun j H2 _ hP => by obtain ⟨_, _, _, s5⟩ := hP; exact s5 _ _ upd_same) (fun j x H2 H2' hj hP hy => ?_) (fun H2 hP => ?_)
    · obtain ⟨n, eD, ln, sm⟩ := hP
      obtain ⟨rfl, k, v, hkv, rfl⟩ := hy
      obtain ⟨m, a, hm, rfl, rfl, ha⟩ := hM4.at hkv
      have hmM := List.mem_of_getElem? hm
      obtain ⟨p1, p2, p3, p4⟩ := hV.parts m hmM
      have na : a ≠ md := ha.ne hd4 (fun _ => nofun)
      have ha1 : TupZ (upd H4 md (.frz od (.dK kvs))) a (m.2.map V.str) := ha.at fun o e => by rw [upd_ne na]; exact e
      have hv : valV kvs (Sum.inr m.1) = some (.ref a) := by
        obtain ⟨ps, a', e1, e2, e3⟩ := hM4.key (z := m.1) (List.mem_map.mpr ⟨m, hmM, rfl⟩)
        have e4 : (kvs.map (·.1)).Nodup := by
          rw [hM4.keys]
          exact List.Pairwise.map Sum.inr (fun a b h q => h (Sum.inr.inj q)) hV.nd
        have e5 := val_nodup e4 (Sum.inr m.1, .ref a) (List.mem_of_getElem? hkv)
        exact e5
      refine ⟨rfl, ?_⟩
      refine ⟨_, rfl, _, rfl, md, .ref a, rfl, .inl ⟨kvs, Sum.inr m.1, .inr ⟨od, sm _ _ upd_same⟩, rfl, hv.symm⟩, a, rfl, ⟨_, (ha1.mono sm).sq⟩, ?_⟩
      refine walk_in (walk_tup (K := K) (a := a) (xs := m.2.map V.str)) (fun i H3 => H3 D = some (.lst (List.replicate (n + i) (V.bl true))) ∧ Same (upd H4 md (.frz od (.dK kvs))) H3) ⟨eD, sm⟩ (fun i H3 _ hP => (ha1.mono hP.2).sq) (fun i x H3 H3' hi hP hy => ?_) (fun H3 hP => ?_)
      · obtain ⟨eD3, sm3⟩ := hP
        obtain ⟨rfl, hx⟩ := hy
        obtain ⟨z, hz, rfl⟩ : ∃ z, m.2[i]? = some z ∧ V.str z = x := by
          rw [List.getElem?_map] at hx
          cases e : m.2[i]? with
          | none => rw [e] at hx; cases hx
          | some z => rw [e] at hx; exact ⟨z, rfl, by cases hx; rfl⟩
        have hin : z ∈ ns := (hns.mem z).mpr (p4 z (List.mem_of_getElem? hz))
        refine ⟨rfl, _, rfl, _, rfl, p, ns.map V.str, rfl, .inr (.inl (.inl (sm3 _ _ (by rw [upd_ne npm]; exact hp)))), rfl, flat_strs' ns, ?_⟩
        show ∃ acc, _
        rw [List.length_map] at hi
        refine ⟨_, eD3, ?_, ?_, fun b u e => by rw [upd_ne (ne_of_none e hD)]; exact sm3 b u e⟩
        · rw [List.length_replicate]
          exact Nat.lt_of_le_of_lt (show n + i ≤ 100 by omega) (by decide)
        · rw [upd_same]
          have e : inV (V.str z) (ns.map V.str) = true := by rw [inV_strs, decide_eq_true hin]
          simp only [e, Bool.false_eq_true, if_false]
          rw [rep_snoc, Nat.add_assoc]
      · obtain ⟨eD3, sm3⟩ := hP
        rw [List.length_map] at eD3
        exact ⟨_, eD3, by omega, sm3⟩
    · obtain ⟨n, eD, ln, sm⟩ := hP
      have s1 := same_unlock hd4 sm
      refine ⟨sm _ _ upd_same, D, List.replicate n true, rfl, .inl (.inl ?_), ?_⟩
      · have nD : D ≠ md := fun z => by
          rw [z, upd_same] at hD
          cases hD
        rw [upd_ne nD, eD, rep_map]
      rw [all_true]
      exact q _ fun b u e => s1 _ _ (s14 _ _ e)
end
end Kl

set_option maxRecDepth 100000
set_option maxHeartbeats 4000000
namespace Kl
open PySem PySem.Spec PyProof.Rows L2 Gx Mx
section
variable {P : Program} {w : World} {K : PySem.W.Frag} {mg : Str → Option Value} {base : Heap}
theorem kLM : ("_leaf" : Str) ≠ "_makings" := by decide +kernel
theorem kLN : ("_leaf" : Str) ≠ "_names" := by decide +kernel
theorem kMN : ("_makings" : Str) ≠ "_names" := by decide +kernel
theorem putF_app {k : Str} {v : V} : ∀ fs : List (Str × V), (∀ p ∈ fs, p.1 ≠ k) → putF k v fs = fs ++ [(k, v)]
  | [], _ => rfl
  | p :: fs, h => by
    have ih := putF_app (v := v) fs fun q hq => h q (List.mem_cons_of_mem _ hq)
    obtain ⟨a, b⟩ := p
    show (if a = k then (a, v) :: fs else (a, b) :: putF k v fs) = _
    rw [if_neg (h (a, b) List.mem_cons_self), ih]
    rfl
theorem same_new {H H1 : Hp} {p : Addr} {o : HO} (s : Same H H1) (n : H1 p = none) : Same H (upd H1 p o) := fun b u e => by
  rw [upd_ne (ne_of_none (s b u e) n)]
  exact s b u e
theorem at_texts {zs : List Str} {j : Nat} {x : V} (hj : (zs.map V.str)[j]? = some x) : ∃ z, zs[j]? = some z ∧ V.str z = x := by
  rw [List.getElem?_map] at hj
  cases e : zs[j]? with
  | none => rw [e] at hj; cases hj
  | some z => rw [e] at hj; exact ⟨z, rfl, by cases hj; rfl⟩
/-- the pairs of a dict, for some of its keys -/
def pairsOf' (kvs : List (Key × V)) (ys : List Str) : List (Key × V) := ys.map fun z => (Sum.inr z, (valV kvs (Sum.inr z)).getD .non)
theorem pairs_none {kvs : List (Key × V)} {ys : List Str} {z : Str} (h : z ∉ ys) : valV (pairsOf' kvs ys) (Sum.inr z) = none := by
  induction ys with
  | nil => rfl
  | cons y ys ih =>
    rw [List.mem_cons, not_or] at h
    show valV ((Sum.inr y, _) :: pairsOf' kvs ys) (Sum.inr z) = none
    rw [valV_neg (fun q => h.1 (Sum.inr.inj q).symm)]
    exact ih h.2
theorem mak_pairs {H : Hp} {kvs : List (Key × V)} {M : Mak} (h : MakAt H kvs M) : ∀ {ys : List Str}, (∀ z ∈ ys, z ∈ keysOf M) → MakAt H (pairsOf' kvs ys) (ys.map fun z => (z, (lookM M z).getD []))
  | [], _ => .nil
  | y :: ys, hy => by
    obtain ⟨ps, a, e1, e2, e3⟩ := h.key (hy y List.mem_cons_self)
    refine .cons ⟨rfl, a, ?_, ?_⟩ (mak_pairs h fun z hz => hy z (List.mem_cons_of_mem _ hz))
    · show (valV kvs (Sum.inr y)).getD .non = .ref a
      rw [e2]
      rfl
    · show TupZ H a (((lookM M y).getD []).map V.str)
      rw [e1]
      exact e3
/-! ### Kinds.__init__ -/
def spInit (C : Addr) : Sp := fun vs H Q _ => ∃ (x dx : Addr) (leaf : Str) (pd : Addr) (kvs : List (Key × V)) (M : Mak), vs = [.ref x, .str leaf, .ref pd] ∧ H x = some (.ins C dx []) ∧ H pd = some (.dK kvs) ∧ MakAt H kvs M ∧ Vld leaf M ∧
  ∀ (H' : Hp) (md : Addr) (M' : Mak) (ns : List Str), KindsAt C H' x md leaf M' ns → OrdOf M M' → IsNames leaf (keysOf M) ns → H md = none → (∀ b o, b ≠ x → H b = some o → H' b = some o) → Q .non H'
abbrev NI : List Str := ["self", "leaf", "makings", "name"]
theorem ok_init {C f : Addr} {fd : FuncData} (F : Fun K "__init__" "Kinds.__init__" s_Kinds_init f fd) (T : Top K mg) (TC : Cl_Kinds K mg C) : FnOk P w K mg base CX0 6 f fd ["self", "leaf", "makings"] (spInit C) := by
  have ca : Cal P w K mg base 5 "_are_kinds" ["leaf", "makings"] spAre := T.d_are_kinds.cal fun f fd F => ok_are F T
  have cn : Cal P w K mg base 5 "_all_names" ["leaf", "makings"] spNames := (T.d_all_names.cal fun f fd F => ok_names F T).mono (by decide)
  refine F.ok sc_Kinds_init (fun vs H Q E h => ?_) (fun cdv A outer s H vs Q E hr h => ?_)
  · obtain ⟨x, dx, leaf, pd, kvs, M, rfl, _⟩ := h
    rfl
  · obtain ⟨x, dx, leaf, pd, kvs, M, rfl, hx, hd, hM, hV, q⟩ := h
    have hu := hu_of hr
    refine ⟨_, pss_cons (ps_if (pt_not (pt_val (pe_cal ca hr (by rfl) (pa_cons (pv 1) (pa_cons (pv 2) pa_nil))))) (pss_one ps_never) pss_nil)
      (pss_cons (ps_fld (pv 0) (pv 1) rfl)
      (pss_cons (ps_fld (pv 0) (pe_dc (own := [("name", 3)]) (g := gName 3) (tt := tYes) rfl sc_Kinds_init.nd (pi_list (pe_callB (call_sortedD rfl) (by rfl) T.b_sorted (by decide +kernel) (pa_cons (pv 2) pa_nil)))
          (blkOk_by (N := NI) (sc := defScope s_Kinds_init) (by decide +kernel)) (fun _ _ _ _ _ => pg_name (i := 3) sc_Kinds_init.nd rfl (.inl rfl)) (fun _ _ _ _ _ => pts_nil) (fun _ _ _ _ _ => pv 3) (fun _ _ _ _ _ => pe_dget hu (pv 2) (pv 3) (fun _ _ => rfl))) rfl)
      (pss_one (ps_fld (pv 0) (pe_cal cn hr (by rfl) (pa_cons (pv 1) (pa_cons (pv 2) pa_nil))) rfl)))), ?_⟩
    have lM := hV.len
    have lk := hM.len
    refine ⟨_, rfl, _, rfl, leaf, pd, kvs, M, rfl, hd, hM, hV, fun H1 s1 => ⟨_, rfl, ?_⟩⟩
    -- self._leaf = leaf
    have hx1 := s1 _ _ hx
    refine ⟨_, rfl, _, rfl, x, C, dx, [], rfl, hx1, TC.cl, TC.n_leaf, by decide, ?_⟩
    have npx : pd ≠ x := fun z => by
      rw [z, hx] at hd
      cases hd
    have tupx : ∀ {H2 : Hp}, (∀ b o, b ≠ x → H b = some o → H2 b = some o) → MakAt H2 kvs M := fun {H2} s2 => hM.same fun a xs e => e.at fun o => s2 _ _ (e.ne hx (fun _ => nofun))
    have k1 : ∀ b o, b ≠ x → H b = some o → (upd H1 x (.ins C dx (putF "_leaf" (.str leaf) []))) b = some o := fun b o n e => by
      rw [upd_ne n]
      exact s1 b o e
    have x1 : (upd H1 x (.ins C dx (putF "_leaf" (.str leaf) []))) x = some (.ins C dx [("_leaf", .str leaf)]) := by
      rw [upd_same]
      rfl
    have f1 : ∀ b, (upd H1 x (.ins C dx (putF "_leaf" (.str leaf) []))) b = none → H b = none := fun b e => by
      have n : b ≠ x := fun z => by
        rw [z, upd_same] at e
        cases e
      rw [upd_ne n] at e
      exact s1.free e
    generalize upd H1 x (.ins C dx (putF "_leaf" (.str leaf) [])) = H2 at k1 x1 f1
    clear s1 hx1
    have hd2 := k1 _ _ npx hd
    have hM2 := tupx k1
    -- self._makings
    refine ⟨_, rfl, pd, kvs, keysOf M, rfl, .inl hd2, hM.keys, by unfold keysOf; rw [List.length_map]; omega, fun ys p hperm hsrt np => ?_⟩
    have nd : (keysOf M).Nodup := hV.nd
    have ndY : ys.Nodup := hperm.nodup_iff.mpr nd
    have lY : ys.length ≤ 6 := by
      rw [hperm.length_eq]
      unfold keysOf
      rw [List.length_map]
      exact lM
    refine ⟨p, rfl, ⟨_, .inl (.inl upd_same)⟩, fun D hD => ?_⟩
    have s2 : Same H2 (upd H2 p (.lst (ys.map V.str))) := same_new (Same.refl H2) np
    refine walk_in (walk_list (K := K) (a := p) (xs := ys.map V.str)) (fun j G => G D = some (.dK (pairsOf' kvs (ys.take j))) ∧ Same (upd H2 p (.lst (ys.map V.str))) G) ⟨upd_same, same_new (Same.refl _) hD⟩ (fun j G _ hP => .inl (.inl (hP.2 _ _ upd_same))) (fun j v G G' hj hP hy => ?_) (fun G hP => ?_)
    · obtain ⟨eD, sm⟩ := hP
      obtain ⟨rfl, hv⟩ := hy
      obtain ⟨z, hz, rfl⟩ := at_texts hv
      have hzM : z ∈ keysOf M := hperm.mem_iff.mp (List.mem_of_getElem? hz)
      obtain ⟨ps, a, e1, e2, e3⟩ := hM2.key hzM
      refine ⟨rfl, _, rfl, _, rfl, _, rfl, pd, .ref a, rfl, .inl ⟨kvs, Sum.inr z, .inl (sm _ _ (s2 _ _ hd2)), rfl, e2.symm⟩, pairsOf' kvs (ys.take j), Sum.inr z, rfl, eD, ?_, ?_, fun b u e => by rw [upd_ne (ne_of_none e hD)]; exact sm b u e⟩
      · unfold pairsOf'
        rw [List.length_map, List.length_take]
        exact Nat.lt_of_le_of_lt (Nat.le_trans (Nat.min_le_right _ _) lY) (by decide)
      · have hnot : z ∉ ys.take j := by
          intro hin
          obtain ⟨i, hi⟩ := List.mem_iff_getElem?.mp hin
          rw [List.getElem?_take] at hi
          by_cases c : i < j
          · rw [if_pos c] at hi
            have h1 := (List.getElem?_eq_some_iff.mp hi)
            have h2 := (List.getElem?_eq_some_iff.mp hz)
            have h3 := (List.getElem_inj (h₀ := h1.1) (h₁ := h2.1) ndY).mp (h1.2.trans h2.2.symm)
            omega
          · rw [if_neg c] at hi
            cases hi
        rw [upd_same, putK_new _ (pairs_none hnot), List.take_add_one, hz]
        unfold pairsOf'
        rw [List.map_append]
        show some (HO.dK (_ ++ [(Sum.inr z, V.ref a)])) = some (HO.dK (_ ++ [(Sum.inr z, (valV kvs (Sum.inr z)).getD .non)]))
        rw [e2]
        rfl
    obtain ⟨eD, sm⟩ := hP
    rw [List.length_map, List.take_length] at eD
    have s3 : Same H2 G := fun b u e => sm _ _ (s2 _ _ e)
    have fD : H2 D = none := s2.free hD
    have hx3 := s3 _ _ x1
    have nDx : D ≠ x := fun z => by
      rw [z, x1] at fD
      cases fD
    refine ⟨_, rfl, x, C, dx, _, rfl, hx3, TC.cl, TC.n_makings, by show 1 < 1000; decide, ?_⟩
    have e4 : putF "_makings" (.ref D) [("_leaf", .str leaf)] = [(("_leaf" : Str), V.str leaf), ("_makings", .ref D)] := putF_app _ fun p hp => by
      simp only [List.mem_cons, List.not_mem_nil, or_false] at hp
      subst hp
      exact kLM
    rw [e4]
    have k3 : ∀ b o, b ≠ x → H b = some o → (upd G x (.ins C dx [("_leaf", .str leaf), ("_makings", .ref D)])) b = some o := fun b o n e => by
      rw [upd_ne n]
      exact s3 _ _ (k1 b o n e)
    have x3 : (upd G x (.ins C dx [("_leaf", .str leaf), ("_makings", .ref D)])) x = some (.ins C dx [("_leaf", .str leaf), ("_makings", .ref D)]) := upd_same
    have d3 : (upd G x (.ins C dx [("_leaf", .str leaf), ("_makings", .ref D)])) D = some (.dK (pairsOf' kvs ys)) := by
      rw [upd_ne nDx]
      exact eD
    generalize upd G x (.ins C dx [("_leaf", .str leaf), ("_makings", .ref D)]) = H3 at k3 x3 d3
    clear sm eD s3 hx3 s2 x1 hM2 hd2
    have hM3 := tupx k3
    -- self._names
    refine ⟨_, rfl, _, rfl, leaf, pd, kvs, keysOf M, rfl, k3 _ _ npx hd, hM3.keys, by unfold keysOf; rw [List.length_map]; omega, fun ns t H4 hns s4 nt ht => ?_⟩
    refine ⟨_, rfl, x, C, dx, _, rfl, s4 _ _ x3, TC.cl, TC.n_names, by show 2 < 1000; decide, ?_⟩
    have e5 : putF "_names" (.ref t) [("_leaf", .str leaf), ("_makings", .ref D)] = [(("_leaf" : Str), V.str leaf), ("_makings", .ref D), ("_names", .ref t)] := putF_app _ fun p hp => by
      simp only [List.mem_cons, List.not_mem_nil, or_false] at hp
      rcases hp with rfl | rfl
      · exact kLN
      · exact kMN
    rw [e5]
    have k4 : ∀ b o, b ≠ x → H b = some o → (upd H4 x (.ins C dx [("_leaf", .str leaf), ("_makings", .ref D), ("_names", .ref t)])) b = some o := fun b o n e => by
      rw [upd_ne n]
      exact s4 _ _ (k3 b o n e)
    have ntx : t ≠ x := fun z => by
      rw [z, x3] at nt
      cases nt
    refine q _ D (ys.map fun z => (z, (lookM M z).getD [])) ns ⟨dx, t, pairsOf' kvs ys, upd_same, ?_, mak_pairs (tupx k4) fun z hz => hperm.mem_iff.mp hz, ?_⟩ (OrdOf.mk' hsrt hperm nd) hns (f1 _ fD) k4
    · rw [upd_ne nDx]
      exact s4 _ _ d3
    · rw [upd_ne ntx]
      exact ht
end
end Kl

set_option maxRecDepth 100000
set_option maxHeartbeats 4000000
namespace Kl
open PySem PySem.Spec PyProof.Rows L2 Gx Mx
theorem Paired.snoc {α β : Type} {F : α → β → Prop} {a : α} {b : β} (h : F a b) : ∀ {l₁ : List α} {l₂ : List β}, Paired F l₁ l₂ → Paired F (l₁ ++ [a]) (l₂ ++ [b])
  | _, _, .nil => .cons h .nil
  | _, _, .cons x r => .cons x (Paired.snoc h r)
theorem take_snoc {α : Type} {l : List α} {i : Nat} {x : α} (h : l[i]? = some x) : l.take (i + 1) = l.take i ++ [x] := by
  rw [List.take_add_one, h]
  rfl
theorem mak_nd {H : Hp} {kvs : List (Key × V)} {M : Mak} (h : MakAt H kvs M) (nd : (keysOf M).Nodup) : (kvs.map (·.1)).Nodup := by
  rw [h.keys]
  exact List.Pairwise.map Sum.inr (fun a b h q => h (Sum.inr.inj q)) nd
/-- an instance that was made -/
theorem made {C x dx md : Addr} {G H1 : Hp} (nx : G x = none) (ndx : G dx = none) (nmd : (upd (upd G dx (.own x)) x (.ins C dx [])) md = none) (keep : ∀ b o, b ≠ x → (upd (upd G dx (.own x)) x (.ins C dx [])) b = some o → H1 b = some o) : Same G H1 ∧ G md = none := by
  refine ⟨fun b u e => keep b u (ne_of_none e nx) (by rw [upd_ne (ne_of_none e nx), upd_ne (ne_of_none e ndx)]; exact e), ?_⟩
  have n1 : md ≠ x := fun z => by
    rw [z, upd_same] at nmd
    cases nmd
  rw [upd_ne n1] at nmd
  have n2 : md ≠ dx := fun z => by
    rw [z, upd_same] at nmd
    cases nmd
  rwa [upd_ne n2] at nmd
/-! ### sizes, rank by rank: the mathematics -/
abbrev Row := List (Str × Nat)
def keysR (R : Row) : List Str := R.map (·.1)
def lookR (R : Row) (z : Str) : Option Nat := (R.find? fun q => decide (q.1 = z)).map (·.2)
def getR (R : Row) (z : Str) : Nat := (lookR R z).getD 0
def fitsR (E : List Str) (ps : List Str) : Bool := ps.all fun p => decide (p ∈ E)
def aboveE (M : Mak) (E : List Str) : List Str := (M.filter fun m => fitsR E m.2).map (·.1)
def aboveR (M : Mak) (R : Row) : Row := (M.filter fun m => fitsR (keysR R) m.2).map fun m => (m.1, (m.2.map (getR R)).sum)
def rowsR (leaf : Str) (M : Mak) : Nat → Row
  | 0 => [(leaf, 1)]
  | r + 1 => aboveR M (rowsR leaf M r)
def setR (leaf : Str) (M : Mak) (r : Nat) : List Str := keysR (rowsR leaf M r)
theorem keys_above (M : Mak) (R : Row) : keysR (aboveR M R) = aboveE M (keysR R) := by
  unfold keysR aboveR aboveE
  rw [List.map_map]
  rfl
theorem set_succ (leaf : Str) (M : Mak) (r : Nat) : setR leaf M (r + 1) = aboveE M (setR leaf M r) := keys_above M _
theorem lookR_cons (q : Str × Nat) (R : Row) (z : Str) : lookR (q :: R) z = if q.1 = z then some q.2 else lookR R z := by
  unfold lookR
  rw [List.find?_cons]
  by_cases h : q.1 = z
  · rw [if_pos h, decide_eq_true h]
    rfl
  · rw [if_neg h, decide_eq_false h]
theorem lookR_in {R : Row} {z : Str} (h : z ∈ keysR R) : ∃ n, lookR R z = some n := by
  induction R with
  | nil => cases h
  | cons q R ih =>
    rw [lookR_cons]
    by_cases e : q.1 = z
    · exact ⟨q.2, if_pos e⟩
    · rw [if_neg e]
      rcases List.mem_cons.mp (show z ∈ q.1 :: keysR R from h) with h | h
      · exact absurd h.symm e
      · exact ih h
theorem lookR_no {R : Row} {z : Str} (h : z ∉ keysR R) : lookR R z = none := by
  induction R with
  | nil => rfl
  | cons q R ih =>
    have h' : ¬ (z = q.1 ∨ z ∈ keysR R) := fun c => h (List.mem_cons.mpr c)
    rw [lookR_cons, if_neg fun e => h' (.inl e.symm)]
    exact ih fun c => h' (.inr c)
/-- the dict of a row -/
def rowK (R : Row) : List (Key × V) := R.map fun q => (Sum.inr q.1, V.int (q.2 : Nat))
theorem rowK_keys (R : Row) : (rowK R).map (·.1) = (keysR R).map Sum.inr := by
  unfold rowK keysR
  rw [List.map_map, List.map_map]
  rfl
theorem rowK_len (R : Row) : (rowK R).length = R.length := List.length_map _
theorem rowK_look (R : Row) (z : Str) : valV (rowK R) (Sum.inr z) = (lookR R z).map fun n => V.int (n : Nat) := by
  induction R with
  | nil => rfl
  | cons q R ih =>
    rw [lookR_cons]
    show valV ((Sum.inr q.1, V.int (q.2 : Nat)) :: rowK R) _ = _
    by_cases e : q.1 = z
    · rw [if_pos e, valV_pos (by rw [e])]
      rfl
    · rw [if_neg e, valV_neg fun c => e (Sum.inr.inj c)]
      exact ih
theorem rowK_get {R : Row} {z : Str} (h : z ∈ keysR R) : valV (rowK R) (Sum.inr z) = some (.int (getR R z : Nat)) := by
  obtain ⟨n, e⟩ := lookR_in h
  rw [rowK_look, e]
  unfold getR
  rw [e]
  rfl
/-! ### names -/
structure Fin6 (leaf : Str) (M : Mak) (ns : List Str) : Prop where
  v : Vld leaf M
  srt : sortedS (keysOf M) = true
  n : IsNames leaf (keysOf M) ns
theorem set_sub {leaf : Str} {M : Mak} : ∀ (r : Nat), ∀ z ∈ setR leaf M r, z = leaf ∨ z ∈ keysOf M
  | 0, z, h => .inl (List.mem_singleton.mp h)
  | r + 1, z, h => by
    rw [set_succ] at h
    obtain ⟨m, hm, rfl⟩ := List.mem_map.mp h
    exact .inr (List.mem_map.mpr ⟨m, (List.mem_filter.mp hm).1, rfl⟩)
theorem above_sub (M : Mak) (E : List Str) : (aboveE M E).Sublist (keysOf M) := List.Sublist.map _ List.filter_sublist
theorem set_srt {leaf : Str} {M : Mak} (s : sortedS (keysOf M) = true) : ∀ r, sortedS (setR leaf M r) = true
  | 0 => (sortedS_iff [leaf]).mpr (List.pairwise_singleton _ _)
  | r + 1 => by
    rw [set_succ]
    exact sortedS_sub s (above_sub M _)
theorem set_nd {leaf : Str} {M : Mak} (d : (keysOf M).Nodup) : ∀ r, (setR leaf M r).Nodup
  | 0 => List.nodup_cons.mpr ⟨List.not_mem_nil, List.nodup_nil⟩
  | r + 1 => by
    rw [set_succ]
    exact d.sublist (above_sub M _)
theorem set_len {leaf : Str} {M : Mak} (v : Vld leaf M) (r : Nat) : (setR leaf M r).length ≤ 6 := v.few _ (set_nd v.nd r) (set_sub r)
theorem rows_len {leaf : Str} {M : Mak} (v : Vld leaf M) (r : Nat) : (rowsR leaf M r).length ≤ 6 := by
  have h := set_len v r
  unfold setR keysR at h
  rw [List.length_map] at h
  exact h
theorem rows_nd {leaf : Str} {M : Mak} (d : (keysOf M).Nodup) (r : Nat) : ((rowK (rowsR leaf M r)).map (·.1)).Nodup := by
  rw [rowK_keys]
  exact List.Pairwise.map Sum.inr (fun a b h q => h (Sum.inr.inj q)) (set_nd d r)
/-! ### sizes are small -/
theorem sum_le {l : List Nat} {b k : Nat} (h : ∀ x ∈ l, x ≤ b) (hl : l.length ≤ k) : l.sum ≤ k * b := by
  induction l generalizing k with
  | nil => exact Nat.zero_le _
  | cons x l ih =>
    rw [List.length_cons] at hl
    obtain ⟨j, rfl⟩ : ∃ j, k = j + 1 := ⟨k - 1, by omega⟩
    have h1 := h x List.mem_cons_self
    have h2 := ih (k := j) (fun y hy => h y (List.mem_cons_of_mem _ hy)) (by omega)
    rw [List.sum_cons, Nat.add_mul, Nat.one_mul]
    omega
theorem getR_le {R : Row} {b : Nat} (h : ∀ q ∈ R, q.2 ≤ b) (z : Str) : getR R z ≤ b := by
  unfold getR
  cases e : lookR R z with
  | none => exact Nat.zero_le _
  | some n =>
    unfold lookR at e
    obtain ⟨q, hq, e2⟩ := Option.map_eq_some_iff.mp e
    have := h q (List.mem_of_find?_eq_some hq)
    show n ≤ b
    omega
theorem rows_le {leaf : Str} {M : Mak} (v : Vld leaf M) : ∀ r, ∀ q ∈ rowsR leaf M r, q.2 ≤ 3 ^ r
  | 0, q, h => by
    rw [List.mem_singleton.mp h]
    exact Nat.le_refl 1
  | r + 1, q, h => by
    obtain ⟨m, hm, rfl⟩ := List.mem_map.mp (show q ∈ aboveR M (rowsR leaf M r) from h)
    have ih := rows_le v r
    obtain ⟨_, _, l3, _⟩ := v.parts m (List.mem_filter.mp hm).1
    have h1 := sum_le (l := m.2.map (getR (rowsR leaf M r))) (b := 3 ^ r) (k := 3) (fun x hx => by
      obtain ⟨z, _, rfl⟩ := List.mem_map.mp hx
      exact getR_le ih z) (by rw [List.length_map]; exact l3)
    show (m.2.map (getR (rowsR leaf M r))).sum ≤ 3 ^ (r + 1)
    rw [Nat.pow_succ]
    omega
/-! ### the sets come again -/
def subs : List Str → List (List Str)
  | [] => [[]]
  | a :: l => subs l ++ (subs l).map (a :: ·)
theorem subs_len : ∀ l : List Str, (subs l).length = 2 ^ l.length
  | [] => rfl
  | a :: l => by
    show (subs l ++ (subs l).map (a :: ·)).length = _
    rw [List.length_append, List.length_map, subs_len l, List.length_cons, Nat.pow_succ]
    omega
theorem subs_mem : ∀ {s l : List Str}, s.Sublist l → s ∈ subs l
  | _, _, .slnil => List.mem_singleton.mpr rfl
  | _, _, .cons a h => List.mem_append.mpr (.inl (subs_mem h))
  | _, _, .cons_cons a h => List.mem_append.mpr (.inr (List.mem_map.mpr ⟨_, subs_mem h, rfl⟩))
theorem nodup_len {α : Type} [DecidableEq α] : ∀ {xs ys : List α}, xs.Nodup → (∀ z ∈ xs, z ∈ ys) → xs.length ≤ ys.length
  | [], ys, _, _ => Nat.zero_le _
  | x :: xs, ys, hn, hs => by
    rw [List.nodup_cons] at hn
    have hx : x ∈ ys := hs x List.mem_cons_self
    have h1 := nodup_len (ys := ys.erase x) hn.2 fun z hz => (List.mem_erase_of_ne (fun e => hn.1 (by rw [e] at hz; exact hz))).mpr (hs z (List.mem_cons_of_mem _ hz))
    rw [List.length_erase_of_mem hx] at h1
    have : 0 < ys.length := List.length_pos_of_mem hx
    rw [List.length_cons]
    omega
theorem sorted_sublist {l m : List Str} (hl : sortedS l = true) (hm : sortedS m = true) (dl : l.Nodup) (dm : m.Nodup) (h : ∀ z ∈ l, z ∈ m) : l.Sublist m := by
  have e : l = m.filter (fun z => decide (z ∈ l)) := sorted_same hl (sortedS_sub hm List.filter_sublist) dl (dm.sublist List.filter_sublist) fun z => by
    rw [List.mem_filter, decide_eq_true_iff]
    exact ⟨fun q => ⟨h z q, q⟩, fun q => q.2⟩
  rw [e]
  exact List.filter_sublist
theorem set_again {leaf : Str} {M : Mak} {ns : List Str} (f : Fin6 leaf M ns) (n : Nat) (hn : ∀ i j, i < j → j ≤ n → setR leaf M i ≠ setR leaf M j) : n < 64 := by
  have nd : ((List.range (n + 1)).map (setR leaf M)).Nodup := by
    rw [List.nodup_iff_pairwise_ne, List.pairwise_map]
    refine List.Pairwise.imp_of_mem ?_ (List.pairwise_lt_range (n := n + 1))
    intro a b _ hb h
    exact hn a b h (by have := List.mem_range.mp hb; omega)
  have l6 : ns.length ≤ 6 := f.v.few ns f.n.nd fun z hz => (f.n.mem z).mp hz
  have h1 := nodup_len nd (ys := subs ns) fun s hs => by
    obtain ⟨i, _, rfl⟩ := List.mem_map.mp hs
    exact subs_mem (sorted_sublist (set_srt f.srt i) f.n.srt (set_nd f.v.nd i) f.n.nd fun z hz => (f.n.mem z).mpr (set_sub i z hz))
  rw [List.length_map, List.length_range, subs_len] at h1
  have : 2 ^ ns.length ≤ 2 ^ 6 := Nat.pow_le_pow_right (by omega) l6
  omega
/-- L ranks are not alike, and the one behind them is like the one at t -/
structure Turn (leaf : Str) (M : Mak) (L t : Nat) : Prop where
  lt : t < L
  few : L ≤ 64
  ne : ∀ i j, i < j → j < L → setR leaf M i ≠ setR leaf M j
  eq : setR leaf M t = setR leaf M L
end Kl

set_option maxRecDepth 100000
set_option maxHeartbeats 4000000
namespace L2
open PySem PySem.Spec PyProof.Rows
/-! ### own rules: list.remove of a text, sums of tuples -/
def eqS (z : Str) (u : Value) : Bool := match u with
  | .str y _ => y == z
  | _ => false
theorem eqS_gives {z : Str} {t : Tok} : ∀ {zs : List Str} {us : List Value}, Vals (zs.map V.str) us → ∀ y ∈ us, MeetsSeq.EqGives y (.str z t) (eqS z y)
  | [], _, .nil => fun y hy => nomatch hy
  | x :: zs, _, .cons r rest => fun y hy => by
    obtain ⟨k, rfl⟩ := r
    rcases List.mem_cons.mp hy with rfl | hy
    · show MeetsSeq.EqGives _ _ (x == z)
      rw [← SeqAt.str_beq]
      exact SeqRoads2.EqGives.str x z k t
    · exact eqS_gives rest y hy
theorem eqS_at {z : Str} : ∀ {zs : List Str} {us : List Value}, Vals (zs.map V.str) us → ∀ (m : Nat) (h : m < us.length), eqS z us[m] = true ↔ zs[m]? = some z
  | [], _, .nil, m, h => absurd h (Nat.not_lt_zero _)
  | x :: zs, _, .cons r rest, 0, _ => by
    obtain ⟨k, rfl⟩ := r
    show (x == z) = true ↔ some x = some z
    rw [beq_iff_eq, Option.some_inj]
  | x :: zs, _, .cons r rest, m + 1, h => eqS_at rest m (Nat.lt_of_succ_lt_succ h)
theorem erase_mapS : ∀ (l : List Str) (j : Nat), (l.map V.str).eraseIdx j = (l.eraseIdx j).map V.str
  | [], j => by simp
  | a :: r, 0 => by simp
  | a :: r, j + 1 => by
    have ih := erase_mapS r j
    simp [ih]
section
variable {X : Cx}
def rRemS : V → List V → Hp → VK → Prop := fun x xs H Q => ∃ (l : Addr) (zs : List Str) (z : Str) (j : Nat), x = .ref l ∧ xs = [.str z] ∧ H l = some (.lst (zs.map V.str)) ∧ zs[j]? = some z ∧ (∀ m : Nat, m < j → zs[m]? ≠ some z) ∧ Q .non (upd H l (.lst ((zs.eraseIdx j).map V.str)))
theorem mt_removeS : MtM X "list.remove" rRemS := by
  intro pins s σ H x xs v us Q I rx rxs h
  obtain ⟨l, zs, z, j, rfl, rfl, hH, hj, hno, q⟩ := h
  cases rx
  obtain ⟨u, rfl, ru⟩ := rxs.one
  obtain ⟨t, rfl⟩ := ru
  obtain ⟨hz, its, n, r, hl, e⟩ := I.lstM hH
  rw [List.length_map] at hl hz
  have hjn : j < zs.length := (List.getElem?_eq_some_iff.mp hj).1
  have hjl : j < its.toArray.size := by rw [List.size_toArray]; omega
  refine call_meets PySem.F.slot_list_remove ⟨_, e, rfl⟩ PySem.F.entry_list_remove (PySem.F.args_list_remove_2 _ _)
    (MeetsSeq.list_remove l its.toArray n (.str z t) (eqS z) (fun y hy => eqS_gives r y (by simpa using hy)) j hjl ?_ ?_ (by rw [List.size_toArray]; omega)) ⟨e, ?_⟩
  · exact (eqS_at r j (by simpa using hjl)).mpr hj
  · intro m hm hmj
    cases c : eqS z its.toArray[m] with
    | false => rfl
    | true => exact absurd ((eqS_at r m (by simpa using hm)).mp c) (hno m hmj)
  · have rr := r.eraseIdx j
    rw [erase_mapS] at rr
    refine ⟨.non, _, I.lset (its' := its.eraseIdx j) (t' := s.toks) hH e ?_ rr ?_, rfl, q⟩
    · show its.toArray.eraseIdxIfInBounds j = (its.eraseIdx j).toArray
      rw [List.eraseIdxIfInBounds_toArray]
    · rw [List.length_map]
      have : (zs.eraseIdx j).length ≤ zs.length := by rw [List.length_eraseIdx]; split <;> omega
      omega
/-- t + u, whichever object it is -/
def rCatC : R2 := fun x y H Q => ∃ a b xs ys, x = .ref a ∧ y = .ref b ∧ H a = some (.tup xs) ∧ H b = some (.tup ys) ∧ xs.length + ys.length ≤ sizeLine ∧ ∀ p G, (∀ c o, H c = some o → G c = some o) → G p = some (.tup (xs ++ ys)) → Q (.ref p) G
theorem op_catC : OpR X (binaryOp .Add) rCatC := by
  intro pins s σ H x y v u Q I rx ry h
  obtain ⟨a, b, xs, ys, rfl, rfl, ha, hb, hz, q⟩ := h
  refine op_catA pins s σ H _ _ v u Q I rx ry ⟨a, b, xs, ys, rfl, rfl, .inl (.inl ha), .inl (.inl hb), hz, fun e => q b H (fun _ _ e => e) (by rw [e]; exact hb), fun _ e => q a H (fun _ _ e => e) (by rw [e, List.append_nil]; exact ha), fun _ _ p np => q p _ (fun c o e => ?_) upd_same⟩
  rw [upd_ne (fun z => by rw [z, np] at e; cases e)]
  exact e
end
end L2

set_option maxRecDepth 100000
set_option maxHeartbeats 4000000
namespace Kl
open PySem PySem.Spec PyProof.Rows L2 Gx Mx
/-! ### rows: tuples of tuples of texts -/
def TxtsAt (K : PySem.W.Frag) (H : Hp) (L : List (Addr × List Str)) : Prop := ∀ q ∈ L, SqT K H q.1 (q.2.map V.str)
theorem sqT_sm {K : PySem.W.Frag} {H H' : Hp} (s : Same H H') {a : Addr} {xs : List V} (h : SqT K H a xs) : SqT K H' a xs := by
  rcases h with (h | ⟨o, h⟩) | h
  · exact .inl (.inl (s _ _ h))
  · exact .inl (.inr ⟨o, s _ _ h⟩)
  · exact .inr h
theorem tyx_sqT {K : PySem.W.Frag} {H : Hp} {p : Addr} {xs : List V} (h : SqT K H p xs) : TyX K H (.ref p) (.type "tuple") := by
  rcases h with (h | ⟨o, h⟩) | ⟨o, its, n, h, c, _⟩
  · exact .base (.tup h)
  · exact .fTuple h
  · exact .kTuple h c
structure RowAt (K : PySem.W.Frag) (H : Hp) (p : Addr) (LL : List (Addr × List Str)) : Prop where
  e : SqT K H p (LL.map fun q => V.ref q.1)
  t : TxtsAt K H LL
theorem RowAt.same {K : PySem.W.Frag} {H H' : Hp} {p : Addr} {LL : List (Addr × List Str)} (h : RowAt K H p LL) (s : Same H H') : RowAt K H' p LL := ⟨sqT_sm s h.e, fun q hq => sqT_sm s (h.t q hq)⟩
/-- a digit: at most 20 sorted names -/
def goodB (q : List Str) : Bool := decide (q.length ≤ 20) && (q.all nameB && sortedS q)
/-- not too great for the judges -/
def Few (qs : List (List Str)) : Prop := qs.length ≤ 1000 ∧ ∀ q ∈ qs, q.length ≤ 1000 ∧ ∀ z ∈ q, z.length ≤ 1000
section
variable {P : Program} {w : World} {K : PySem.W.Frag} {mg : Str → Option Value} {base : Heap}
/-! ### are_digits, are_loose_digits -/
def spDig (K : PySem.W.Frag) : Sp := fun vs H Q _ => ∃ (p : Addr) (LL : List (Addr × List Str)), vs = [V.ref p] ∧ RowAt K H p LL ∧ Few (LL.map (·.2)) ∧ ∀ H', Same H H' → Q (.bl (LL.all fun q => goodB q.2)) H'
abbrev NDG : List Str := ["value", "digit"]
theorem ok_dig {f : Addr} {fd : FuncData} (F : Fun K "are_digits" "are_digits" s_are_digits f fd) (T : Top K mg) : FnOk P w K mg base CX0 4 f fd ["value"] (spDig K) := by
  obtain ⟨tm, gm⟩ := T.g_LOOSE_DIGIT
  have cs : CalO P w K mg base 3 "is_sorted" ["value", "most"] 1 ["most"] (fun vs zs => vs ++ zs) (spSorted K) := T.d_is_sorted.calO fun f fd F => ok_sorted F T
  refine F.ok sc_are_digits (fun vs H Q E h => ?_) (fun cdv A outer s H vs Q E hr h => ?_)
  · obtain ⟨p, LL, rfl, _⟩ := h
    rfl
  · obtain ⟨p, LL, rfl, hR, hF, q⟩ := h
    refine ⟨_, pss_one (ps_ret (pe_and (pe_callB call_isi (by rfl) T.b_isinstance (by decide +kernel) (pa_cons (pv 0) (pa_cons (pe_bltn (v := .ty "tuple") (by rfl) T.b_tuple (by decide +kernel) rfl) pa_nil)))
      (pe_one (pe_callB (cr_all rfl) (by rfl) T.b_all (by decide +kernel) (pa_cons (pe_lc (own := [("digit", 1)]) (g := gName 1) (tt := tYes) rfl sc_are_digits.nd (pi_tup (pv 0))
        (blkOk_by (N := NDG) (sc := defScope s_are_digits) (by decide +kernel)) (fun _ _ _ _ _ => pg_name (i := 1) sc_are_digits.nd rfl (.inl rfl)) (fun _ _ _ _ _ => pts_nil)
        (fun _ _ _ _ _ => pe_calO cs hr (by rfl) (pa_cons (pv 1) pa_nil) (pk_cons (pe_glob (v := .int 20) (by rfl) gm ⟨_, rfl⟩) pk_nil))) pa_nil))))), ?_⟩
    have big : 100000 ≤ sizeLine := by decide
    refine ⟨_, rfl, _, .ty "tuple", .type "tuple", .type "tuple", true, rfl, .ty _, tyx_sqT hR.e, kit_ty (by decide +kernel), true, rfl, ?_⟩
    rw [if_pos rfl]
    have l1 : LL.length ≤ 1000 := by
      have := hF.1
      rw [List.length_map] at this
      exact this
    refine ⟨_, rfl, p, rfl, ⟨_, hR.e⟩, fun D hD => ?_⟩
    refine lc_it (g := gName 1) (tt := tYes) (vs := [1]) (walk_tup (K := K) (a := p) (xs := LL.map fun q => V.ref q.1)) (fun j G' => G' D = some (.lst (((LL.take j).map fun q => goodB q.2).map V.bl)) ∧ Same H G')
      ⟨upd_same, same_new (Same.refl H) hD⟩ (fun j G' _ h => sqT_sm h.2 hR.e) (fun j u Gx G' hj h hy => ?_) (fun G' h => ?_)
    · obtain ⟨eD, sm⟩ := h
      obtain ⟨rfl, hu⟩ := hy
      have hu : (LL.map fun q => V.ref q.1)[j]? = some u := hu
      rw [List.getElem?_map] at hu
      obtain ⟨q0, hq0, rfl⟩ := Option.map_eq_some_iff.mp hu
      have hm := List.mem_of_getElem? hq0
      obtain ⟨f1, f2⟩ := hF.2 q0.2 (List.mem_map.mpr ⟨_, hm, rfl⟩)
      have hs := sqT_sm sm (hR.t q0 hm)
      refine ⟨rfl, _, rfl, rfl, rfl, q0.1, q0.2, 20, rfl, hs, tyx_sqT hs, by decide, by decide, f1, f2, fun G3 s3 => ?_⟩
      refine ⟨_, s3 _ _ eD, ?_, ?_, fun b o e => by rw [upd_ne (ne_of_none e hD)]; exact s3 _ _ (sm b o e)⟩
      · rw [List.length_map, List.length_map, List.length_take]
        omega
      · rw [upd_same, take_snoc hq0, List.map_append, List.map_append]
        show some (HO.lst (_ ++ [V.bl _])) = some (HO.lst (_ ++ [V.bl (goodB q0.2)]))
        unfold goodB
        rw [show decide (((q0.2.length : Nat) : Int) ≤ 20) = decide (q0.2.length ≤ 20) by rw [decide_eq_decide]; omega]
    · obtain ⟨eD, sm⟩ := h
      rw [List.length_map, List.take_length] at eD
      refine ⟨D, _, rfl, .inl (.inl eD), ?_⟩
      rw [List.all_map]
      exact q G' sm
def spLDig (K : PySem.W.Frag) : Sp := fun vs H Q _ => ∃ (p : Addr) (LL : List (Addr × List Str)), vs = [V.ref p] ∧ RowAt K H p LL ∧ Few (LL.map (·.2)) ∧ ∀ H', Same H H' → Q (.bl (decide (LL.length ≤ 402) && LL.all fun q => goodB q.2)) H'
theorem ok_ldig {f : Addr} {fd : FuncData} (F : Fun K "are_loose_digits" "are_loose_digits" s_are_loose_digits f fd) (T : Top K mg) : FnOk P w K mg base CX0 5 f fd ["value"] (spLDig K) := by
  obtain ⟨tm, gm⟩ := T.g__LOOSE_RANKS
  have cd : Cal P w K mg base 4 "are_digits" ["value"] (spDig K) := T.d_are_digits.cal fun f fd F => ok_dig F T
  refine F.ok sc_are_loose_digits (fun vs H Q E h => ?_) (fun cdv A outer s H vs Q E hr h => ?_)
  · obtain ⟨p, LL, rfl, _⟩ := h
    rfl
  · obtain ⟨p, LL, rfl, hR, hF, q⟩ := h
    refine ⟨_, pss_one (ps_ret (pe_and (pe_callB call_isi (by rfl) T.b_isinstance (by decide +kernel) (pa_cons (pv 0) (pa_cons (pe_bltn (v := .ty "tuple") (by rfl) T.b_tuple (by decide +kernel) rfl) pa_nil)))
      (pe_and (pe_cmpR op_le (pe_callB call_len_seq (by rfl) T.b_len PySem.boot_len (pa_cons (pv 0) pa_nil)) (pe_glob (v := .int 402) (by rfl) gm ⟨_, rfl⟩) (nomark _))
        (pe_one (pe_cal cd hr (by rfl) (pa_cons (pv 0) pa_nil)))))), ?_⟩
    refine ⟨_, rfl, _, .ty "tuple", .type "tuple", .type "tuple", true, rfl, .ty _, tyx_sqT hR.e, kit_ty (by decide +kernel), true, rfl, ?_⟩
    rw [if_pos rfl]
    refine ⟨_, rfl, p, _, rfl, .inr hR.e, _, _, rfl, rfl, _, rfl, ?_⟩
    rw [List.length_map, show decide (((LL.length : Nat) : Int) ≤ 402) = decide (LL.length ≤ 402) by rw [decide_eq_decide]; omega]
    cases c : decide (LL.length ≤ 402) with
    | false =>
      rw [if_neg (by decide)]
      have h1 := q H (Same.refl H)
      rw [c, Bool.false_and] at h1
      exact h1
    | true =>
      rw [if_pos rfl]
      refine ⟨_, rfl, p, LL, rfl, hR, hF, fun H' s => ?_⟩
      have h1 := q H' s
      rw [c, Bool.true_and] at h1
      exact h1
end
end Kl

set_option maxRecDepth 100000
set_option maxHeartbeats 4000000
namespace Kl
open PySem PySem.Spec PyProof.Rows L2 Gx Mx
/-! ### t[a:b], t + u, whichever objects they are -/
def rSlS (K : PySem.W.Frag) : V → Option Int → Option Int → Hp → VK → Prop := fun x lo hi H Q => ∃ a xs, x = .ref a ∧ SqT K H a xs ∧ ∀ p G, Same H G → SqT K G p (cutV xs lo hi) → Q (.ref p) G
theorem cut_whole {xs : List V} {lo hi : Option Int} (h : HT.sIx xs.length 0 lo = 0 ∧ HT.sIx xs.length xs.length hi = xs.length) : cutV xs lo hi = xs := by
  unfold cutV
  rw [h.1, h.2, List.drop_zero, Nat.sub_zero, List.take_length]
theorem sl_tupS {X : Cx} : SlR X (rSlS X.K) := by
  intro pins s σ H x v vl vu lo hi sl Q I rx hs pl pu h
  obtain ⟨a, xs, rfl, ea, q⟩ := h
  exact sl_tupA pins s σ H _ v vl vu lo hi sl Q I rx hs pl pu ⟨a, xs, rfl, ea, fun hw => q a H (Same.refl H) (by rw [cut_whole hw]; exact ea), fun _ p np => q p _ (same_new (Same.refl H) np) (.inl (.inl upd_same))⟩
def rCatS (K : PySem.W.Frag) : R2 := fun x y H Q => ∃ a b xs ys, x = .ref a ∧ y = .ref b ∧ SqT K H a xs ∧ SqT K H b ys ∧ xs.length + ys.length ≤ sizeLine ∧ ∀ p G, Same H G → SqT K G p (xs ++ ys) → Q (.ref p) G
theorem op_catS {X : Cx} : OpR X (binaryOp .Add) (rCatS X.K) := by
  intro pins s σ H x y v u Q I rx ry h
  obtain ⟨a, b, xs, ys, rfl, rfl, ha, hb, hz, q⟩ := h
  refine op_catA pins s σ H _ _ v u Q I rx ry ⟨a, b, xs, ys, rfl, rfl, ha, hb, hz, fun e => q b H (Same.refl H) (by rw [e]; exact hb), fun _ e => q a H (Same.refl H) (by rw [e, List.append_nil]; exact ha), fun _ _ p np => q p _ (same_new (Same.refl H) np) (.inl (.inl upd_same))⟩
theorem cut_last {xs : List V} : cutV xs (some (-1)) none = xs.drop (xs.length - 1) := by
  unfold cutV
  have e : HT.sIx xs.length 0 (some (-1)) = xs.length - 1 := by
    show (if (-1 : Int) < 0 then ((-1 : Int) + (xs.length : Int)).toNat else min (-1 : Int).toNat xs.length) = _
    rw [if_pos (by decide)]
    omega
  rw [e, HT.sIx_none, List.take_of_length_le (by rw [List.length_drop]; omega)]
/-! ### data of rows -/
abbrev rD (qs : List (List Str)) : PyData := .tuple (qs.map fun z => .tuple (tD z))
theorem dp_refs {K : PySem.W.Frag} {H : Hp} : ∀ {LL : List (Addr × List Str)}, TxtsAt K H LL → DpAll K H (LL.map fun q => V.ref q.1) ((LL.map (·.2)).map fun z => PyData.tuple (tD z))
  | [], _ => .nil
  | q :: LL, h => .cons (.tup (h q List.mem_cons_self) (dp_texts _)) (dp_refs fun x hx => h x (List.mem_cons_of_mem _ hx))
theorem RowAt.dp {K : PySem.W.Frag} {H : Hp} {p : Addr} {LL : List (Addr × List Str)} (h : RowAt K H p LL) : Dp K H (.ref p) (rD (LL.map (·.2))) := .tup h.e (dp_refs h.t)
theorem row_all : ∀ {qs : List (List Str)}, (∀ q ∈ qs, ∀ z ∈ q, PyData.strOk z = true) → PyData.canLayAll0 (qs.map fun z => PyData.tuple (tD z)) = true ∧ PyData.depthAll (qs.map fun z => PyData.tuple (tD z)) ≤ 2
  | [], _ => ⟨rfl, Nat.zero_le _⟩
  | q :: qs, h => by
    obtain ⟨i1, i2⟩ := row_all (qs := qs) fun x hx => h x (List.mem_cons_of_mem _ hx)
    have c := canLay_texts q (h q List.mem_cons_self)
    have d := depth_texts q
    refine ⟨?_, ?_⟩
    · rw [List.map_cons, PyData.canLayAll0, i1]
      show (PyData.canLayAll0 (tD q) && true) = true
      rw [c]
      rfl
    · rw [List.map_cons, PyData.depthAll, PyData.depth]
      omega
theorem row_shaped {qs : List (List Str)} (h : ∀ q ∈ qs, ∀ z ∈ q, PyData.strOk z = true) : SeqAt.shaped (rD qs) = true := by
  obtain ⟨h1, h2⟩ := row_all h
  unfold SeqAt.shaped
  rw [Bool.and_eq_true]
  exact ⟨h1, decide_eq_true (by rw [PyData.depth]; omega)⟩
theorem eqv_rows : ∀ (xs ys : List (List Str)), PyData.eqvAll (xs.map fun z => PyData.tuple (tD z)) (ys.map fun z => PyData.tuple (tD z)) = decide (xs = ys)
  | [], [] => rfl
  | [], _ :: _ => rfl
  | _ :: _, [] => rfl
  | x :: xs, y :: ys => by
    rw [List.map_cons, List.map_cons, PyData.eqvAll, eqv_rows xs ys, PyData.eqv, eqv_texts]
    by_cases e : x = y
    · by_cases e2 : xs = ys
      · rw [decide_eq_true e, decide_eq_true e2, e, e2, decide_eq_true rfl]
        rfl
      · rw [decide_eq_true e, decide_eq_false e2, decide_eq_false (fun h => e2 (List.cons.inj h).2)]
        rfl
    · rw [decide_eq_false e, decide_eq_false (fun h => e (List.cons.inj h).1)]
      rfl
theorem eqv_row (xs ys : List (List Str)) : PyData.eqv (rD xs) (rD ys) = decide (xs = ys) := by
  rw [PyData.eqv]
  exact eqv_rows xs ys
theorem good_ok {q : List Str} (h : goodB q = true) : ∀ z ∈ q, PyData.strOk z = true := fun z hz => by
  unfold goodB at h
  rw [Bool.and_eq_true, Bool.and_eq_true] at h
  exact names_low (List.all_eq_true.mp h.2.1 z hz)
/-- a loose row -/
def looseB (qs : List (List Str)) : Bool := (decide (qs.length ≤ 402) && qs.all goodB) && !decide (qs.drop (qs.length - 1) = [[]])
section
variable {P : Program} {w : World} {K : PySem.W.Frag} {mg : Str → Option Value} {base : Heap}
/-! ### is_loose, digit_at, merged -/
def spLoose (K : PySem.W.Frag) : Sp := fun vs H Q _ => ∃ (p : Addr) (LL : List (Addr × List Str)), vs = [V.ref p] ∧ RowAt K H p LL ∧ Few (LL.map (·.2)) ∧ ∀ H', Same H H' → Q (.bl (looseB (LL.map (·.2)))) H'
theorem ok_loose {f : Addr} {fd : FuncData} (F : Fun K "is_loose" "is_loose" s_is_loose f fd) (T : Top K mg) : FnOk P w K mg base CX0 6 f fd ["value"] (spLoose K) := by
  have cd : Cal P w K mg base 5 "are_loose_digits" ["value"] (spLDig K) := T.d_are_loose_digits.cal fun f fd F => ok_ldig F T
  refine F.ok sc_is_loose (fun vs H Q E h => ?_) (fun cdv A outer s H vs Q E hr h => ?_)
  · obtain ⟨p, LL, rfl, _⟩ := h
    rfl
  · obtain ⟨p, LL, rfl, hR, hF, q⟩ := h
    refine ⟨_, pss_one (ps_ret (pe_and (pe_cal cd hr (by rfl) (pa_cons (pv 0) pa_nil)) (pe_one (pe_cmpR (op_neD hr.units) (pe_slice sl_tupS (pv 0) (po_some (pe_un un_neg pe_int)) po_none) (pe_tup (pa_cons (pe_tup pa_nil) pa_nil)) (by rfl))))), ?_⟩
    have ea : (LL.all fun q => goodB q.2) = (LL.map (·.2)).all goodB := by rw [List.all_map]; rfl
    refine ⟨_, rfl, p, LL, rfl, hR, hF, fun H1 s1 => ⟨_, rfl, ?_⟩⟩
    have h1 : ∀ H', Same H1 H' → Q (.bl (looseB (LL.map (·.2)))) H' := fun H' s => q H' fun b o e => s _ _ (s1 _ _ e)
    unfold looseB at h1
    rw [← ea, List.length_map] at h1
    cases c : (decide (LL.length ≤ 402) && LL.all fun q => goodB q.2) with
    | false =>
      rw [if_neg (by decide)]
      have h2 := h1 H1 (Same.refl H1)
      rw [c, Bool.false_and] at h2
      exact h2
    | true =>
      rw [if_pos rfl]
      have hg : ∀ q ∈ LL, goodB q.2 = true := by
        rw [Bool.and_eq_true] at c
        exact List.all_eq_true.mp c.2
      have hR1 := hR.same s1
      refine ⟨_, rfl, _, rfl, _, rfl, p, _, rfl, hR1.e, fun p2 G s2 hp2 => ?_⟩
      rw [cut_last, List.length_map, ← List.map_drop] at hp2
      have hR2 : RowAt K G p2 (LL.drop (LL.length - 1)) := ⟨hp2, fun q hq => sqT_sm s2 (hR1.t q (List.mem_of_mem_drop hq))⟩
      refine ⟨Nat.zero_le _, fun p3 n3 => ⟨by show 1 ≤ sizeLine; decide, fun p4 n4 => ?_⟩⟩
      have s3 := same_new (o := .tup []) (Same.refl G) n3
      have e3 : (upd G p3 (.tup [])) p3 = some (.tup []) := upd_same
      generalize upd G p3 (.tup []) = G3 at s3 e3 n4
      have s4 := same_new (o := .tup [V.ref p3]) (Same.refl G3) n4
      have hR4 : RowAt K (upd G3 p4 (.tup [V.ref p3])) p4 [(p3, [])] := ⟨.inl (.inl upd_same), fun q hq => by
        rw [List.mem_singleton.mp hq]
        exact .inl (.inl (s4 _ _ e3))⟩
      have s24 : Same G (upd G3 p4 (.tup [V.ref p3])) := fun b o e => s4 _ _ (s3 _ _ e)
      refine ⟨_, _, (hR2.same s24).dp, hR4.dp, row_shaped fun q hq => ?_, row_shaped fun q hq => ?_, ?_⟩
      · obtain ⟨x, hx, rfl⟩ := List.mem_map.mp hq
        exact good_ok (hg x (List.mem_of_mem_drop hx))
      · rw [List.mem_singleton.mp hq]
        exact nofun
      rw [eqv_row]
      have h2 := h1 _ fun b o e => s24 _ _ (s2 _ _ e)
      rw [c, Bool.true_and, ← List.map_drop] at h2
      exact h2
def spDigAt (K : PySem.W.Frag) : Sp := fun vs H Q _ => ∃ (p : Addr) (LL : List (Addr × List Str)) (r : Nat), vs = [V.ref p, V.int (r : Nat)] ∧ RowAt K H p LL ∧ ∀ (a : Addr) H', Same H H' → SqT K H' a (((LL[r]?.map (·.2)).getD []).map V.str) → Q (.ref a) H'
theorem ok_digat {f : Addr} {fd : FuncData} (F : Fun K "digit_at" "digit_at" s_digit_at f fd) (T : Top K mg) : FnOk P w K mg base CX0 1 f fd ["digits", "rank"] (spDigAt K) := by
  refine F.ok sc_digit_at (fun vs H Q E h => ?_) (fun cdv A outer s H vs Q E hr h => ?_)
  · obtain ⟨p, LL, r, rfl, _⟩ := h
    rfl
  · obtain ⟨p, LL, r, rfl, hR, q⟩ := h
    refine ⟨_, pss_one (ps_ret (pe_ifExp (pt_cmpR op_lt (pv 1) (pe_callB call_len_seq (by rfl) T.b_len PySem.boot_len (pa_cons (pv 0) pa_nil)) (nomark _)) (pe_ix ix_tup (pv 0) (pv 1) (fun _ _ => rfl)) (pe_tup pa_nil))), ?_⟩
    refine ⟨_, rfl, _, rfl, p, _, rfl, .inr hR.e, _, _, rfl, rfl, _, rfl, ite2 (fun c => ?_) (fun c => ?_)⟩
    · have hr' : r < LL.length := by
        have := of_decide_eq_true c
        rw [List.length_map] at this
        omega
      have hq : LL[r]? = some LL[r] := List.getElem?_eq_getElem hr'
      refine ⟨_, rfl, _, rfl, p, _, _, .ref LL[r].1, rfl, rfl, hR.e, ?_, ?_⟩
      · rw [show (LL.map fun q => V.ref q.1) = (LL.map fun q => V.ref q.1) from rfl]
        refine atI_nat ?_
        rw [List.getElem?_map, hq]
        rfl
      · refine q _ H (Same.refl H) ?_
        rw [hq]
        exact hR.t _ (List.mem_of_getElem? hq)
    · have hr' : LL.length ≤ r := by
        rw [List.length_map] at c
        have h : ¬ ((r : Nat) : Int) < ((LL.length : Nat) : Int) := fun h => c (decide_eq_true h)
        omega
      refine ⟨Nat.zero_le _, fun p2 n2 => q _ _ (same_new (Same.refl H) n2) ?_⟩
      rw [List.getElem?_eq_none hr']
      exact .inl (.inl upd_same)
/-- two digits as one -/
def spMerged (K : PySem.W.Frag) : Sp := fun vs H Q _ => ∃ (a b : Addr) (xs ys : List Str), vs = [V.ref a, V.ref b] ∧ SqT K H a (xs.map V.str) ∧ SqT K H b (ys.map V.str) ∧ xs.length + ys.length ≤ 1000 ∧
  ∀ (p : Addr) (zs : List Str) H', Same H H' → zs.Perm (xs ++ ys) → sortedS zs = true → H' p = some (.tup (zs.map V.str)) → Q (.ref p) H'
theorem ok_merged {f : Addr} {fd : FuncData} (F : Fun K "merged" "merged" s_merged f fd) (T : Top K mg) : FnOk P w K mg base CX0 1 f fd ["one", "other"] (spMerged K) := by
  refine F.ok sc_merged (fun vs H Q E h => ?_) (fun cdv A outer s H vs Q E hr h => ?_)
  · obtain ⟨a, b, xs, ys, rfl, _⟩ := h
    rfl
  · obtain ⟨a, b, xs, ys, rfl, ha, hb, hl, q⟩ := h
    refine ⟨_, pss_one (ps_ret (pe_callTy call_tuple_of (by rfl) T.b_tuple (by decide +kernel) (pa_cons (pe_callB cr_sortedTS (by rfl) T.b_sorted (by decide +kernel) (pa_cons (pe_op op_catS (pv 0) (pv 1)) pa_nil)) pa_nil))), ?_⟩
    have big : 100000 ≤ sizeLine := by decide
    refine ⟨_, rfl, _, rfl, a, b, _, _, rfl, rfl, ha, hb, by rw [List.length_map, List.length_map]; omega, fun p1 G1 s1 hp1 => ?_⟩
    rw [← List.map_append] at hp1
    refine ⟨p1, xs ++ ys, rfl, hp1, by rw [List.length_append]; omega, fun zs p2 hperm hs n2 => ?_⟩
    have s2 := same_new (o := .lst (zs.map V.str)) s1 n2
    refine ⟨p2, _, rfl, .inl ⟨.inl (.inl upd_same), fun p3 n3 => ?_⟩⟩
    exact q p3 zs _ (same_new s2 n3) hperm hs upd_same
end
end Kl

set_option maxRecDepth 100000
set_option maxHeartbeats 4000000
namespace Kl
open PySem PySem.Spec PyProof.Rows L2 Gx Mx
theorem len_sum : ∀ l : List (List Str), (l.map fun q => ((q.length : Nat) : Int)).sum = (((l.map List.length).sum : Nat) : Int)
  | [] => rfl
  | p :: l => by
    rw [List.map_cons, List.sum_cons, len_sum l, List.map_cons, List.sum_cons, Int.natCast_add]
theorem call_lenK {X : Cx} {K : PySem.W.Frag} (hk : X.K = K) : CallR X (.builtin "len") (fun xs H Q => ∃ p ys, xs = [V.ref p] ∧ (SqL K H p ys ∨ SqT K H p ys) ∧ Q (V.int (ys.length : Nat)) H) := by
  subst hk
  exact call_len_seq
section
variable {P : Program} {w : World} {K : PySem.W.Frag} {mg : Str → Option Value} {base : Heap}
/-! ### _check_loose, trees_of -/
def spChkL (K : PySem.W.Frag) : Sp := fun vs H Q _ => ∃ (p : Addr) (LL : List (Addr × List Str)), vs = [V.ref p] ∧ RowAt K H p LL ∧ Few (LL.map (·.2)) ∧ looseB (LL.map (·.2)) = true ∧ ∀ H', Same H H' → Q .non H'
theorem ok_chkL {f : Addr} {fd : FuncData} (F : Fun K "_check_loose" "_check_loose" s_check_loose f fd) (T : Top K mg) : FnOk P w K mg base CX0 7 f fd ["row"] (spChkL K) := by
  have cl : Cal P w K mg base 6 "is_loose" ["value"] (spLoose K) := T.d_is_loose.cal fun f fd F => ok_loose F T
  refine F.ok sc_check_loose (fun vs H Q E h => ?_) (fun cdv A outer s H vs Q E hr h => ?_)
  · obtain ⟨p, LL, rfl, _⟩ := h
    rfl
  · obtain ⟨p, LL, rfl, hR, hF, hL, q⟩ := h
    refine ⟨_, pss_one (ps_if (pt_not (pt_val (pe_cal cl hr (by rfl) (pa_cons (pv 0) pa_nil)))) (pss_one ps_never) pss_nil), ?_⟩
    refine ⟨_, rfl, p, LL, rfl, hR, hF, fun H1 s1 => ⟨_, rfl, ?_⟩⟩
    rw [hL]
    show (if (!true) = true then _ else _)
    rw [if_neg (by decide)]
    exact q H1 s1
def spTrees (K : PySem.W.Frag) : Sp := fun vs H Q _ => ∃ (p : Addr) (LL : List (Addr × List Str)), vs = [V.ref p] ∧ RowAt K H p LL ∧ Few (LL.map (·.2)) ∧ looseB (LL.map (·.2)) = true ∧ ∀ H', Same H H' → Q (.int (((LL.map (·.2)).map List.length).sum : Nat)) H'
abbrev NTR : List Str := ["row", "digit"]
theorem ok_trees {f : Addr} {fd : FuncData} (F : Fun K "trees_of" "trees_of" s_trees_of f fd) (T : Top K mg) : FnOk P w K mg base CX0 8 f fd ["row"] (spTrees K) := by
  have cc : Cal P w K mg base 7 "_check_loose" ["row"] (spChkL K) := T.d_check_loose.cal fun f fd F => ok_chkL F T
  refine F.ok sc_trees_of (fun vs H Q E h => ?_) (fun cdv A outer s H vs Q E hr h => ?_)
  · obtain ⟨p, LL, rfl, _⟩ := h
    rfl
  · obtain ⟨p, LL, rfl, hR, hF, hL, q⟩ := h
    refine ⟨_, pss_cons (ps_expr (pe_cal cc hr (by rfl) (pa_cons (pv 0) pa_nil)))
      (pss_one (ps_ret (pe_callB (cr_sum rfl) (by rfl) T.b_sum (by decide +kernel) (pa_cons (pe_lc (own := [("digit", 1)]) (g := gName 1) (tt := tYes) rfl sc_trees_of.nd (pi_tup (pv 0))
        (blkOk_by (N := NTR) (sc := defScope s_trees_of) (by decide +kernel)) (fun _ _ _ _ _ => pg_name (i := 1) sc_trees_of.nd rfl (.inl rfl)) (fun _ _ _ _ _ => pts_nil)
        (fun _ _ _ _ _ => pe_callB (call_lenK (K := K) (by exact rfl)) (by rfl) T.b_len PySem.boot_len (pa_cons (pv 1) pa_nil))) pa_nil)))), ?_⟩
    have big : 100000 ≤ sizeLine := by decide
    have l1 : LL.length ≤ 1000 := by
      have := hF.1
      rw [List.length_map] at this
      exact this
    refine ⟨_, rfl, p, LL, rfl, hR, hF, hL, fun H1 s1 => ?_⟩
    have hR1 := hR.same s1
    refine ⟨_, rfl, p, rfl, ⟨_, hR1.e⟩, fun D hD => ?_⟩
    refine lc_it (g := gName 1) (tt := tYes) (vs := [1]) (walk_tup (K := K) (a := p) (xs := LL.map fun q => V.ref q.1)) (fun j G' => G' D = some (.lst (((LL.take j).map fun q => ((q.2.length : Nat) : Int)).map V.int)) ∧ Same H1 G')
      ⟨upd_same, same_new (Same.refl H1) hD⟩ (fun j G' _ h => sqT_sm h.2 hR1.e) (fun j u Gx G' hj h hy => ?_) (fun G' h => ?_)
    · obtain ⟨eD, sm⟩ := h
      obtain ⟨rfl, hu⟩ := hy
      have hu : (LL.map fun q => V.ref q.1)[j]? = some u := hu
      rw [List.getElem?_map] at hu
      obtain ⟨q0, hq0, rfl⟩ := Option.map_eq_some_iff.mp hu
      have hs := sqT_sm sm (hR1.t q0 (List.mem_of_getElem? hq0))
      refine ⟨rfl, _, rfl, q0.1, _, rfl, .inr hs, ?_⟩
      rw [List.length_map]
      refine ⟨_, eD, ?_, ?_, fun b o e => by rw [upd_ne (ne_of_none e hD)]; exact sm b o e⟩
      · rw [List.length_map, List.length_map, List.length_take]
        omega
      · rw [upd_same, take_snoc hq0, List.map_append, List.map_append]
        rfl
    · obtain ⟨eD, sm⟩ := h
      rw [List.length_map, List.take_length] at eD
      refine ⟨D, _, rfl, .inl (.inl eD), ?_⟩
      have h1 := len_sum (LL.map (·.2))
      rw [List.map_map] at h1
      rw [show ((LL.map fun q => ((q.2.length : Nat) : Int))).sum = _ from h1]
      exact q G' fun b o e => sm _ _ (s1 _ _ e)
end
end Kl

set_option maxRecDepth 100000
set_option maxHeartbeats 4000000
namespace Kl
open PySem PySem.Spec PyProof.Rows L2 Gx Mx
theorem name_len {z : Str} (h : nameB z = true) : z.length ≤ 8 := by
  unfold nameB at h
  simp only [Bool.and_eq_true, decide_eq_true_eq] at h
  exact h.1.2
/-- the digit at a place, none is () -/
def dg (qs : List (List Str)) (i : Nat) : List Str := (qs[i]?).getD []
theorem dg_map (LL : List (Addr × List Str)) (i : Nat) : (LL[i]?.map (·.2)).getD [] = dg (LL.map (·.2)) i := by
  unfold dg
  rw [List.getElem?_map]
theorem loose_facts {qs : List (List Str)} (h : looseB qs = true) : qs.length ≤ 402 ∧ (∀ q ∈ qs, goodB q = true) ∧ ∀ j, j + 1 = qs.length → dg qs j ≠ [] := by
  unfold looseB at h
  rw [Bool.and_eq_true, Bool.and_eq_true] at h
  obtain ⟨⟨h1, h2⟩, h3⟩ := h
  refine ⟨of_decide_eq_true h1, List.all_eq_true.mp h2, fun j hj e => ?_⟩
  have hl : j < qs.length := by omega
  have e1 : qs.drop (qs.length - 1) = [qs[j]] := by
    rw [show qs.length - 1 = j by omega, List.drop_eq_getElem_cons hl, List.drop_eq_nil_of_le (by omega)]
  unfold dg at e
  rw [List.getElem?_eq_getElem hl] at e
  have e2 : qs[j] = [] := e
  rw [e1, e2, decide_eq_true rfl] at h3
  cases h3
theorem loose_of {qs : List (List Str)} (h1 : qs.length ≤ 402) (h2 : ∀ q ∈ qs, goodB q = true) (h3 : ∀ j, j + 1 = qs.length → dg qs j ≠ []) : looseB qs = true := by
  unfold looseB
  rw [decide_eq_true h1, List.all_eq_true.mpr h2, Bool.true_and, Bool.true_and]
  have e : ¬ qs.drop (qs.length - 1) = [[]] := fun e => by
    cases hq : qs.length with
    | zero =>
      have : qs = [] := List.eq_nil_of_length_eq_zero hq
      rw [this] at e
      cases e
    | succ j =>
      have hl : j < qs.length := by omega
      rw [show qs.length - 1 = j by omega, List.drop_eq_getElem_cons hl] at e
      refine h3 j hq.symm ?_
      unfold dg
      rw [List.getElem?_eq_getElem hl]
      exact (List.cons.inj e).1
  rw [decide_eq_false e]
  rfl
theorem dg_good {qs : List (List Str)} (h : ∀ q ∈ qs, goodB q = true) (i : Nat) : ∀ z ∈ dg qs i, nameB z = true := fun z hz => by
  unfold dg at hz
  cases e : qs[i]? with
  | none =>
    rw [e] at hz
    cases hz
  | some q =>
    rw [e] at hz
    have hg := h q (List.mem_of_getElem? e)
    unfold goodB at hg
    rw [Bool.and_eq_true, Bool.and_eq_true] at hg
    exact List.all_eq_true.mp hg.2.1 z hz
theorem sqT_lst {K : PySem.W.Frag} {G : Hp} {D a : Addr} {xs ys : List V} {o : HO} (e : G D = some (.lst xs)) (h : SqT K G a ys) : SqT K (upd G D o) a ys := by
  rcases h with (h | ⟨u, h⟩) | h
  · exact .inl (.inl (by rw [upd_ne (fun z => by rw [z, e] at h; cases h)]; exact h))
  · exact .inl (.inr ⟨u, by rw [upd_ne (fun z => by rw [z, e] at h; cases h)]; exact h⟩)
  · exact .inr h
section
variable {P : Program} {w : World} {K : PySem.W.Frag} {mg : Str → Option Value} {base : Heap}
/-! ### added -/
/-- the sum of two rows, digit by digit -/
def IsSum (q1 q2 qs : List (List Str)) : Prop := qs.length = max q1.length q2.length ∧ ∀ i, i < qs.length → (dg qs i).Perm (dg q1 i ++ dg q2 i) ∧ sortedS (dg qs i) = true
def spAdd (K : PySem.W.Frag) : Sp := fun vs H Q _ => ∃ (p1 p2 : Addr) (L1 L2 : List (Addr × List Str)), vs = [V.ref p1, V.ref p2] ∧ RowAt K H p1 L1 ∧ RowAt K H p2 L2 ∧ Few (L1.map (·.2)) ∧ Few (L2.map (·.2)) ∧ looseB (L1.map (·.2)) = true ∧ looseB (L2.map (·.2)) = true ∧
  (∀ i, (dg (L1.map (·.2)) i).length + (dg (L2.map (·.2)) i).length ≤ 20) ∧ ∀ (p : Addr) (LL : List (Addr × List Str)) H', Same H H' → RowAt K H' p LL → IsSum (L1.map (·.2)) (L2.map (·.2)) (LL.map (·.2)) → looseB (LL.map (·.2)) = true → Q (.ref p) H'
abbrev NAD : List Str := ["one", "other", "ranks", "row", "rank"]
theorem ok_add {f : Addr} {fd : FuncData} (F : Fun K "added" "added" s_added f fd) (T : Top K mg) : FnOk P w K mg base CX0 8 f fd ["one", "other"] (spAdd K) := by
  have cc : Cal P w K mg base 7 "_check_loose" ["row"] (spChkL K) := T.d_check_loose.cal fun f fd F => ok_chkL F T
  have cl : Cal P w K mg base 7 "is_loose" ["value"] (spLoose K) := (T.d_is_loose.cal fun f fd F => ok_loose F T).mono (by decide)
  have cm : Cal P w K mg base 7 "merged" ["one", "other"] (spMerged K) := (T.d_merged.cal fun f fd F => ok_merged F T).mono (by decide)
  have cd : Cal P w K mg base 7 "digit_at" ["digits", "rank"] (spDigAt K) := (T.d_digit_at.cal fun f fd F => ok_digat F T).mono (by decide)
  refine F.ok sc_added (fun vs H Q E h => ?_) (fun cdv A outer s H vs Q E hr h => ?_)
  · obtain ⟨p1, p2, L1, L2, rfl, _⟩ := h
    rfl
  · obtain ⟨p1, p2, L1, L2, rfl, hR1, hR2, hF1, hF2, hL1, hL2, h20, q⟩ := h
    refine ⟨_, pss_cons (ps_expr (pe_cal cc hr (by rfl) (pa_cons (pv 0) pa_nil))) (pss_cons (ps_expr (pe_cal cc hr (by rfl) (pa_cons (pv 1) pa_nil)))
      (pss_cut (ps_set (i := 2) sc_added.nd rfl (.inl rfl) (pe_callB (call_max2 rfl) (by rfl) T.b_max (by decide +kernel) (pa_cons (pe_callB call_len_seq (by rfl) T.b_len PySem.boot_len (pa_cons (pv 0) pa_nil)) (pa_cons (pe_callB call_len_seq (by rfl) T.b_len PySem.boot_len (pa_cons (pv 1) pa_nil)) pa_nil))))
      (pss_cut (ps_set (i := 3) sc_added.nd rfl (.inl rfl) (pe_callTy call_tuple_of (by rfl) T.b_tuple (by decide +kernel) (pa_cons (pe_lc (own := [("rank", 4)]) (g := gName 4) (tt := tYes) rfl sc_added.nd (pi_range1 (by rfl) T.b_range (pa_cons (pv 2) pa_nil))
          (blkOk_by (N := NAD) (sc := defScope s_added) (by decide +kernel)) (fun _ _ _ _ _ => pg_name (i := 4) sc_added.nd rfl (.inl rfl)) (fun _ _ _ _ _ => pts_nil)
          (fun _ _ _ _ _ => pe_cal cm hr (by rfl) (pa_cons (pe_cal cd hr (by rfl) (pa_cons (pv 0) (pa_cons (pv 4) pa_nil))) (pa_cons (pe_cal cd hr (by rfl) (pa_cons (pv 1) (pa_cons (pv 4) pa_nil))) pa_nil)))) pa_nil)))
      (pss_cons (ps_if (pt_not (pt_val (pe_cal cl hr (by rfl) (pa_cons (pv 3) pa_nil)))) (pss_one ps_never) pss_nil)
      (pss_one (ps_ret (pv 3))))))), ?_⟩
    obtain ⟨m1, g1, t1⟩ := loose_facts hL1
    obtain ⟨m2, g2, t2⟩ := loose_facts hL2
    rw [List.length_map] at m1 m2
    have big : 100000 ≤ sizeLine := by decide
    refine ⟨_, rfl, p1, L1, rfl, hR1, hF1, hL1, fun H1 s1 => ⟨_, rfl, p2, L2, rfl, hR2.same s1, hF2, hL2, fun H2 s2 => ?_⟩⟩
    have s02 : Same H H2 := fun b o e => s2 _ _ (s1 _ _ e)
    have hA := hR1.same s02
    have hB := hR2.same s02
    refine ⟨fun σ' G => σ' = [some (.ref p1), some (.ref p2), some (.int (max L1.length L2.length : Nat)), none, none] ∧ G = H2, ?_, ?_⟩
    · refine ⟨_, rfl, p1, _, rfl, .inr hA.e, _, rfl, p2, _, rfl, .inr hB.e, _, _, rfl, ?_, rfl⟩
      rw [List.length_map, List.length_map]
      exact congrArg (fun v => [some (V.ref p1), some (V.ref p2), some (V.int v), none, none]) (by split <;> omega)
    rintro σ' G ⟨rfl, eG⟩
    have eG' := eG.symm
    subst eG'
    refine ⟨fun σ' G => ∃ (p : Addr) (LL : List (Addr × List Str)), σ' = [some (.ref p1), some (.ref p2), some (.int (max L1.length L2.length : Nat)), some (.ref p), none] ∧ Same H2 G ∧ RowAt K G p LL ∧ IsSum (L1.map (·.2)) (L2.map (·.2)) (LL.map (·.2)), ?_, ?_⟩
    · refine ⟨_, rfl, _, rfl, by omega, by omega, fun D hD => ?_⟩
      rw [Int.toNat_natCast]
      refine lc_range (lo := 0) (fun j G => ∃ LL : List (Addr × List Str), G D = some (.lst (LL.map fun q => V.ref q.1)) ∧ TxtsAt K G LL ∧ LL.length = j ∧ (∀ i, i < j → (dg (LL.map (·.2)) i).Perm (dg (L1.map (·.2)) i ++ dg (L2.map (·.2)) i) ∧ sortedS (dg (LL.map (·.2)) i) = true) ∧ Same H2 G)
        ⟨[], upd_same, nofun, rfl, fun i hi => absurd hi (Nat.not_lt_zero _), same_new (Same.refl H2) hD⟩ (fun j G hj hP => ?_) (fun G hP => ?_)
      · obtain ⟨LL, eD, hT, lL, hP, sm⟩ := hP
        rw [show (0 : Int) + (j : Nat) = ((j : Nat) : Int) from Int.zero_add _]
        refine ⟨rfl, _, rfl, _, rfl, p1, L1, j, rfl, hA.same sm, fun a1 G1 u1 h1 => ⟨_, rfl, _, rfl, p2, L2, j, rfl, (hB.same sm).same u1, fun a2 G2 u2 h2 => ?_⟩⟩
        rw [dg_map] at h1 h2
        refine ⟨a1, a2, _, _, rfl, sqT_sm u2 h1, h2, by have := h20 j; omega, fun p zs G3 u3 hperm hs ep => ?_⟩
        have eD3 := u3 _ _ (u2 _ _ (u1 _ _ eD))
        refine ⟨_, eD3, ?_, LL ++ [(p, zs)], ?_, fun q hq => ?_, by rw [List.length_append, lL]; rfl, fun i hi => ?_, fun b o e => ?_⟩
        · rw [List.length_map]
          omega
        · rw [upd_same, List.map_append]
          rfl
        · rcases List.mem_append.mp hq with h | h
          · exact sqT_lst eD3 (sqT_sm u3 (sqT_sm u2 (sqT_sm u1 (hT q h))))
          · rw [List.mem_singleton.mp h]
            exact sqT_lst eD3 (.inl (.inl ep))
        · rw [List.map_append]
          by_cases c : i < j
          · have e : dg (LL.map (·.2) ++ [(p, zs)].map (·.2)) i = dg (LL.map (·.2)) i := by
              unfold dg
              rw [List.getElem?_append_left (by rw [List.length_map]; omega)]
            rw [e]
            exact hP i c
          · have ei : i = j := by omega
            subst ei
            have e : dg (LL.map (·.2) ++ [(p, zs)].map (·.2)) i = zs := by
              unfold dg
              rw [List.getElem?_append_right (by rw [List.length_map]; omega), List.length_map, lL, Nat.sub_self]
              rfl
            rw [e]
            exact ⟨hperm, hs⟩
        · rw [upd_ne (ne_of_none e hD)]
          exact u3 _ _ (u2 _ _ (u1 _ _ (sm _ _ e)))
      · obtain ⟨LL, eD, hT, lL, hP, sm⟩ := hP
        refine ⟨D, _, rfl, .inl ⟨.inl (.inl eD), fun tq ntq => ?_⟩⟩
        have u := same_new (o := .tup (LL.map fun q => V.ref q.1)) (Same.refl G) ntq
        refine ⟨tq, LL, rfl, fun b o e => u _ _ (sm _ _ e), ⟨.inl (.inl upd_same), fun q hq => sqT_sm u (hT q hq)⟩, ?_, fun i hi => ?_⟩
        · rw [List.length_map, List.length_map, List.length_map, lL]
        · rw [List.length_map, lL] at hi
          exact hP i hi
    rintro σ' G ⟨p, LL, rfl, sG, hR, hS⟩
    have hS1 := hS.1
    rw [List.length_map, List.length_map, List.length_map] at hS1
    have gq : ∀ q ∈ LL.map (·.2), goodB q = true := fun q hq => by
      obtain ⟨i, hi⟩ := List.getElem?_of_mem hq
      have hil := (List.getElem?_eq_some_iff.mp hi).1
      have e : dg (LL.map (·.2)) i = q := by
        unfold dg
        rw [hi]
        rfl
      obtain ⟨hp, hs⟩ := hS.2 i hil
      rw [e] at hp hs
      unfold goodB
      rw [Bool.and_eq_true, Bool.and_eq_true]
      refine ⟨decide_eq_true ?_, List.all_eq_true.mpr fun z hz => ?_, hs⟩
      · rw [hp.length_eq, List.length_append]
        exact h20 i
      · rcases List.mem_append.mp (hp.mem_iff.mp hz) with h | h
        · exact dg_good g1 i z h
        · exact dg_good g2 i z h
    have hL : looseB (LL.map (·.2)) = true := by
      refine loose_of (by rw [List.length_map]; omega) gq fun j hj e => ?_
      have hjl : j < (LL.map (·.2)).length := by omega
      obtain ⟨hp, _⟩ := hS.2 j hjl
      rw [e] at hp
      have e0 := List.append_eq_nil_iff.mp (List.nil_perm.mp hp)
      rw [List.length_map] at hj
      rcases Nat.le_total L1.length L2.length with c | c
      · exact t2 j (by rw [List.length_map]; omega) e0.2
      · exact t1 j (by rw [List.length_map]; omega) e0.1
    have hF : Few (LL.map (·.2)) := by
      refine ⟨by rw [List.length_map]; omega, fun q hq => ?_⟩
      have hg := gq q hq
      unfold goodB at hg
      rw [Bool.and_eq_true, Bool.and_eq_true] at hg
      have h1 := of_decide_eq_true hg.1
      refine ⟨by omega, fun z hz => ?_⟩
      have hz := List.all_eq_true.mp hg.2.1 z hz
      exact Nat.le_trans (name_len hz) (by decide)
    refine ⟨_, rfl, p, LL, rfl, hR, hF, fun G' u => ⟨_, rfl, ?_⟩⟩
    rw [hL]
    show (if (!true) = true then _ else _)
    rw [if_neg (by decide)]
    exact ⟨_, rfl, q p LL G' (fun b o e => u _ _ (sG _ _ (s02 _ _ e))) (hR.same u) hS hL⟩
end
end Kl

set_option maxRecDepth 100000
set_option maxHeartbeats 4000000
namespace Kl
open PySem PySem.Spec PyProof.Rows L2 Gx Mx
section
variable {P : Program} {w : World} {K : PySem.W.Frag} {mg : Str → Option Value} {base : Heap}
/-! ### trimmed -/
/-- where a row ends -/
def IsEnd (qs : List (List Str)) (n : Nat) : Prop := n ≤ qs.length ∧ (∀ i, n ≤ i → dg qs i = []) ∧ (n = 0 ∨ dg qs (n - 1) ≠ [])
theorem cut_to0 {xs : List V} (n : Nat) : cutV xs none (some ((n : Nat) : Int)) = xs.take n := by
  unfold cutV
  rw [HT.sIx_nat, HT.sIx_none, List.drop_zero, Nat.sub_zero]
  by_cases h : n ≤ xs.length
  · rw [Nat.min_eq_left h]
  · rw [Nat.min_eq_right (by omega), List.take_length, List.take_of_length_le (by omega)]
def spTrim (K : PySem.W.Frag) : Sp := fun vs H Q _ => ∃ (p : Addr) (LL : List (Addr × List Str)), vs = [V.ref p] ∧ RowAt K H p LL ∧ Few (LL.map (·.2)) ∧ (∀ q ∈ LL, goodB q.2 = true) ∧
  ∀ (a : Addr) (n : Nat) H', Same H H' → IsEnd (LL.map (·.2)) n → RowAt K H' a (LL.take n) → Q (.ref a) H'
theorem ok_trim {f : Addr} {fd : FuncData} (F : Fun K "trimmed" "trimmed" s_trimmed f fd) (T : Top K mg) : FnOk P w K mg base CX0 5 f fd ["digits"] (spTrim K) := by
  have cd : Cal P w K mg base 4 "are_digits" ["value"] (spDig K) := T.d_are_digits.cal fun f fd F => ok_dig F T
  refine F.ok sc_trimmed (fun vs H Q E h => ?_) (fun cdv A outer s H vs Q E hr h => ?_)
  · obtain ⟨p, LL, rfl, _⟩ := h
    rfl
  · obtain ⟨p, LL, rfl, hR, hF, hg, q⟩ := h
    refine ⟨_, pss_cons (ps_if (pt_not (pt_val (pe_cal cd hr (by rfl) (pa_cons (pv 0) pa_nil)))) (pss_one ps_never) pss_nil)
      (pss_cut (ps_set (i := 1) sc_trimmed.nd rfl (.inl rfl) (pe_callB call_len_seq (by rfl) T.b_len PySem.boot_len (pa_cons (pv 0) pa_nil)))
      (pss_cut (ps_while PassesOwn.never (PW.pt (pw_and (pt_cmpR op_gt (pv 1) pe_int (nomark _)) (pw_and1 (pt_not (pt_truth (pe_ix ix_tup (pv 0) (pe_op op_sub (pv 1) pe_int) (fun _ _ => rfl)) (fun _ => rfl))))))
        (pss_one (ps_aug (i := 1) sc_trimmed.nd rfl (.inl rfl) pe_int ip_sub)))
      (pss_one (ps_ret (pe_slice sl_tupS (pv 0) po_none (po_some (pv 1))))))), ?_⟩
    refine ⟨_, rfl, p, LL, rfl, hR, hF, fun H1 s1 => ⟨_, rfl, ?_⟩⟩
    rw [List.all_eq_true.mpr hg]
    show (if (!true) = true then _ else _)
    rw [if_neg (by decide)]
    have hR1 := hR.same s1
    refine ⟨fun σ' G => σ' = [some (.ref p), some (.int (LL.length : Nat))] ∧ G = H1, ?_, ?_⟩
    · refine ⟨_, rfl, p, _, rfl, .inr hR1.e, ?_, rfl⟩
      rw [List.length_map]
      rfl
    rintro σ' G ⟨rfl, eG⟩
    have eG' := eG.symm
    subst eG'
    refine ⟨fun σ' G => ∃ n : Nat, σ' = [some (.ref p), some (.int (n : Nat))] ∧ G = H1 ∧ IsEnd (LL.map (·.2)) n, ?_, ?_⟩
    · refine ⟨fun m σ' G => σ' = [some (.ref p), some (.int (m : Nat))] ∧ G = H1 ∧ m ≤ LL.length ∧ ∀ i, m ≤ i → dg (LL.map (·.2)) i = [], ⟨LL.length, rfl, rfl, Nat.le_refl _, fun i hi => ?_⟩, fun m σ' G hW => ?_⟩
      · unfold dg
        rw [List.getElem?_eq_none (by rw [List.length_map]; exact hi)]
        rfl
      obtain ⟨rfl, eG, hm, hall⟩ := hW
      have eG' := eG.symm
      subst eG'
      refine ⟨_, rfl, _, _, rfl, rfl, _, rfl, ?_⟩
      cases m with
      | zero =>
        rw [decide_eq_false (show ¬ (((0 : Nat) : Int) > 0) by decide)]
        show (if false = true then _ else _)
        rw [if_neg (by decide)]
        show (if false = true then _ else _)
        rw [if_neg (by decide)]
        exact ⟨0, rfl, rfl, by rw [List.length_map]; exact hm, hall, .inl rfl⟩
      | succ m =>
        rw [decide_eq_true (show (((m + 1 : Nat) : Int) > 0) by omega)]
        show (if true = true then _ else _)
        rw [if_pos rfl]
        have hml : m < LL.length := hm
        have hq : LL[m]? = some LL[m] := List.getElem?_eq_getElem hml
        have hs := hR1.t _ (List.mem_of_getElem? hq)
        have ed : dg (LL.map (·.2)) m = LL[m].2 := by
          unfold dg
          rw [List.getElem?_map, hq]
          rfl
        refine ⟨_, rfl, _, rfl, _, _, rfl, rfl, p, _, _, .ref LL[m].1, rfl, rfl, hR1.e, ?_, !(LL[m].2.map V.str).isEmpty, .inr (.inl ⟨_, hs, rfl⟩), ?_⟩
        · rw [show ((m + 1 : Nat) : Int) - 1 = ((m : Nat) : Int) by omega]
          refine atI_nat ?_
          rw [List.getElem?_map, hq]
          rfl
        cases hc : LL[m].2 with
        | nil =>
          show (if (!(!true)) = true then _ else _)
          rw [if_pos (by decide)]
          refine ⟨fun σ' G => σ' = [some (.ref p), some (.int (m : Nat))] ∧ G = H1, fun σ' G h => ⟨m, Nat.lt_succ_self m, h.1, h.2, by omega, fun i hi => ?_⟩, ?_⟩
          · rcases Nat.eq_or_lt_of_le hi with h | h
            · rw [← h, ed, hc]
            · exact hall i h
          · refine ⟨_, rfl, _, _, rfl, rfl, ?_⟩
            refine ⟨?_, rfl⟩
            show [some (V.ref p), some (V.int (((m + 1 : Nat) : Int) - 1))] = _
            rw [show ((m + 1 : Nat) : Int) - 1 = ((m : Nat) : Int) by omega]
        | cons z zs =>
          show (if (!(!false)) = true then _ else _)
          rw [if_neg (by decide)]
          refine ⟨m + 1, rfl, rfl, by rw [List.length_map]; exact hm, hall, .inr ?_⟩
          rw [Nat.add_sub_cancel, ed, hc]
          exact List.cons_ne_nil _ _
    rintro σ' G ⟨n, rfl, eG, hE⟩
    have eG' := eG.symm
    subst eG'
    refine ⟨_, rfl, _, rfl, _, rfl, p, _, rfl, hR1.e, fun a G2 s2 ha => ?_⟩
    rw [cut_to0, ← List.map_take] at ha
    exact q a n G2 (fun b o e => s2 _ _ (s1 _ _ e)) hE ⟨ha, fun x hx => sqT_sm s2 (hR1.t x (List.mem_of_mem_take hx))⟩
end
end Kl

set_option maxRecDepth 100000
set_option maxHeartbeats 4000000
namespace Kl
open PySem PySem.Spec PyProof.Rows L2 Gx Mx
theorem cps_app' (a b : Str) : (a ++ b).cps.toList = a.cps.toList ++ b.cps.toList := by
  show (a.cps ++ b.cps).toList = _
  rw [Array.toList_append]
theorem sum_by {n : Nat} : ∀ {q : List Str}, (∀ z ∈ q, z.length ≤ n) → (q.map (·.length)).sum ≤ q.length * n
  | [], _ => Nat.zero_le _
  | a :: r, h => by
    have h1 := h a List.mem_cons_self
    have h2 := sum_by fun z hz => h z (List.mem_cons_of_mem _ hz)
    rw [List.map_cons, List.sum_cons, List.length_cons, Nat.add_mul]
    omega
/-! ### digits and rows as texts -/
def parseD (z : Str) : Option (List Str) := if z = "0" then some [] else if goodB (Txt.split z "+") = true then some (Txt.split z "+") else none
def textD (q : List Str) : Str := if q = [] then "0" else Txt.join "+" q
def textR (qs : List (List Str)) : Str := if qs = [] then "-" else Txt.join " " (qs.map textD)
/-- all of them, if all are there -/
def allSome {α : Type} : List (Option α) → Option (List α)
  | [] => some []
  | none :: _ => none
  | some x :: r => (allSome r).map (x :: ·)
def parseR (z : Str) : Option (List (List Str)) := if z = "-" then some [] else
  match allSome ((Txt.split z " ").map parseD) with
  | none => none
  | some qs => if qs.drop (qs.length - 1) = [[]] then none else some qs
theorem le_sum : ∀ {l : List Str} {w : Str}, w ∈ l → w.length ≤ (l.map (·.length)).sum
  | a :: r, w, h => by
    rw [List.map_cons, List.sum_cons]
    rcases List.mem_cons.mp h with rfl | h
    · omega
    · have := le_sum h
      omega
theorem join_cut (z y : Str) : Txt.join y (Txt.split z y) = z := by
  rw [TL.join_eq]
  exact StrLaws.join_split z y
theorem split_ne (z y : Str) : Txt.split z y ≠ [] := fun h => by
  have := split_pos z y
  rw [h] at this
  exact absurd this (by decide)
theorem split_short {z y w : Str} (hy : 1 ≤ y.length) (h : w ∈ Txt.split z y) : w.length ≤ z.length := by
  have h1 := split_weight z y hy
  have h2 : w.length ≤ ((Txt.split z y).map (·.length)).sum := by
    exact le_sum h
  have h3 := split_pos z y
  omega
theorem parse_text {w : Str} {q : List Str} (h : parseD w = some q) : textD q = w ∧ goodB q = true := by
  unfold parseD at h
  split at h
  · rename_i e
    cases h
    exact ⟨e.symm, by decide +kernel⟩
  · split at h
    · rename_i e c
      cases h
      unfold textD
      rw [if_neg (split_ne w _), join_cut]
      exact ⟨rfl, c⟩
    · cases h
theorem low_no {z : Str} (h : nameB z = true) {c : Nat} (hc : c ∈ z.cps.toList) : 97 ≤ c ∧ c ≤ 122 := by
  unfold nameB at h
  rw [Bool.and_eq_true] at h
  have := List.all_eq_true.mp h.2 c hc
  exact of_decide_eq_true this
theorem good_names {q : List Str} (h : goodB q = true) : ∀ z ∈ q, nameB z = true := fun z hz => by
  unfold goodB at h
  rw [Bool.and_eq_true, Bool.and_eq_true] at h
  exact List.all_eq_true.mp h.2.1 z hz
theorem split_names {q : List Str} (h : ∀ z ∈ q, nameB z = true) (hne : q ≠ []) : Txt.split (Txt.join "+" q) "+" = q :=
  TL.split_join (s := 43) (S := []) (by decide +kernel) (by decide +kernel) hne fun p hp hc => by
    have := low_no (h p hp) hc
    omega
theorem text_parse {q : List Str} (h : goodB q = true) : parseD (textD q) = some q := by
  unfold textD
  split
  · rename_i e
    subst e
    decide +kernel
  · rename_i e
    have hs := split_names (good_names h) e
    have h0 : Txt.join "+" q ≠ "0" := fun c => by
      rw [c] at hs
      have h2 : Txt.split ("0" : Str) "+" = [("0" : Str)] := by decide +kernel
      rw [h2] at hs
      rw [← hs] at h
      exact absurd h (by decide +kernel)
    unfold parseD
    rw [if_neg h0, hs, if_pos h]
theorem allSome_map {α β : Type} {f : α → Option β} {g : α → β} : ∀ {xs : List α}, (∀ x ∈ xs, f x = some (g x)) → allSome (xs.map f) = some (xs.map g)
  | [], _ => rfl
  | x :: xs, h => by
    rw [List.map_cons, h x List.mem_cons_self]
    show (allSome (xs.map f)).map (g x :: ·) = _
    rw [allSome_map fun y hy => h y (List.mem_cons_of_mem _ hy)]
    rfl
theorem allSome_some {α : Type} : ∀ {xs : List (Option α)} {ys : List α}, allSome xs = some ys → xs = ys.map some
  | [], ys, h => by cases h; rfl
  | none :: _, _, h => by cases h
  | some x :: r, ys, h => by
    have h : (allSome r).map (x :: ·) = some ys := h
    cases e : allSome r with
    | none => rw [e] at h; cases h
    | some zs =>
      rw [e] at h
      cases h
      rw [allSome_some e]
      rfl
theorem allSome_none {α : Type} : ∀ {xs : List (Option α)}, allSome xs = none → none ∈ xs
  | none :: _, _ => List.mem_cons_self
  | some x :: r, h => by
    have h : (allSome r).map (x :: ·) = none := h
    cases e : allSome r with
    | none => exact List.mem_cons_of_mem _ (allSome_none e)
    | some zs => rw [e] at h; cases h
theorem textD_no {q : List Str} (h : goodB q = true) (c : Nat) (hc : c ∈ (textD q).cps.toList) : c = 48 ∨ c = 43 ∨ (97 ≤ c ∧ c ≤ 122) := by
  unfold textD at hc
  split at hc
  · left
    have : ("0" : Str).cps.toList = [48] := by decide +kernel
    rw [this] at hc
    exact List.mem_singleton.mp hc
  · rename_i e
    rw [TL.join_eq] at hc
    have hn := good_names h
    clear e h
    induction q with
    | nil => cases hc
    | cons a r ih =>
      cases r with
      | nil => exact .inr (.inr (low_no (hn a List.mem_cons_self) hc))
      | cons b r =>
        have hc : c ∈ (a ++ "+" ++ Str.join "+" (b :: r)).cps.toList := hc
        rw [cps_app', cps_app'] at hc
        rcases List.mem_append.mp hc with hc | hc
        · rcases List.mem_append.mp hc with hc | hc
          · exact .inr (.inr (low_no (hn a List.mem_cons_self) hc))
          · have : ("+" : Str).cps.toList = [43] := by decide +kernel
            rw [this] at hc
            exact .inr (.inl (List.mem_singleton.mp hc))
        · exact ih hc fun z hz => hn z (List.mem_cons_of_mem _ hz)
theorem split_digits {qs : List (List Str)} (h : ∀ q ∈ qs, goodB q = true) (hne : qs ≠ []) : Txt.split (Txt.join " " (qs.map textD)) " " = qs.map textD :=
  TL.split_join (s := 32) (S := []) (by decide +kernel) (by decide +kernel) (fun e => hne (List.map_eq_nil_iff.mp e)) fun p hp hc => by
    obtain ⟨q, hq, rfl⟩ := List.mem_map.mp hp
    have := textD_no (h q hq) 32 hc
    omega
theorem textR_parse {qs : List (List Str)} (h : looseB qs = true) : parseR (textR qs) = some qs := by
  unfold looseB at h
  rw [Bool.and_eq_true, Bool.and_eq_true] at h
  obtain ⟨⟨_, h1⟩, h2⟩ := h
  have h1 := List.all_eq_true.mp h1
  unfold textR
  split
  · rename_i e
    subst e
    decide +kernel
  · rename_i e
    have hs := split_digits h1 e
    have h0 : Txt.join " " (qs.map textD) ≠ "-" := fun c => by
      rw [c] at hs
      have h3 : Txt.split ("-" : Str) " " = [("-" : Str)] := by decide +kernel
      rw [h3] at hs
      cases qs with
      | nil => exact e rfl
      | cons q r =>
        have h4 : ("-" : Str) = textD q := (List.cons.inj hs).1
        have h5 := text_parse (h1 q List.mem_cons_self)
        rw [← h4] at h5
        have : parseD ("-" : Str) = none := by decide +kernel
        rw [this] at h5
        cases h5
    unfold parseR
    have h6 : allSome (qs.map (parseD ∘ textD)) = some qs := by
      rw [allSome_map (f := parseD ∘ textD) (g := id) fun q hq => text_parse (h1 q hq), List.map_id]
    rw [if_neg h0, hs, List.map_map, h6]
    have : ¬ qs.drop (qs.length - 1) = [[]] := fun c => by
      rw [decide_eq_true c] at h2
      cases h2
    show (if _ then _ else _) = _
    rw [if_neg this]
/-- what reading gives is written back -/
theorem parseR_text {z : Str} {qs : List (List Str)} (h : parseR z = some qs) (hl : (Txt.split z " ").length ≤ 402) : textR qs = z ∧ looseB qs = true := by
  unfold parseR at h
  split at h
  · rename_i e
    cases h
    exact ⟨e.symm, by decide +kernel⟩
  · cases e : allSome ((Txt.split z " ").map parseD) with
    | none => rw [e] at h; cases h
    | some rs =>
      rw [e] at h
      have h : (if rs.drop (rs.length - 1) = [[]] then none else some rs) = some qs := h
      split at h
      · cases h
      · rename_i c
        cases h
        have e2 := allSome_some e
        have e3 : (Txt.split z " ") = qs.map textD ∧ ∀ q ∈ qs, goodB q = true := by
          clear c e h
          generalize Txt.split z " " = ws at e2
          clear hl
          induction ws generalizing qs with
          | nil =>
            cases qs with
            | nil => exact ⟨rfl, nofun⟩
            | cons q r => cases e2
          | cons w ws ih =>
            cases qs with
            | nil => cases e2
            | cons q r =>
              rw [List.map_cons, List.map_cons] at e2
              obtain ⟨a, b⟩ := List.cons.inj e2
              obtain ⟨i1, i2⟩ := ih b
              obtain ⟨p1, p2⟩ := parse_text a
              refine ⟨by rw [List.map_cons, p1, i1], fun x hx => ?_⟩
              rcases List.mem_cons.mp hx with rfl | hx
              · exact p2
              · exact i2 x hx
        have hne : qs ≠ [] := fun q => by
          have := split_ne z " "
          rw [e3.1, q] at this
          exact this rfl
        refine ⟨?_, ?_⟩
        · unfold textR
          rw [if_neg hne, ← e3.1, join_cut]
        · unfold looseB
          rw [decide_eq_false c, List.all_eq_true.mpr e3.2, decide_eq_true]
          · rfl
          · rw [e3.1, List.length_map] at hl
            exact hl
/-! ### how long they are -/
theorem textD_len {q : List Str} (h : goodB q = true) : (textD q).length ≤ 200 := by
  unfold textD
  split
  · decide +kernel
  · rw [TL.join_eq]
    have h1 := StrLaws.join_length_le "+" q
    have h2 : q.length ≤ 20 := by
      unfold goodB at h
      rw [Bool.and_eq_true] at h
      exact of_decide_eq_true h.1
    have h3 : (q.map (·.length)).sum ≤ q.length * 8 := sum_by fun z hz => name_len (good_names h z hz)
    have h4 : ("+" : Str).length = 1 := by decide +kernel
    rw [h4] at h1
    omega
/-- a text that may be bent -/
structure Tx (n : Nat) (z : Str) : Prop where
  len : z.length ≤ 2100 + n
  few : z.cps.toList.count 32 ≤ 20 + n
  low : ∀ c ∈ z.cps.toList, c < 128
theorem cnt_count (c : Nat) : ∀ l : List Nat, cnt c l = (l.count c : Nat)
  | [] => rfl
  | x :: r => by
    rw [cnt_cons, cnt_count c r, List.count_cons]
    by_cases h : x = c
    · rw [if_pos h, h]
      simp
      omega
    · rw [if_neg h]
      simp [h]
theorem tx_split {n : Nat} {z : Str} (h : Tx n z) (hn : n ≤ 100) : (Txt.split z " ").length ≤ 402 := by
  have h1 := split_len z 32
  rw [cnt_count] at h1
  have h2 := h.few
  have h3 : (⟨#[32]⟩ : Str) = " " := by decide +kernel
  rw [h3] at h1
  omega
theorem tx_row {qs : List (List Str)} (h : ∀ q ∈ qs, goodB q = true) (hl : qs.length ≤ 10) : Tx 0 (textR qs) := by
  unfold textR
  split
  · exact ⟨by decide +kernel, by decide +kernel, by decide +kernel⟩
  · rename_i e
    refine ⟨?_, ?_, ?_⟩
    · rw [TL.join_eq]
      have h1 := StrLaws.join_length_le " " (qs.map textD)
      have h3 : ((qs.map textD).map (·.length)).sum ≤ (qs.map textD).length * 200 := sum_by fun z hz => by
        obtain ⟨q, hq, rfl⟩ := List.mem_map.mp hz
        exact textD_len (h q hq)
      have h4 : (" " : Str).length = 1 := by decide +kernel
      rw [h4] at h1
      rw [List.length_map] at h1 h3
      omega
    · have h1 := split_len (Txt.join " " (qs.map textD)) 32
      have h3 : (⟨#[32]⟩ : Str) = " " := by decide +kernel
      rw [cnt_count, h3, split_digits h e, List.length_map] at h1
      omega
    · intro c hc
      rw [TL.join_eq] at hc
      clear e hl
      induction qs with
      | nil => cases hc
      | cons a r ih =>
        have hD : ∀ {c : Nat}, c ∈ (textD a).cps.toList → c < 128 := fun {c} hc => by
          have := textD_no (h a List.mem_cons_self) c hc
          omega
        cases r with
        | nil => exact hD hc
        | cons b r =>
          have hc : c ∈ (textD a ++ " " ++ Str.join " " ((b :: r).map textD)).cps.toList := hc
          rw [cps_app', cps_app'] at hc
          rcases List.mem_append.mp hc with hc | hc
          · rcases List.mem_append.mp hc with hc | hc
            · exact hD hc
            · have : (" " : Str).cps.toList = [32] := by decide +kernel
              rw [this] at hc
              rw [List.mem_singleton.mp hc]
              decide
          · exact ih (fun q hq => h q (List.mem_cons_of_mem _ hq)) hc
end Kl

set_option maxRecDepth 100000
set_option maxHeartbeats 4000000
namespace Kl
open PySem PySem.Spec PyProof.Rows L2 Gx Mx
section
variable {P : Program} {w : World} {K : PySem.W.Frag} {mg : Str → Option Value} {base : Heap}
/-! ### is_sorted of many texts -/
def spSortL (K : PySem.W.Frag) : Sp := fun vs H Q _ => ∃ (p : Addr) (zs : List Str) (M : Int), vs = [.ref p, .int M] ∧ SqT K H p (zs.map V.str) ∧ TyX K H (.ref p) (.type "tuple") ∧ 0 ≤ M ∧ M ≤ 100 ∧ zs.length ≤ 5000 ∧ (∀ z ∈ zs, z.length ≤ 5000) ∧
  ∀ H', Same H H' → Q (.bl (decide ((zs.length : Int) ≤ M) && (zs.all nameB && sortedS zs))) H'
theorem ok_sortL {f : Addr} {fd : FuncData} (F : Fun K "is_sorted" "is_sorted" s_is_sorted f fd) (T : Top K mg) : FnOk P w K mg base CX0 3 f fd ["value", "most"] (spSortL K) := by
  have cc : Cal P w K mg base 2 "is_count" ["value"] (spCnt K) := T.d_is_count.cal fun f fd F => ok_cnt F T
  have cn : Cal P w K mg base 2 "is_name" ["value"] (spName K) := (T.d_is_name.cal fun f fd F => ok_name F T).mono (by decide)
  refine F.ok sc_is_sorted (fun vs H Q E h => ?_) (fun cdv A outer s H vs Q E hr h => ?_)
  · obtain ⟨p, zs, M, rfl, _⟩ := h
    rfl
  · obtain ⟨p, zs, M, rfl, hp, hT, hM, hM2, hlen, hz, hq⟩ := h
    refine ⟨_, pss_cons (ps_if (pt_not (pt_val (pe_cal cc hr (by rfl) (pa_cons (pv 1) pa_nil)))) (pss_one ps_never) pss_nil)
      (pss_cons (ps_if (PW.pt (pw_or (pt_not (pt_val (pe_callB call_isi (by rfl) T.b_isinstance (by decide +kernel) (pa_cons (pv 0) (pa_cons (pe_bltn (v := .ty "tuple") (by rfl) T.b_tuple (by decide +kernel) rfl) pa_nil)))))
          (pw_or1 (pt_cmpR op_gt (pe_callB call_len_seq (by rfl) T.b_len PySem.boot_len (pa_cons (pv 0) pa_nil)) (pv 1) (nomark _))))) (pss_one (ps_ret pe_bl)) pss_nil)
      (pss_cons (ps_if (pt_not (pt_val (pe_callB (cr_all rfl) (by rfl) T.b_all (by decide +kernel) (pa_cons (pe_lc (own := [("name", 2)]) (g := gName 2) (tt := tYes) rfl sc_is_sorted.nd (pi_tup (pv 0))
            (blkOk_by (N := ["value", "most", "name"]) (sc := defScope s_is_sorted) (by decide +kernel))
            (fun _ _ _ _ _ => pg_name (i := 2) sc_is_sorted.nd rfl (.inl rfl)) (fun _ _ _ _ _ => pts_nil) (fun _ _ _ _ _ => pe_cal cn hr (by rfl) (pa_cons (pv 2) pa_nil))) pa_nil)))) (pss_one (ps_ret pe_bl)) pss_nil)
      (pss_one (ps_ret (pe_cmpR (op_eqD hr.units) (pe_callTy call_list_of (by rfl) T.b_list (by decide +kernel) (pa_cons (pv 0) pa_nil)) (pe_callB cr_sortedTS (by rfl) T.b_sorted (by decide +kernel) (pa_cons (pv 0) pa_nil)) (nomark _)))))), ?_⟩
    have hc : cntV (.int M) = true := by
      show ((decide (-TEN60 < M) && decide (M < TEN60)) && decide (0 ≤ M)) = true
      rw [decide_eq_true (show -TEN60 < M by unfold TEN60; omega), decide_eq_true (show M < TEN60 by unfold TEN60; omega), decide_eq_true hM]
      rfl
    refine ⟨_, rfl, .int M, rfl, .inl ⟨M, rfl⟩, _, rfl, ?_⟩
    rw [hc]
    refine ⟨_, rfl, _, .ty "tuple", .type "tuple", .type "tuple", true, rfl, .ty _, hT, kit_ty (by decide +kernel), true, rfl, ?_⟩
    refine ⟨_, rfl, p, _, rfl, .inr hp, _, rfl, _, _, rfl, rfl, _, rfl, ite2 (fun e => ?_) (fun e => ?_)⟩
    · have e1 : decide ((zs.length : Int) ≤ M) = false := decide_eq_false (by
        have := of_decide_eq_true e
        rw [List.length_map] at this
        omega)
      rw [e1, Bool.false_and] at hq
      exact hq H (Same.refl H)
    · have e1 : decide ((zs.length : Int) ≤ M) = true := decide_eq_true (by
        have : ¬ (M < ((zs.map V.str).length : Int)) := fun z => e (decide_eq_true z)
        rw [List.length_map] at this
        omega)
      rw [e1, Bool.true_and] at hq
      refine ⟨_, rfl, p, rfl, ⟨_, hp⟩, fun D hD => ?_⟩
      refine lc_tup (xs := zs.map V.str) (fun j H2 => H2 D = some (.lst ((zs.take j).map fun z => V.bl (nameB z))) ∧ Same H H2) ⟨upd_same, fun b u e => by rw [upd_ne (ne_of_none e hD)]; exact e⟩ (fun j H2 _ hP => ?_) (fun j x H2 hj hP => ?_) (fun H2 hP => ?_)
      · rcases hp with (h | ⟨u, h⟩) | h
        · exact .inl (.inl (hP.2 _ _ h))
        · exact .inl (.inr ⟨u, hP.2 _ _ h⟩)
        · exact .inr h
      · obtain ⟨eD, sm⟩ := hP
        obtain ⟨z, hzj, rfl⟩ : ∃ z, zs[j]? = some z ∧ V.str z = x := by
          rw [List.getElem?_map] at hj
          cases e : zs[j]? with
          | none => rw [e] at hj; cases hj
          | some z => rw [e] at hj; exact ⟨z, rfl, by cases hj; rfl⟩
        refine ⟨rfl, _, rfl, _, rfl, .inl ⟨z, rfl, Nat.le_trans (hz z (List.mem_of_getElem? hzj)) (by decide)⟩, _, eD, ?_, ?_, fun b u e => by rw [upd_ne (ne_of_none e hD)]; exact sm b u e⟩
        · rw [List.length_map, List.length_take]
          exact Nat.lt_of_le_of_lt (Nat.le_trans (Nat.min_le_right _ _) hlen) (by decide)
        · rw [upd_same, List.take_add_one, hzj, List.map_append]
          rfl
      · obtain ⟨eD, sm⟩ := hP
        rw [List.length_map, List.take_length] at eD
        refine ⟨D, zs.map nameB, rfl, .inl (.inl (by rw [eD, List.map_map]; rfl)), _, rfl, ?_⟩
        have ea : (zs.map nameB).all id = zs.all nameB := by rw [List.all_map]; rfl
        rw [ea]
        cases hall : zs.all nameB with
        | false =>
          rw [hall, Bool.false_and] at hq
          exact hq _ sm
        | true =>
          rw [hall, Bool.true_and] at hq
          have hok : ∀ z ∈ zs, PyData.strOk z = true := fun z hz => names_low (List.all_eq_true.mp hall z hz)
          have hp2 : SqT K H2 p (zs.map V.str) := by
            rcases hp with (h | ⟨u, h⟩) | h
            · exact .inl (.inl (sm _ _ h))
            · exact .inl (.inr ⟨u, sm _ _ h⟩)
            · exact .inr h
          refine ⟨_, rfl, p, _, rfl, .inr hp2, fun l nl => ?_⟩
          have sm2 : Same H (upd H2 l (.lst (zs.map V.str))) := fun b u e => by rw [upd_ne (ne_of_none (sm b u e) nl)]; exact sm b u e
          have hp3 : SqT K (upd H2 l (.lst (zs.map V.str))) p (zs.map V.str) := by
            rcases hp with (h | ⟨u, h⟩) | h
            · exact .inl (.inl (sm2 _ _ h))
            · exact .inl (.inr ⟨u, sm2 _ _ h⟩)
            · exact .inr h
          refine ⟨_, rfl, p, zs, rfl, hp3, by omega, fun ys l2 hperm hsrt nl2 => ?_⟩
          refine ⟨.list (tD zs), .list (tD ys), ?_, ?_, shaped_texts hok, shaped_texts (fun z hz => hok z (hperm.mem_iff.mp hz)), ?_⟩
          · exact .lst (.inl (.inl (by rw [upd_ne (ne_of_none upd_same nl2), upd_same]))) (dp_texts zs)
          · exact .lst (.inl (.inl upd_same)) (dp_texts ys)
          · rw [PyData.eqv, eqv_texts, eq_sorted_iff hperm hsrt]
            exact hq _ (fun b u e => by rw [upd_ne (ne_of_none (sm2 b u e) nl2)]; exact sm2 b u e)
end
end Kl

set_option maxRecDepth 100000
set_option maxHeartbeats 4000000
namespace Kl
open PySem PySem.Spec PyProof.Rows L2 Gx Mx
section
variable {P : Program} {w : World} {K : PySem.W.Frag} {mg : Str → Option Value} {base : Heap}
/-! ### the law's dice -/
def spDice (K : PySem.W.Frag) : Sp := fun vs H Q _ => ∃ (a : Addr) (ns : List Int) (i : Nat), vs = [.ref a, .int i] ∧ SqL K H a (ns.map V.int) ∧ ns.length ≤ 63 ∧ i ≤ 1000 ∧
  ∀ (p : Addr) (x b : Int), H p = none → Q (.ref p) (upd H p (.lst [.int x, .int b, .int 0]))
theorem ok_dice {f : Addr} {fd : FuncData} (F : Fun K "_law_dice" "_law_dice" s_law_dice f fd) (T : Top K mg) : FnOk P w K mg base CX0 1 f fd ["_law_script", "_law_spot"] (spDice K) := by
  refine F.ok sc_law_dice (fun vs H Q E h => ?_) (fun cdv A outer s H vs Q E hr h => ?_)
  · obtain ⟨a, ns, i, rfl, _⟩ := h
    rfl
  · obtain ⟨a, ns, i, rfl, hS, hlen, hi, q⟩ := h
    refine ⟨_, pss_cut (ps_set (i := 2) sc_law_dice.nd rfl (.inl rfl) (pe_ifExp
        (pt_cmpR op_lt (pv 1) (pe_callB call_len_seq (by rfl) T.b_len PySem.boot_len (pa_cons (pv 0) pa_nil)) (nomark _))
        (pe_callTy call_int1 (by rfl) T.b_int (by decide +kernel) (pa_cons (pe_ix ix_list (pv 0) (pv 1) (fun _ _ => rfl)) pa_nil))
        (pe_op op_add (pe_op op_mul pe_int (pv 1)) pe_int)))
      (pss_cons (ps_set (i := 3) sc_law_dice.nd rfl (.inl rfl) (pe_op op_mod
        (pe_callB (call_max2 rfl) (by rfl) T.b_max (by decide +kernel) (pa_cons pe_int (pa_cons (pe_op op_sub
          (pe_callB call_abs (by rfl) T.b_abs (by decide +kernel) (pa_cons (pv 2) pa_nil)) (pe_op op_pow pe_int pe_int)) pa_nil)))
        (pe_op op_mulW (pe_op op_pow pe_int pe_int) (pe_op op_pow pe_int pe_int))))
      (pss_one (ps_ret (pe_lst (pa_cons (pv 3) (pa_cons
        (pe_op op_add (pe_op op_add (pe_op op_add (pe_op op_mul (pe_op op_mod (pe_callB call_abs (by rfl) T.b_abs (by decide +kernel) (pa_cons (pv 2) pa_nil)) pe_int) pe_int)
          (pe_op op_mul pe_int (pv 1)))
          (pe_op op_mul pe_int (pe_callTy call_int1 (by rfl) T.b_int (by decide +kernel) (pa_cons (pe_cmpR op_lt (pv 2) pe_int (nomark _)) pa_nil)))) pe_int)
        (pa_cons pe_int pa_nil))))))), ?_⟩
    refine ⟨fun σ' H' => ∃ c : Int, σ' = [some (.ref a), some (.int i), some (.int c), none] ∧ H' = H, ?_, ?_⟩
    · refine ⟨_, rfl, .ref a, rfl, a, _, rfl, .inl hS, _, _, rfl, rfl, _, rfl, ite2 (fun e => ?_) (fun e => ?_)⟩
      · have e' : i < ns.length := by
          have := of_decide_eq_true e
          rw [List.length_map] at this
          omega
        refine ⟨.ref a, rfl, .int i, rfl, a, _, _, .int ns[i], rfl, rfl, hS, atI_nat (by rw [List.getElem?_map, List.getElem?_eq_getElem e']; rfl), .inl ⟨_, rfl, ns[i], rfl, rfl⟩⟩
      · refine ⟨_, rfl, _, _, rfl, rfl, .inl ⟨by decide, by decide⟩, _, _, rfl, rfl, _, rfl, rfl⟩
    · rintro σ' H' ⟨c, rfl, rfl⟩
      refine ⟨_, rfl, _, rfl, ?_⟩
      refine ⟨_, _, rfl, rfl, ⟨by decide, by decide, by decide⟩, ?_⟩
      refine ⟨_, _, rfl, rfl, ?_⟩
      refine ⟨_, _, rfl, ?_⟩
      refine ⟨_, _, rfl, rfl, ⟨by decide, by decide, by decide⟩, ?_⟩
      refine ⟨_, _, rfl, rfl, ⟨by decide, by decide, by decide⟩, ?_⟩
      refine ⟨_, _, rfl, rfl, wide_mul (a := 200) (b := 200) (by decide) (by decide) (by decide) (by decide) (by decide), ?_⟩
      refine ⟨_, _, rfl, rfl, by show (0 : Int) < _; decide, ?_⟩
      generalize (if (if c < 0 then -c else c) - 10 ^ Int.toNat 17 > 0 then (if c < 0 then -c else c) - 10 ^ Int.toNat 17 else 0) % (10 ^ Int.toNat 60 * 10 ^ Int.toNat 60) = left
      refine ⟨_, rfl, _, rfl, _, rfl, _, _, rfl, rfl, by show (0 : Int) < _; decide, _, _, rfl, rfl, .inr ⟨by decide, by decide⟩, ?_⟩
      refine ⟨_, rfl, _, _, rfl, rfl, .inl ⟨by decide, by decide⟩, _, _, rfl, rfl, _, rfl, _, _, rfl, rfl, .inr ⟨_, rfl, ?_⟩⟩
      refine ⟨_, _, rfl, rfl, .inl ⟨by decide, by decide⟩, _, _, rfl, rfl, _, _, rfl, rfl, by show 3 ≤ sizeLine; decide, fun p hp => ?_⟩
      exact q p _ _ hp
def spRoll : Sp := fun vs H Q _ => ∃ (d : Addr) (t : Int), vs = [.ref d, .int t] ∧ DiceAt H d ∧ 0 < t ∧ t.natAbs.log2 < 9000 ∧
  ∀ (r x b c : Int), 0 ≤ r → r < t → Q (.int r) (upd H d (.lst [.int x, .int b, .int c]))
theorem ok_roll {f : Addr} {fd : FuncData} (F : Fun K "_law_roll" "_law_roll" s_law_roll f fd) (T : Top K mg) : FnOk P w K mg base CX0 1 f fd ["_law_dice_here", "_law_total"] spRoll := by
  refine F.ok sc_law_roll (fun vs H Q E h => ?_) (fun cdv A outer s H vs Q E hr h => ?_)
  · obtain ⟨d, t, rfl, _⟩ := h
    rfl
  · obtain ⟨d, t, rfl, ⟨x, b, c, hd⟩, ht, ht2, q⟩ := h
    refine ⟨_, pss_cons (ps_if (pt_cmpR op_gt (pe_ix ix_list (pv 0) pe_int (fun _ _ => rfl)) pe_int (nomark _))
        (pss_cons (ps_set (i := 2) sc_law_roll.nd rfl (.inl rfl) (pe_op op_mod (pe_callTy call_int1 (by rfl) T.b_int (by decide +kernel) (pa_cons (pe_ix ix_list (pv 0) pe_int (fun _ _ => rfl)) pa_nil)) (pv 1)))
        (pss_cons (ps_asg (pe_op op_fdivW (pe_ix ix_list (pv 0) pe_int (fun _ _ => rfl)) (pv 1)) (pg_sub (pv 0) pe_int set_list))
        (pss_one (ps_ret (pv 2))))) pss_nil)
      (pss_cons (ps_asg (pe_op op_add (pe_ix ix_list (pv 0) pe_int (fun _ _ => rfl)) pe_int) (pg_sub (pv 0) pe_int set_list))
      (pss_cons (ps_set (i := 3) sc_law_roll.nd rfl (.inl rfl) (pe_op op_mod (pe_callTy call_int1 (by rfl) T.b_int (by decide +kernel) (pa_cons
        (pe_op op_add (pe_ix ix_list (pv 0) pe_int (fun _ _ => rfl)) (pe_op op_mul pe_int (pe_ix ix_list (pv 0) pe_int (fun _ _ => rfl)))) pa_nil)) pe_int))
      (pss_cons (ps_set (i := 4) sc_law_roll.nd rfl (.inl rfl) (pe_op op_add (pe_op op_mul (pe_op op_mod (pe_callTy call_int1 (by rfl) T.b_int (by decide +kernel) (pa_cons
        (pe_op op_add (pe_op op_mul (pv 3) (pv 3)) (pe_op op_mul pe_int (pe_ix ix_list (pv 0) pe_int (fun _ _ => rfl)))) pa_nil)) pe_int) pe_int) (pv 3)))
      (pss_one (ps_ret (pe_op op_mod (pe_callTy call_int1 (by rfl) T.b_int (by decide +kernel) (pa_cons (pe_op op_fdiv (pv 4) pe_int) pa_nil)) (pv 1))))))), ?_⟩
    have at0 : ∀ (x y z : V), atI [x, y, z] 0 = some x := fun x y z => atI_nat (j := 0) rfl
    have at1 : ∀ (x y z : V), atI [x, y, z] 1 = some y := fun x y z => atI_nat (j := 1) rfl
    have at2 : ∀ (x y z : V), atI [x, y, z] 2 = some z := fun x y z => atI_nat (j := 2) rfl
    have hS : SqL K H d [.int x, .int b, .int c] := .inl (.inl hd)
    refine ⟨_, rfl, d, _, _, _, rfl, rfl, hS, at0 _ _ _, _, _, rfl, rfl, _, rfl, ite2 (fun e => ?_) (fun e => ?_)⟩
    · refine ⟨_, rfl, d, _, _, _, rfl, rfl, hS, at0 _ _ _, .inl ⟨_, rfl, _, rfl, _, _, rfl, rfl, ht, ?_⟩⟩
      refine ⟨_, rfl, d, _, _, _, rfl, rfl, hS, at0 _ _ _, _, rfl, _, _, rfl, rfl, ⟨ht, ht2⟩, ?_⟩
      refine ⟨_, rfl, d, _, _, 0, rfl, rfl, hd, rfl, ?_⟩
      refine ⟨_, rfl, ?_⟩
      exact q _ _ _ _ (Int.emod_nonneg _ (by omega)) (Int.emod_lt_of_pos _ ht)
    · refine ⟨_, rfl, d, _, _, _, rfl, rfl, hS, at2 _ _ _, _, _, rfl, rfl, ?_⟩
      refine ⟨_, rfl, d, _, _, 2, rfl, rfl, hd, rfl, ?_⟩
      have hd1 : (upd H d (.lst ([V.int x, V.int b, V.int c].set 2 (.int (c + 1))))) d = some (.lst [V.int x, V.int b, V.int (c + 1)]) := upd_same
      have hS1 : SqL K (upd H d (.lst ([V.int x, V.int b, V.int c].set 2 (.int (c + 1))))) d [V.int x, V.int b, V.int (c + 1)] := .inl (.inl hd1)
      refine ⟨_, rfl, d, _, _, _, rfl, rfl, hS1, at1 _ _ _, _, rfl, d, _, _, _, rfl, rfl, hS1, at2 _ _ _, _, _, rfl, rfl, .inl ⟨by decide, by decide⟩, _, _, rfl, rfl, .inl ⟨_, rfl, ?_⟩⟩
      refine ⟨_, _, rfl, rfl, by show (0 : Int) < _; decide, ?_⟩
      have h1 := Int.emod_nonneg (b + 7919 * (c + 1)) (show (2305843009213693907 : Int) ≠ 0 by decide)
      have h2 := Int.emod_lt_of_pos (b + 7919 * (c + 1)) (show (0 : Int) < 2305843009213693907 by decide)
      generalize (b + 7919 * (c + 1)) % 2305843009213693907 = one at h1 h2
      refine ⟨_, rfl, _, rfl, _, _, rfl, rfl, .inl ⟨by omega, by omega⟩, _, rfl, d, _, _, _, rfl, rfl, hS1, at2 _ _ _, _, _, rfl, rfl, .inl ⟨by decide, by decide⟩, _, _, rfl, rfl, .inl ⟨_, rfl, ?_⟩⟩
      refine ⟨_, _, rfl, rfl, by show (0 : Int) < _; decide, _, _, rfl, rfl, .inr ⟨by decide, by decide⟩, _, rfl, _, _, rfl, rfl, ?_⟩
      refine ⟨_, rfl, _, _, rfl, rfl, ⟨by decide, by decide⟩, .inl ⟨_, rfl, _, rfl, _, _, rfl, rfl, ht, ?_⟩⟩
      exact q _ _ _ _ (Int.emod_nonneg _ (by omega)) (Int.emod_lt_of_pos _ ht)
/-- what may be picked from: the items of a list, a tuple, a text -/
def Items (K : PySem.W.Frag) (H : Hp) (d : Addr) (x : V) (xs : List V) : Prop :=
  (∃ p, x = .ref p ∧ p ≠ d ∧ (SqL K H p xs ∨ SqT K H p xs)) ∨ ∃ z : Str, x = .str z ∧ xs = signV z ∧ z.length ≤ sizeLine
def spPick (K : PySem.W.Frag) : Sp := fun vs H Q _ => ∃ (d : Addr) (x : V) (xs : List V), vs = [.ref d, x] ∧ DiceAt H d ∧ Items K H d x xs ∧ xs ≠ [] ∧ xs.length ≤ 100000 ∧
  ∀ (v : V) (x b c : Int), v ∈ xs → Q v (upd H d (.lst [.int x, .int b, .int c]))
theorem log2_small {n : Nat} (h : n ≤ 100000) : ((n : Int).natAbs).log2 < 9000 := by
  have h1 : ((n : Int).natAbs) < 2 ^ 20 := by
    rw [Int.natAbs_natCast]
    exact Nat.lt_of_le_of_lt h (by decide)
  exact Nat.lt_of_lt_of_le (PySem.Flt.log2_lt_of (by decide) h1) (by decide)
theorem ok_pick {f : Addr} {fd : FuncData} (F : Fun K "_law_pick" "_law_pick" s_law_pick f fd) (T : Top K mg) : FnOk P w K mg base CX0 2 f fd ["_law_dice_here", "_law_items"] (spPick K) := by
  have cr : Cal P w K mg base 1 "_law_roll" ["_law_dice_here", "_law_total"] spRoll := T.d_law_roll.cal fun f fd F => ok_roll F T
  refine F.ok sc_law_pick (fun vs H Q E h => ?_) (fun cdv A outer s H vs Q E hr h => ?_)
  · obtain ⟨d, x, xs, rfl, _⟩ := h
    rfl
  · obtain ⟨d, x, xs, rfl, hd, hI, hne, hlen, q⟩ := h
    refine ⟨_, pss_one (ps_ret (pe_ix ix_seq (pv 1) (pe_cal cr hr (by rfl) (pa_cons (pv 0) (pa_cons (pe_callB call_len (by rfl) T.b_len PySem.boot_len (pa_cons (pv 1) pa_nil)) pa_nil))) (fun _ _ => rfl))), ?_⟩
    have hpos : 0 < xs.length := List.length_pos_iff.mpr hne
    rcases hI with ⟨p, rfl, hp, hs⟩ | ⟨z, rfl, rfl, hz⟩
    · refine ⟨_, rfl, _, rfl, _, rfl, _, (xs.length : Nat), rfl, ?_, ?_⟩
      · rcases hs with hs | hs
        · exact .inl ⟨_, hs, rfl⟩
        · exact .inr ⟨_, hs, rfl⟩
      · refine ⟨d, _, rfl, hd, by omega, log2_small hlen, fun r x b c h0 h1 => ?_⟩
        obtain ⟨v, hv, ha⟩ := atI_int (xs := xs) h0 h1
        rcases hs with hs | hs
        · exact .inl ⟨p, _, _, v, rfl, rfl, sqL_ne hp hs, ha, q v x b c hv⟩
        · exact .inr (.inl ⟨p, _, _, v, rfl, rfl, sqT_ne hp hs, ha, q v x b c hv⟩)
    · have hlz := signV_len z
      refine ⟨_, rfl, _, rfl, _, rfl, _, (z.length : Nat), rfl, ⟨hz, rfl⟩, ?_⟩
      refine ⟨d, _, rfl, hd, by omega, log2_small (by omega), fun r x b c h0 h1 => ?_⟩
      obtain ⟨v, hv, ha⟩ := atI_int (xs := z.cps.toList) h0 (by rw [Array.length_toList]; exact h1)
      exact .inr (.inr ⟨z, r, v, rfl, rfl, hz, ha, q _ x b c (List.mem_map.mpr ⟨_, hv, rfl⟩)⟩)
end
end Kl

set_option maxRecDepth 100000
set_option maxHeartbeats 4000000
namespace Kl
open PySem PySem.Spec PyProof.Rows L2 Gx Mx
/-! ### all but the dice stays -/
/-- all but what stands at d is as it was -/
def SameX (d : Addr) (H H' : Hp) : Prop := ∀ b o, b ≠ d → H b = some o → H' b = some o
theorem SameX.refl (d : Addr) (H : Hp) : SameX d H H := fun _ _ _ e => e
theorem SameX.trans {d : Addr} {H H' H'' : Hp} (h : SameX d H H') (h' : SameX d H' H'') : SameX d H H'' := fun b o n e => h' b o n (h b o n e)
theorem SameX.atd {d : Addr} {H H' : Hp} {o : HO} (h : SameX d H H') : SameX d H (upd H' d o) := fun b u n e => by rw [upd_ne n]; exact h b u n e
theorem SameX.new {d p : Addr} {H H' : Hp} {o : HO} (h : SameX d H H') (n : H' p = none) : SameX d H (upd H' p o) := fun b u nb e => by
  have e' := h b u nb e
  rw [upd_ne (ne_of_none e' n)]
  exact e'
theorem SameX.at {d p : Addr} {H H' : Hp} {o : HO} (h : SameX d H H') (n : H p = none) : SameX d H (upd H' p o) := fun b u nb e => by
  rw [upd_ne (ne_of_none e n)]
  exact h b u nb e
theorem SameX.of {d : Addr} {H H' : Hp} (h : Same H H') : SameX d H H' := fun b o _ e => h b o e
theorem SameX.free {d p : Addr} {H H' : Hp} (h : SameX d H H') (n : p ≠ d) (e : H' p = none) : H p = none := by
  cases q : H p with
  | none => rfl
  | some o => rw [h p o n q] at e; cases e
theorem dice_ne {H : Hp} {d p : Addr} (h : DiceAt H d) (e : H p = none) : p ≠ d := fun q => by
  obtain ⟨_, _, _, h⟩ := h
  rw [q, h] at e
  cases e
theorem dice_upd {H : Hp} {d p : Addr} {o : HO} (h : DiceAt H d) (n : p ≠ d) : DiceAt (upd H p o) d := by
  obtain ⟨a, b, c, h⟩ := h
  exact ⟨a, b, c, by rw [upd_ne n.symm]; exact h⟩
theorem dice_new {H : Hp} {d : Addr} (x b c : Int) : DiceAt (upd H d (.lst [.int x, .int b, .int c])) d := ⟨_, _, _, upd_same⟩
end Kl

set_option maxRecDepth 100000
set_option maxHeartbeats 4000000
namespace Kl
open PySem PySem.Spec PyProof.Rows L2 Gx Mx
theorem sqT_sx {K : PySem.W.Frag} {G G' : Hp} {d a : Addr} {xs : List V} (hd : DiceAt G d) (s : SameX d G G') (h : SqT K G a xs) : SqT K G' a xs := by
  obtain ⟨p, q, r, e⟩ := hd
  rcases h with (h | ⟨o, h⟩) | h
  · exact .inl (.inl (s _ _ (fun z => by rw [z, e] at h; cases h) h))
  · exact .inl (.inr ⟨o, s _ _ (fun z => by rw [z, e] at h; cases h) h⟩)
  · exact .inr h
end Kl

set_option maxRecDepth 100000
set_option maxHeartbeats 4000000
namespace Gx
open PySem PySem.Spec PyProof.Rows L2
section
variable {X : Cx} {K : PySem.W.Frag} {e o : Expr} {f : Str} {te to : TE} {pos apos : Pos}
theorem pe_fldK (hk : X.K = K) (he : PE X e te) (hb : attributeBase e f X.env (eval e X.env) = eval e X.env := by rfl) : PE X (.Attribute e f pos) (tFld K te f) := by
  subst hk
  exact pe_fld he hb
/-- f'..' of two parts or more, told by a name -/
def tJoined (ts : List TE) : TE := fun σ H Q => tJs ts Str.empty σ H fun out H1 => Q (.str out) H1
theorem pe_joinedN {v1 v2 : Expr} {rest : List Expr} {ts : List TE} {pos : Pos} (h : PJ X (v1 :: v2 :: rest) ts) : PE X (.JoinedStr (v1 :: v2 :: rest) pos) (tJoined ts) := pe_joined h
/-- sep.join(xs) -/
def rJoin (K : PySem.W.Frag) : V → List V → Hp → VK → Prop := fun x xs H Q => ∃ a p, ∃ ys : List Str, x = .str a ∧ xs = [.ref p] ∧ (SqL K H p (ys.map V.str) ∨ SqT K H p (ys.map V.str)) ∧ (ys.map (·.length)).sum + ys.length * a.length ≤ 16777216 ∧ Q (.str (Txt.join a ys)) H
theorem pe_joinK (hk : X.K = K) (ho : PE X o to) (he : PE X e te) (hs : starEach [e] X.env = [(false, eval e X.env)] := by rfl) (hbase : attributeBase o "join" X.env (eval o X.env) = eval o X.env := by rfl) (hline : (apos.endLine == pos.line) = true := by rfl) :
    PE X (.Call (.Attribute o "join" apos) [e] [] pos) (tM1 (rJoin K) to te) := by
  subst hk
  exact pe_join ho he hs hbase hline
end
end Gx
namespace Kl
open PySem PySem.Spec PyProof.Rows L2 Gx Mx
section
variable {P : Program} {w : World} {K : PySem.W.Frag} {mg : Str → Option Value} {base : Heap}
/-! ### what Kinds tells: leaf, makings, names, lines -/
abbrev kf (leaf : Str) (md nt : Addr) : List (Str × V) := [("_leaf", .str leaf), ("_makings", .ref md), ("_names", .ref nt)]
theorem kf_leaf (leaf : Str) (md nt : Addr) : List.lookup ("_leaf" : Str) (kf leaf md nt) = some (.str leaf) := by simp [List.lookup]
theorem kf_mak (leaf : Str) (md nt : Addr) : List.lookup ("_makings" : Str) (kf leaf md nt) = some (.ref md) := by
  have h : (("_makings" : Str) == "_leaf") = false := beq_eq_false_iff_ne.mpr (Ne.symm kLM)
  simp [List.lookup, h]
theorem kf_names (leaf : Str) (md nt : Addr) : List.lookup ("_names" : Str) (kf leaf md nt) = some (.ref nt) := by
  have h : (("_names" : Str) == "_leaf") = false := beq_eq_false_iff_ne.mpr (Ne.symm kLN)
  have h2 : (("_names" : Str) == "_makings") = false := beq_eq_false_iff_ne.mpr (Ne.symm kMN)
  simp [List.lookup, h, h2]
theorem kf_no (leaf : Str) (md nt : Addr) {m : Str} (h1 : m ≠ "_leaf") (h2 : m ≠ "_makings") (h3 : m ≠ "_names") : (kf leaf md nt).lookup m = none := by
  have e1 : (m == "_leaf") = false := beq_eq_false_iff_ne.mpr h1
  have e2 : (m == "_makings") = false := beq_eq_false_iff_ne.mpr h2
  have e3 : (m == "_names") = false := beq_eq_false_iff_ne.mpr h3
  simp [List.lookup, e1, e2, e3]
def spKLeaf (C : Addr) : Sp := fun vs H Q _ => ∃ x md leaf M ns, vs = [.ref x] ∧ KindsAt C H x md leaf M ns ∧ Q (.str leaf) H
theorem ok_kleaf {C f : Addr} {fd : FuncData} (F : Fun K "leaf" "Kinds.leaf" s_Kinds_leaf f fd) (TC : Cl_Kinds K mg C) : FnOk P w K mg base CX0 1 f fd ["self"] (spKLeaf C) := by
  refine F.ok sc_Kinds_leaf (fun vs H Q E h => ?_) (fun cdv A outer s H vs Q E hr h => ?_)
  · obtain ⟨x, md, leaf, M, ns, rfl, _⟩ := h
    rfl
  · obtain ⟨x, md, leaf, M, ns, rfl, ⟨dx, nt, kvs, hx, hd, hM, hn⟩, q⟩ := h
    refine ⟨_, pss_one (ps_ret (pe_fld (pv 0) rfl)), ?_⟩
    exact ⟨_, rfl, x, C, dx, _, _, rfl, hx, TC.cl, TC.n_leaf, kf_leaf _ _ _, q⟩
def spKMak (C : Addr) : Sp := fun vs H Q _ => ∃ x md leaf M ns, vs = [.ref x] ∧ KindsAt C H x md leaf M ns ∧ ∀ p kvs, H p = none → MakAt H kvs M → Q (.ref p) (upd H p (.dK kvs))
theorem ok_kmak {C f : Addr} {fd : FuncData} (F : Fun K "makings" "Kinds.makings" s_Kinds_makings f fd) (T : Top K mg) (TC : Cl_Kinds K mg C) : FnOk P w K mg base CX0 1 f fd ["self"] (spKMak C) := by
  refine F.ok sc_Kinds_makings (fun vs H Q E h => ?_) (fun cdv A outer s H vs Q E hr h => ?_)
  · obtain ⟨x, md, leaf, M, ns, rfl, _⟩ := h
    rfl
  · obtain ⟨x, md, leaf, M, ns, rfl, ⟨dx, nt, kvs, hx, hd, hM, hn⟩, q⟩ := h
    refine ⟨_, pss_one (ps_ret (pe_callTy call_dictD (by rfl) T.b_dict (by decide +kernel) (pa_cons (pe_fld (pv 0) rfl) pa_nil))), ?_⟩
    exact ⟨_, rfl, x, C, dx, _, _, rfl, hx, TC.cl, TC.n_makings, kf_mak _ _ _, md, kvs, rfl, .inl hd, fun p np => q p kvs np hM⟩
def spKNam (C : Addr) : Sp := fun vs H Q _ => ∃ x md leaf M ns, vs = [.ref x] ∧ KindsAt C H x md leaf M ns ∧ ∀ p, H p = some (.tup (ns.map V.str)) → Q (.ref p) H
theorem ok_knam {C f : Addr} {fd : FuncData} (F : Fun K "names" "Kinds.names" s_Kinds_names f fd) (TC : Cl_Kinds K mg C) : FnOk P w K mg base CX0 1 f fd ["self"] (spKNam C) := by
  refine F.ok sc_Kinds_names (fun vs H Q E h => ?_) (fun cdv A outer s H vs Q E hr h => ?_)
  · obtain ⟨x, md, leaf, M, ns, rfl, _⟩ := h
    rfl
  · obtain ⟨x, md, leaf, M, ns, rfl, ⟨dx, nt, kvs, hx, hd, hM, hn⟩, q⟩ := h
    refine ⟨_, pss_one (ps_ret (pe_fld (pv 0) rfl)), ?_⟩
    exact ⟨_, rfl, x, C, dx, _, _, rfl, hx, TC.cl, TC.n_names, kf_names _ _ _, q nt hn⟩
/-! ### lines -/
theorem empty_app (a : Str) : Str.empty ++ a = a := by
  show (⟨#[] ++ a.cps⟩ : Str) = a
  rw [Array.empty_append]
theorem len_app (a b : Str) : (a ++ b).length = a.length + b.length := by
  show (a.cps ++ b.cps).size = _
  rw [Array.size_append]
  rfl
theorem join_short {e : Str} (he : e.length = 1) {zs : List Str} (h : ∀ z ∈ zs, z.length ≤ 8) : (Txt.join e zs).length ≤ 9 * zs.length := by
  rw [TL.join_eq]
  induction zs with
  | nil => exact Nat.zero_le _
  | cons x r ih =>
    have hx := h x List.mem_cons_self
    cases r with
    | nil =>
      show x.length ≤ _
      rw [List.length_cons]
      omega
    | cons y r =>
      have i := ih fun z hz => h z (List.mem_cons_of_mem _ hz)
      show (x ++ e ++ Str.join e (y :: r)).length ≤ _
      rw [len_app, len_app, he, List.length_cons (a := x)]
      omega
theorem join_sum {zs : List Str} (h : ∀ z ∈ zs, z.length ≤ 8) : (zs.map (·.length)).sum ≤ 8 * zs.length := by
  induction zs with
  | nil => exact Nat.zero_le _
  | cons x r ih =>
    have hx := h x List.mem_cons_self
    have i := ih fun z hz => h z (List.mem_cons_of_mem _ hz)
    rw [List.map_cons, List.sum_cons, List.length_cons]
    omega
/-- text_of names -/
def spText (K : PySem.W.Frag) : Sp := fun vs H Q _ => ∃ (p : Addr) (ps : List Str), vs = [V.ref p] ∧ SqT K H p (ps.map V.str) ∧ ps ≠ [] ∧ ps.length ≤ 3 ∧ (∀ z ∈ ps, z.length ≤ 8) ∧ Q (.str (Txt.join "+" ps)) H
theorem ok_text {f : Addr} {fd : FuncData} (F : Fun K "text_of" "text_of" s_text_of f fd) (T : Top K mg) : FnOk P w K mg base CX0 1 f fd ["names"] (spText K) := by
  refine F.ok sc_text_of (fun vs H Q E h => ?_) (fun cdv A outer s H vs Q E hr h => ?_)
  · obtain ⟨p, ps, rfl, _⟩ := h
    rfl
  · obtain ⟨p, ps, rfl, hp, hn, l3, l8, q⟩ := h
    refine ⟨_, pss_one (ps_ret (pe_ifExp (pt_truth (pv 0) (fun _ => rfl)) (pe_join pe_str (pv 0)) pe_str)), ?_⟩
    obtain ⟨z, r, rfl⟩ : ∃ z r, ps = z :: r := by
      cases ps with
      | nil => exact absurd rfl hn
      | cons z r => exact ⟨z, r, rfl⟩
    refine ⟨_, rfl, true, .inr (.inl ⟨_, hp, rfl⟩), ?_⟩
    show (if true = true then _ else _)
    rw [if_pos rfl]
    have ls := join_sum l8
    have e1 : ("+" : Str).length = 1 := rfl
    exact ⟨⟨_, rfl⟩, _, rfl, _, p, _, rfl, rfl, .inr hp, by rw [e1]; omega, q⟩
def spKLin (C : Addr) : Sp := fun vs H Q _ => ∃ x md leaf M ns, vs = [.ref x] ∧ KindsAt C H x md leaf M ns ∧ Vld leaf M ∧ ∀ p H', Same H H' → H' p = some (.tup ((linesK leaf M).map V.str)) → Q (.ref p) H'
abbrev NL : List Str := ["self", "made", "name"]
theorem ok_klin {C f : Addr} {fd : FuncData} (F : Fun K "lines" "Kinds.lines" s_Kinds_lines f fd) (T : Top K mg) (TC : Cl_Kinds K mg C) : FnOk P w K mg base CX0 2 f fd ["self"] (spKLin C) := by
  have ct : Cal P w K mg base 1 "text_of" ["names"] (spText K) := T.d_text_of.cal fun f fd F => ok_text F T
  refine F.ok sc_Kinds_lines (fun vs H Q E h => ?_) (fun cdv A outer s H vs Q E hr h => ?_)
  · obtain ⟨x, md, leaf, M, ns, rfl, _⟩ := h
    rfl
  · obtain ⟨x, md, leaf, M, ns, rfl, ⟨dx, nt, kvs, hx, hd, hM, hn⟩, hV, q⟩ := h
    have hu := hu_of hr
    refine ⟨_, pss_cons (ps_lock (ps_setLc (i := 1) (own := [("name", 2)]) (g := gName 2) (tt := tYes) (by rfl) sc_Kinds_lines.nd rfl rfl (sw_true rfl rfl rfl (by decide +kernel)) (pi_keys (pe_fld (pv 0) rfl))
          (blkOk_by (N := NL) (sc := defScope s_Kinds_lines) (by decide +kernel)) (fun _ _ _ _ _ => pg_name (i := 2) sc_Kinds_lines.nd rfl (.inl rfl)) (fun _ _ _ _ _ => pts_nil)
          (fun _ _ _ _ _ => pe_joinedN (.cons pe_str (.cons (pe_fmt (pv 2)) (.cons pe_str (.cons (pe_fmt (pe_cal ct hr (by rfl) (pa_cons (pe_dget hu (pe_fldK (K := K) (by exact rfl) (pv 0)) (pv 2) (fun _ _ => rfl)) pa_nil))) .nil)))))))
      (pss_one (ps_ret (pe_tup (pa_cons (pe_joinedN (.cons pe_str (.cons (pe_fmt (pe_fld (pv 0) rfl)) .nil))) (StX.pa_star (pv 1) pa_nil))))), ?_⟩
    have lM := hV.len
    have lk := hM.len
    refine ⟨md, _, hd, trivial, fun od => ?_⟩
    have nxm : x ≠ md := fun z => by
      rw [z, hd] at hx
      cases hx
    have hx1 : upd H md (.frz od (.dK kvs)) x = some (.ins C dx (kf leaf md nt)) := by
      rw [upd_ne nxm]
      exact hx
    refine ⟨_, rfl, x, C, dx, _, _, rfl, hx1, TC.cl, TC.n_makings, kf_mak _ _ _, md, od, rfl, .inl ⟨kvs, upd_same, fun D hD => ?_⟩⟩
    refine lc_it (g := gName 2) (tt := tYes) (vs := [2]) (σ := L2.start NL [.ref x]) walk_keys (fun j G => G D = some (.lst (((M.take j).map fun m => lineK m.1 m.2).map V.str)) ∧ Same (upd H md (.frz od (.dK kvs))) G) ⟨upd_same, same_new (Same.refl _) hD⟩ (fun j G _ hP => hP.2 _ _ upd_same) (fun j v G G' hj hP hy => ?_) (fun G hP => ?_)
    · obtain ⟨eD, sm⟩ := hP
      obtain ⟨rfl, k, v, hkv, rfl⟩ := hy
      obtain ⟨m, a, hm, rfl, rfl, ha⟩ := hM.at hkv
      have hmM := List.mem_of_getElem? hm
      obtain ⟨p1, p2, p3, p4⟩ := hV.parts m hmM
      have hpool : m.1 ∈ POOL := hV.keys _ (List.mem_map.mpr ⟨m, hmM, rfl⟩)
      have short : ∀ z ∈ m.2, z.length ≤ 8 := fun z hz => pool_len (hV.part hmM hz)
      have l1 := pool_len hpool
      have na : a ≠ md := ha.ne hd (fun _ => nofun)
      have ha1 : TupZ (upd H md (.frz od (.dK kvs))) a (m.2.map V.str) := ha.at fun o e => by rw [upd_ne na]; exact e
      have hv : valV kvs (Sum.inr m.1) = some (.ref a) := by
        have e4 : (kvs.map (·.1)).Nodup := by
          rw [hM.keys]
          exact List.Pairwise.map Sum.inr (fun a b h q => h (Sum.inr.inj q)) hV.nd
        exact val_nodup e4 (Sum.inr m.1, .ref a) (List.mem_of_getElem? hkv)
      have lj := join_short (e := "+") rfl short
      have ls := join_sum short
      refine ⟨rfl, ?_⟩
      have k5 : ("kind " : Str).length = 5 := rfl
      have k1 : (" " : Str).length = 1 := rfl
      have big : 1000 ≤ sizeLine := by decide
      refine ⟨_, rfl, by rw [empty_app]; omega, _, rfl, .inl ⟨m.1, rfl, by omega, _, rfl, by rw [empty_app, len_app]; omega, _, rfl, by rw [empty_app, len_app, len_app]; omega, ?_⟩⟩
      refine ⟨_, rfl, x, C, dx, _, _, rfl, sm _ _ hx1, TC.cl, TC.n_makings, kf_mak _ _ _, _, rfl, md, _, rfl, .inl ⟨kvs, Sum.inr m.1, .inr ⟨od, sm _ _ upd_same⟩, rfl, hv.symm⟩, a, m.2, rfl, (ha1.mono sm).sq, (fun q => by rw [q] at p2; exact absurd p2 (by decide)), p3, short, ?_⟩
      refine .inl ⟨_, rfl, by omega, _, rfl, by rw [empty_app, len_app, len_app, len_app]; omega, ?_⟩
      refine ⟨_, eD, ?_, ?_, fun b u e => by rw [upd_ne (ne_of_none e hD)]; exact sm b u e⟩
      · rw [List.length_map, List.length_map, List.length_take]
        exact Nat.lt_of_le_of_lt (Nat.le_trans (Nat.min_le_right _ _) lM) (by decide)
      · rw [upd_same, List.take_add_one, hm, List.map_append, List.map_append, empty_app]
        rfl
    obtain ⟨eD, sm⟩ := hP
    rw [lk, List.take_length] at eD
    have s1 := same_unlock hd sm
    have nD : D ≠ md := fun z => by
      rw [z, upd_same] at hD
      cases hD
    refine ⟨sm _ _ upd_same, ?_⟩
    have eD2 : upd G md (.dK kvs) D = some (.lst ((M.map fun m => lineK m.1 m.2).map V.str)) := by
      rw [upd_ne nD]
      exact eD
    generalize upd G md (.dK kvs) = H2 at s1 eD2
    have l5 : ("leaf " : Str).length = 5 := rfl
    have ll := pool_len hV.lf
    have big : 1000 ≤ sizeLine := by decide
    refine ⟨_, rfl, by rw [empty_app]; omega, _, rfl, x, C, dx, _, _, rfl, s1 _ _ hx, TC.cl, TC.n_leaf, kf_leaf _ _ _, .inl ⟨leaf, rfl, by omega, _, rfl, by rw [empty_app, len_app]; omega, ?_⟩⟩
    refine ⟨_, rfl, D, _, rfl, .inr (.inl (.inl eD2)), ?_, fun p np => ?_⟩
    · show (_ :: (_ ++ [])).length ≤ sizeLine
      rw [List.append_nil, List.length_cons, List.length_map, List.length_map]
      exact Nat.le_trans (show M.length + 1 ≤ 7 by omega) (by decide)
    refine q p _ (same_new s1 np) ?_
    rw [upd_same, List.append_nil, empty_app]
    rfl
end
end Kl

set_option maxRecDepth 100000
set_option maxHeartbeats 4000000
namespace Kl
open PySem PySem.Spec PyProof.Rows L2 Gx Mx
/-- a book of kinds as the law writes it -/
def bookK (leaf : Str) (mk : Addr) : List (Key × V) := [(Sum.inr "leaf", .str leaf), (Sum.inr "makings", .ref mk)]
theorem book_leaf (leaf : Str) (mk : Addr) : valV (bookK leaf mk) (Sum.inr "leaf") = some (.str leaf) := valV_pos rfl
theorem book_mak (leaf : Str) (mk : Addr) : valV (bookK leaf mk) (Sum.inr "makings") = some (.ref mk) := by
  unfold bookK
  rw [valV_neg (by show ¬ (Sum.inr ("leaf" : Str) : Key) = Sum.inr ("makings" : Str); decide +kernel), valV_pos rfl]
section
variable {P : Program} {w : World} {K : PySem.W.Frag} {mg : Str → Option Value} {base : Heap}
/-! ### _check_kinds -/
def spChkK (C : Addr) : Sp := fun vs H Q _ => ∃ (x md : Addr) (leaf : Str) (M : Mak) (ns : List Str), vs = [V.ref x] ∧ KindsAt C H x md leaf M ns ∧ Q .non H
theorem ok_chkK {C f : Addr} {fd : FuncData} (F : Fun K "_check_kinds" "_check_kinds" s_check_kinds f fd) (T : Top K mg) (TC : Cl_Kinds K mg C) : FnOk P w K mg base CX0 1 f fd ["kinds"] (spChkK C) := by
  refine F.ok sc_check_kinds (fun vs H Q E h => ?_) (fun cdv A outer s H vs Q E hr h => ?_)
  · obtain ⟨x, md, leaf, M, ns, rfl, _⟩ := h
    rfl
  · obtain ⟨x, md, leaf, M, ns, rfl, hK, q⟩ := h
    refine ⟨_, pss_one (ps_if (pt_not (pt_val (pe_callB call_isi (by rfl) T.b_isinstance (by decide +kernel) (pa_cons (pv 0) (pa_cons (pe_glob (v := .ref C) (by rfl) TC.gC rfl) pa_nil))))) (pss_one ps_never) pss_nil), ?_⟩
    obtain ⟨dx, _, _, hx, _⟩ := id hK
    refine ⟨_, rfl, _, _, .ref C, .ref C, true, rfl, .own C, .base (.ins hx TC.cl TC.ca TC.cg TC.ct TC.ob), TC.kit, true, rfl, ?_⟩
    show (if (!true) = true then _ else _)
    rw [if_neg (by decide)]
    exact q
end
end Kl

set_option maxRecDepth 100000
set_option maxHeartbeats 4000000
namespace Kl
open PySem PySem.Spec PyProof.Rows L2 Gx Mx
theorem cr_allK {X : Cx} {K : PySem.W.Frag} (hk : X.K = K) (hc : X.calm = true) : CallR X (.builtin "all") (rAll K) := by
  subst hk
  exact cr_all hc
theorem cr_sumK {X : Cx} {K : PySem.W.Frag} (hk : X.K = K) (hc : X.calm = true) : CallR X (.builtin "sum") (rSum K) := by
  subst hk
  exact cr_sum hc
end Kl

set_option maxRecDepth 100000
set_option maxHeartbeats 4000000
namespace Kl
open PySem PySem.Spec PyProof.Rows L2 Gx
theorem take_not {ns : List Str} (nd : ns.Nodup) {i : Nat} {z : Str} (hz : ns[i]? = some z) : z ∉ ns.take i := by
  intro hin
  obtain ⟨j, hj⟩ := List.mem_iff_getElem?.mp hin
  rw [List.getElem?_take] at hj
  by_cases c : j < i
  · rw [if_pos c] at hj
    obtain ⟨h1, e1⟩ := List.getElem?_eq_some_iff.mp hj
    obtain ⟨h2, e2⟩ := List.getElem?_eq_some_iff.mp hz
    have := (List.nodup_iff_pairwise_ne.mp nd)
    exact absurd (e1.trans e2.symm) (List.pairwise_iff_getElem.mp this j i h1 h2 c)
  · rw [if_neg c] at hj
    cases hj
end Kl

set_option maxRecDepth 100000
set_option maxHeartbeats 4000000
namespace Kl
open PySem PySem.Spec PyProof.Rows L2 Gx Mx
section
variable {P : Program} {w : World} {K : PySem.W.Frag} {mg : Str → Option Value} {base : Heap}
theorem pi_or {X : Cx} {tg e : Expr} {t1 t2 : TI} (h1 : PI X tg e t1) (h2 : PI X tg e t2) : PI X tg e (fun σ H R => t1 σ H R ∨ t2 σ H R) :=
  ⟨fun pins s σ H R I h => h.elim (h1.run pins s σ H R I) (h2.run pins s σ H R I)⟩
/-- a sequence of these, a tuple or a list -/
def SqB (K : PySem.W.Frag) (H : Hp) (a : Addr) (xs : List V) : Prop := SqT K H a xs ∨ SqL K H a xs
theorem SqB.at {H H' : Hp} {a : Addr} {xs : List V} (h : SqB K H a xs) (s : ∀ o, H a = some o → H' a = some o) : SqB K H' a xs := by
  rcases h with ((h | ⟨o, h⟩) | h) | ((h | ⟨o, h⟩) | h)
  · exact .inl (.inl (.inl (s _ h)))
  · exact .inl (.inl (.inr ⟨o, s _ h⟩))
  · exact .inl (.inr h)
  · exact .inr (.inl (.inl (s _ h)))
  · exact .inr (.inl (.inr ⟨o, s _ h⟩))
  · exact .inr (.inr h)
theorem SqB.keep {H H' : Hp} {a : Addr} {xs : List V} (h : SqB K H a xs) (s : ∀ o, H a = some o → (∀ kv, o ≠ .dK kv) → H' a = some o) : SqB K H' a xs := by
  rcases h with ((h | ⟨o, h⟩) | h) | ((h | ⟨o, h⟩) | h)
  · exact .inl (.inl (.inl (s _ h (fun _ => nofun))))
  · exact .inl (.inl (.inr ⟨o, s _ h (fun _ => nofun)⟩))
  · exact .inl (.inr h)
  · exact .inr (.inl (.inl (s _ h (fun _ => nofun))))
  · exact .inr (.inl (.inr ⟨o, s _ h (fun _ => nofun)⟩))
  · exact .inr (.inr h)
theorem cast_sum (f : Str → Nat) : ∀ l : List Str, (l.map fun p => ((f p : Nat) : Int)).sum = (((l.map f).sum : Nat) : Int)
  | [] => rfl
  | p :: l => by
    rw [List.map_cons, List.sum_cons, cast_sum f l, List.map_cons, List.sum_cons, Int.natCast_add]
theorem sqT_mono {H H' : Hp} {a : Addr} {xs : List V} (h : SqT K H a xs) (s : Same H H') : SqT K H' a xs := by
  rcases h with (h | ⟨o, h⟩) | h
  · exact .inl (.inl (s _ _ h))
  · exact .inl (.inr ⟨o, s _ _ h⟩)
  · exact .inr h
theorem sqL_mono {H H' : Hp} {a : Addr} {xs : List V} (h : SqL K H a xs) (s : Same H H') : SqL K H' a xs := by
  rcases h with (h | ⟨o, h⟩) | h
  · exact .inl (.inl (s _ _ h))
  · exact .inl (.inr ⟨o, s _ _ h⟩)
  · exact .inr h
theorem rowK_some (R : Row) (z : Str) : (valV (rowK R) (Sum.inr z)).isSome = decide (z ∈ keysR R) := by
  by_cases h : z ∈ keysR R
  · rw [rowK_get h, decide_eq_true h]
    rfl
  · rw [rowK_look, lookR_no h, decide_eq_false h]
    rfl
theorem SqB.mono {H H' : Hp} {a : Addr} {xs : List V} (h : SqB K H a xs) (s : Same H H') : SqB K H' a xs := h.at fun o e => s _ _ e
/-- the parts of each kind, told by tuples or lists -/
def PartsAt (K : PySem.W.Frag) (H : Hp) (kvs : List (Key × V)) (M : Mak) : Prop := Paired (fun (kv : Key × V) (m : Str × List Str) => kv.1 = Sum.inr m.1 ∧ ∃ a, kv.2 = .ref a ∧ SqB K H a (m.2.map V.str)) kvs M
theorem PartsAt.len {H : Hp} {kvs : List (Key × V)} {M : Mak} (h : PartsAt K H kvs M) : kvs.length = M.length := Paired.length h
theorem PartsAt.same {H H' : Hp} {kvs : List (Key × V)} {M : Mak} (h : PartsAt K H kvs M) (s : ∀ a xs, SqB K H a xs → SqB K H' a xs) : PartsAt K H' kvs M := by
  unfold PartsAt at h ⊢
  induction h with
  | nil => exact .nil
  | cons h _ ih =>
    obtain ⟨h1, a, h2, h3⟩ := h
    exact .cons ⟨h1, a, h2, s a _ h3⟩ ih
theorem PartsAt.at {H : Hp} {kvs : List (Key × V)} {M : Mak} (h : PartsAt K H kvs M) {i : Nat} {k : Key} {v : V} (e : kvs[i]? = some (k, v)) : ∃ m a, M[i]? = some m ∧ k = Sum.inr m.1 ∧ v = .ref a ∧ SqB K H a (m.2.map V.str) := by
  unfold PartsAt at h
  induction h generalizing i with
  | nil => cases e
  | @cons kv m kvs M h _ ih =>
    cases i with
    | zero =>
      cases e
      obtain ⟨h1, a, h2, h3⟩ := h
      exact ⟨m, a, rfl, h1, h2, h3⟩
    | succ i => exact ih e
theorem MakAt.parts {H : Hp} {kvs : List (Key × V)} {M : Mak} (h : MakAt H kvs M) : PartsAt K H kvs M := by
  unfold MakAt at h
  unfold PartsAt
  induction h with
  | nil => exact .nil
  | cons h _ ih =>
    obtain ⟨h1, a, h2, h3⟩ := h
    exact .cons ⟨h1, a, h2, .inl h3.sq⟩ ih
/-! ### the sizes a rank above -/
def spSums (K : PySem.W.Frag) : Sp := fun vs H Q _ => ∃ (po pb : Addr) (kvs : List (Key × V)) (M : Mak) (R : Row), vs = [V.ref po, V.ref pb] ∧ H po = some (.dK kvs) ∧ PartsAt K H kvs M ∧ M.length ≤ 6 ∧ (keysOf M).Nodup ∧ (∀ m ∈ M, m.2.length ≤ 3) ∧ H pb = some (.dK (rowK R)) ∧ po ≠ pb ∧
  ∀ p H', Same H H' → H p = none → H' p = some (.dK (rowK (aboveR M R))) → Q (.ref p) H'
abbrev NSA : List Str := ["parts_of", "below", "name", "parts", "part"]
theorem ok_sums {f : Addr} {fd : FuncData} (F : Fun K "sums_above" "sums_above" s_sums_above f fd) (T : Top K mg) : FnOk P w K mg base CX0 1 f fd ["parts_of", "below"] (spSums K) := by
  refine F.ok sc_sums_above (fun vs H Q E h => ?_) (fun cdv A outer s H vs Q E hr h => ?_)
  · obtain ⟨po, pb, kvs, M, R, rfl, _⟩ := h
    rfl
  · obtain ⟨po, pb, kvs, M, R, rfl, hm, hM, lM, nd, l3, he, npb, q⟩ := h
    have hu := hu_of hr
    refine ⟨_, pss_one (ps_ret (pe_lock (pe_dc (own := [("name", 2), ("parts", 3)]) (g := gTup K 2 (gCons (gName 2) (gCons (gName 3) gNil))) rfl sc_sums_above.nd (pi_items (pv 0))
          (blkOk_by (N := NSA) (sc := defScope s_sums_above) (by decide +kernel)) (fun _ _ _ _ _ => pg_tup rfl (pgs_cons (pg_name (i := 2) sc_sums_above.nd rfl (.inl rfl)) (pgs_cons (pg_name (i := 3) sc_sums_above.nd rfl (.inl rfl)) pgs_nil)))
          (fun _ _ _ _ _ => pts_one (pt_val (pe_callB (cr_allK (K := K) (by exact rfl) (by exact rfl)) (by rfl) T.b_all (by decide +kernel) (pa_cons (pe_lc (own := [("part", 4)]) (g := gName 4) (tt := tYes) (by exact rfl) (by exact sc_sums_above.nd) (pi_or (pi_tupK (K := K) (by exact rfl) (pv 3)) (pi_listK (K := K) (by exact rfl) (pv 3)))
              (by exact blkOk_by (by kernel_rfl)) (fun _ _ _ _ _ => pg_name (i := 4) sc_sums_above.nd rfl (.inl rfl)) (fun _ _ _ _ _ => pts_nil)
              (fun _ _ _ _ _ => pe_cmp (pc_din hu (pv 4) (pv 1)))) pa_nil))))
          (fun _ _ _ _ _ => pv 2)
          (fun _ _ _ _ _ => pe_callB (cr_sumK (K := K) (by exact rfl) (by exact rfl)) (by rfl) T.b_sum (by decide +kernel) (pa_cons (pe_lc (own := [("part", 4)]) (g := gName 4) (tt := tYes) (by exact rfl) (by exact sc_sums_above.nd) (pi_or (pi_tupK (K := K) (by exact rfl) (pv 3)) (pi_listK (K := K) (by exact rfl) (pv 3)))
              (by exact blkOk_by (by kernel_rfl)) (fun _ _ _ _ _ => pg_name (i := 4) sc_sums_above.nd rfl (.inl rfl)) (fun _ _ _ _ _ => pts_nil)
              (fun _ _ _ _ _ => pe_dget hu (pv 1) (pv 4) (fun _ _ => rfl))) pa_nil))))), ?_⟩
    have lk := hM.len
    refine ⟨po, _, hm, trivial, fun od => ?_⟩
    have heF : (upd H po (.frz od (.dK kvs))) pb = some (.dK (rowK R)) := by
      rw [upd_ne npb.symm]
      exact he
    have hMF : PartsAt K (upd H po (.frz od (.dK kvs))) kvs M := hM.same fun a xs h => h.keep fun o e n => by
      rw [upd_ne (fun c => by rw [c, hm] at e; exact n _ (Option.some.inj e).symm)]
      exact e
    refine ⟨_, rfl, po, od, kvs, rfl, upd_same, fun D hD => ?_⟩
    refine walk_in (walk_items (d := po) (o := od) (kvs := kvs)) (fun j G => G D = some (.dK (rowK (aboveR (M.take j) R))) ∧ Same (upd H po (.frz od (.dK kvs))) G) ⟨upd_same, same_new (Same.refl _) hD⟩ (fun j G _ hP => hP.2 _ _ upd_same) (fun j v Gx G hj hP hy => ?_) (fun G hP => ?_)
    · obtain ⟨eD0, sm0⟩ := hP
      obtain ⟨t, x, y, rfl, nt, rfl, hx, hy2⟩ := hy
      obtain ⟨⟨k, v⟩, hkv, rfl⟩ := Option.map_eq_some_iff.mp hx
      have hy3 : kvs[j]?.map Prod.snd = some y := hy2
      rw [hkv] at hy3
      cases hy3
      obtain ⟨m, a, hmj, rfl, rfl, ha⟩ := hMF.at hkv
      have hmM := List.mem_of_getElem? hmj
      have lm := l3 m hmM
      have sm : Same (upd H po (.frz od (.dK kvs))) (upd Gx t (.tup [kV (Sum.inr m.1), .ref a])) := same_new sm0 nt
      have eD : (upd Gx t (.tup [kV (Sum.inr m.1), .ref a])) D = some (.dK (rowK (aboveR (M.take j) R))) := by
        rw [upd_ne (ne_of_none eD0 nt)]
        exact eD0
      refine ⟨t, _, rfl, .inl (.inl upd_same), rfl, _, _, rfl, _, _, rfl, rfl, rfl, ?_⟩
      generalize upd Gx t (.tup [kV (Sum.inr m.1), .ref a]) = G at sm eD
      have haG := ha.mono sm
      have hfit : ((m.2.map fun p => decide (p ∈ keysR R)).all id) = fitsR (keysR R) m.2 := by
        unfold fitsR
        rw [List.all_map]
        rfl
      have et : aboveR (M.take (j + 1)) R = aboveR (M.take j) R ++ (if fitsR (keysR R) m.2 = true then [(m.1, (m.2.map (getR R)).sum)] else []) := by
        unfold aboveR
        rw [take_snoc hmj, List.filter_append, List.map_append]
        by_cases c : fitsR (keysR R) m.2 = true
        · simp [c]
        · simp [c]
      have hnew : m.1 ∉ keysR (aboveR (M.take j) R) := by
        rw [keys_above]
        intro hin
        have h1 := (above_sub (M.take j) (keysR R)).subset hin
        unfold keysOf at h1
        rw [List.map_take] at h1
        have hkey : (M.map (·.1))[j]? = some m.1 := by
          rw [List.getElem?_map, hmj]
          rfl
        exact take_not nd hkey h1
      have hlen : (aboveR (M.take j) R).length ≤ 6 := by
        unfold aboveR
        rw [List.length_map]
        have := List.length_filter_le (fun m => fitsR (keysR R) m.2) (M.take j)
        rw [List.length_take] at this
        omega
      rcases haG with haG | haG
      · refine .inl ⟨_, rfl, a, rfl, ⟨_, haG⟩, fun D2 hD2 => ?_⟩
        refine lc_it (g := gName 4) (tt := tYes) (vs := [4]) (walk_tup (K := K) (a := a) (xs := m.2.map V.str)) (fun i G2 => G2 D2 = some (.lst (((m.2.take i).map fun p => decide (p ∈ keysR R)).map V.bl)) ∧ Same G G2) ⟨upd_same, same_new (Same.refl G) hD2⟩ (fun i G2 _ h => sqT_mono haG h.2) (fun i v Gx G2 hi h hy => ?_) (fun G2 h => ?_)
        · obtain ⟨eD2, sm2⟩ := h
          obtain ⟨rfl, hv2⟩ := hy
          obtain ⟨z, hz, rfl⟩ := at_texts hv2
          refine ⟨rfl, _, rfl, _, rfl, pb, _, rfl, .inl ⟨_, Sum.inr z, .inl (sm2 _ _ (sm _ _ heF)), rfl, rfl⟩, ?_⟩
          show ∃ acc, _
          refine ⟨_, eD2, ?_, ?_, fun b u e => by rw [upd_ne (ne_of_none e hD2)]; exact sm2 b u e⟩
          · rw [List.length_map, List.length_map, List.length_take]
            exact Nat.lt_of_le_of_lt (show _ ≤ 3 by omega) (by decide)
          · rw [upd_same, take_snoc hz, List.map_append, List.map_append, rowK_some]
            rfl
        · obtain ⟨eD2, sm2⟩ := h
          rw [List.length_map, List.take_length] at eD2
          refine ⟨D2, _, rfl, .inl (.inl eD2), ?_⟩
          rw [hfit]
          have sm3 : ∀ b o, (upd H po (.frz od (.dK kvs))) b = some o → G2 b = some o := fun b o e => sm2 _ _ (sm b o e)
          have eD3 := sm2 _ _ eD
          have haG2 := sqT_mono haG sm2
          refine ⟨_, rfl, ?_⟩
          by_cases c : fitsR (keysR R) m.2 = true
          · rw [if_pos c] at et
            rw [if_pos c]
            refine ⟨_, rfl, .inl ⟨_, rfl, a, rfl, ⟨_, haG2⟩, fun D4 hD4 => ?_⟩⟩
            refine lc_it (g := gName 4) (tt := tYes) (vs := [4]) (walk_tup (K := K) (a := a) (xs := m.2.map V.str)) (fun i G3 => G3 D4 = some (.lst (((m.2.take i).map fun p => ((getR R p : Nat) : Int)).map V.int)) ∧ Same G2 G3) ⟨upd_same, same_new (Same.refl G2) hD4⟩ (fun i G3 _ h => sqT_mono haG2 h.2) (fun i v Gx G3 hi h hy => ?_) (fun G3 h => ?_)
            · obtain ⟨eD4, sm4⟩ := h
              obtain ⟨rfl, hv2⟩ := hy
              obtain ⟨z, hz, rfl⟩ := at_texts hv2
              have hzR : z ∈ keysR R := of_decide_eq_true (List.all_eq_true.mp c z (List.mem_of_getElem? hz))
              refine ⟨rfl, _, rfl, _, rfl, pb, _, rfl, .inl ⟨_, Sum.inr z, .inl (sm4 _ _ (sm3 _ _ heF)), rfl, (rowK_get hzR).symm⟩, _, eD4, ?_, ?_, fun b u e => by rw [upd_ne (ne_of_none e hD4)]; exact sm4 b u e⟩
              · rw [List.length_map, List.length_map, List.length_take]
                exact Nat.lt_of_le_of_lt (show _ ≤ 3 by omega) (by decide)
              · rw [upd_same, take_snoc hz, List.map_append, List.map_append]
                rfl
            · obtain ⟨eD4, sm4⟩ := h
              rw [List.length_map, List.take_length] at eD4
              refine ⟨D4, _, rfl, .inl (.inl eD4), ?_⟩
              rw [cast_sum]
              refine ⟨_, Sum.inr m.1, rfl, sm4 _ _ eD3, by rw [rowK_len]; exact Nat.lt_of_le_of_lt hlen (by decide), ?_, fun b u e => by rw [upd_ne (ne_of_none e hD)]; exact sm4 _ _ (sm3 b u e)⟩
              rw [upd_same, putK_new _ (by rw [rowK_look, lookR_no hnew]; rfl), et]
              unfold rowK
              rw [List.map_append]
              rfl
          · rw [if_neg c, List.append_nil] at et
            rw [if_neg c]
            rw [et]
            exact ⟨eD3, sm3⟩
      · refine .inr ⟨_, rfl, a, rfl, ⟨_, haG⟩, fun D2 hD2 => ?_⟩
        refine lc_it (g := gName 4) (tt := tYes) (vs := [4]) (walk_list (K := K) (a := a) (xs := m.2.map V.str)) (fun i G2 => G2 D2 = some (.lst (((m.2.take i).map fun p => decide (p ∈ keysR R)).map V.bl)) ∧ Same G G2) ⟨upd_same, same_new (Same.refl G) hD2⟩ (fun i G2 _ h => sqL_mono haG h.2) (fun i v Gx G2 hi h hy => ?_) (fun G2 h => ?_)
        · obtain ⟨eD2, sm2⟩ := h
          obtain ⟨rfl, hv2⟩ := hy
          obtain ⟨z, hz, rfl⟩ := at_texts hv2
          refine ⟨rfl, _, rfl, _, rfl, pb, _, rfl, .inl ⟨_, Sum.inr z, .inl (sm2 _ _ (sm _ _ heF)), rfl, rfl⟩, ?_⟩
          show ∃ acc, _
          refine ⟨_, eD2, ?_, ?_, fun b u e => by rw [upd_ne (ne_of_none e hD2)]; exact sm2 b u e⟩
          · rw [List.length_map, List.length_map, List.length_take]
            exact Nat.lt_of_le_of_lt (show _ ≤ 3 by omega) (by decide)
          · rw [upd_same, take_snoc hz, List.map_append, List.map_append, rowK_some]
            rfl
        · obtain ⟨eD2, sm2⟩ := h
          rw [List.length_map, List.take_length] at eD2
          refine ⟨D2, _, rfl, .inl (.inl eD2), ?_⟩
          rw [hfit]
          have sm3 : ∀ b o, (upd H po (.frz od (.dK kvs))) b = some o → G2 b = some o := fun b o e => sm2 _ _ (sm b o e)
          have eD3 := sm2 _ _ eD
          have haG2 := sqL_mono haG sm2
          refine ⟨_, rfl, ?_⟩
          by_cases c : fitsR (keysR R) m.2 = true
          · rw [if_pos c] at et
            rw [if_pos c]
            refine ⟨_, rfl, .inr ⟨_, rfl, a, rfl, ⟨_, haG2⟩, fun D4 hD4 => ?_⟩⟩
            refine lc_it (g := gName 4) (tt := tYes) (vs := [4]) (walk_list (K := K) (a := a) (xs := m.2.map V.str)) (fun i G3 => G3 D4 = some (.lst (((m.2.take i).map fun p => ((getR R p : Nat) : Int)).map V.int)) ∧ Same G2 G3) ⟨upd_same, same_new (Same.refl G2) hD4⟩ (fun i G3 _ h => sqL_mono haG2 h.2) (fun i v Gx G3 hi h hy => ?_) (fun G3 h => ?_)
            · obtain ⟨eD4, sm4⟩ := h
              obtain ⟨rfl, hv2⟩ := hy
              obtain ⟨z, hz, rfl⟩ := at_texts hv2
              have hzR : z ∈ keysR R := of_decide_eq_true (List.all_eq_true.mp c z (List.mem_of_getElem? hz))
              refine ⟨rfl, _, rfl, _, rfl, pb, _, rfl, .inl ⟨_, Sum.inr z, .inl (sm4 _ _ (sm3 _ _ heF)), rfl, (rowK_get hzR).symm⟩, _, eD4, ?_, ?_, fun b u e => by rw [upd_ne (ne_of_none e hD4)]; exact sm4 b u e⟩
              · rw [List.length_map, List.length_map, List.length_take]
                exact Nat.lt_of_le_of_lt (show _ ≤ 3 by omega) (by decide)
              · rw [upd_same, take_snoc hz, List.map_append, List.map_append]
                rfl
            · obtain ⟨eD4, sm4⟩ := h
              rw [List.length_map, List.take_length] at eD4
              refine ⟨D4, _, rfl, .inl (.inl eD4), ?_⟩
              rw [cast_sum]
              refine ⟨_, Sum.inr m.1, rfl, sm4 _ _ eD3, by rw [rowK_len]; exact Nat.lt_of_le_of_lt hlen (by decide), ?_, fun b u e => by rw [upd_ne (ne_of_none e hD)]; exact sm4 _ _ (sm3 b u e)⟩
              rw [upd_same, putK_new _ (by rw [rowK_look, lookR_no hnew]; rfl), et]
              unfold rowK
              rw [List.map_append]
              rfl
          · rw [if_neg c, List.append_nil] at et
            rw [if_neg c]
            rw [et]
            exact ⟨eD3, sm3⟩
    · obtain ⟨eD, sm⟩ := hP
      rw [lk, List.take_length] at eD
      have s1 := same_unlock hm sm
      have nD : D ≠ po := fun z => by
        rw [z, upd_same] at hD
        cases hD
      refine ⟨sm _ _ upd_same, q D _ s1 ?_ (by rw [upd_ne nD]; exact eD)⟩
      rw [upd_ne nD] at hD
      exact hD
end
end Kl

set_option maxRecDepth 100000
set_option maxHeartbeats 4000000
namespace Kl
open PySem PySem.Spec PyProof.Rows L2 Gx Mx
section
variable {P : Program} {w : World} {K : PySem.W.Frag} {mg : Str → Option Value} {base : Heap}
/-! ### the sizes of many ranks -/
def RowsAt (H : Hp) (leaf : Str) (M : Mak) (ds : List Addr) : Prop := ∀ (i : Nat) (a : Addr), ds[i]? = some a → H a = some (.dK (rowK (rowsR leaf M i)))
theorem RowsAt.same {H H' : Hp} {leaf : Str} {M : Mak} {ds : List Addr} (h : RowsAt H leaf M ds) (s : Same H H') : RowsAt H' leaf M ds := fun i a e => s _ _ (h i a e)
theorem RowsAt.snoc {H H' : Hp} {leaf : Str} {M : Mak} {ds : List Addr} {p : Addr} (h : RowsAt H leaf M ds) (k : ∀ a kv, H a = some (.dK kv) → H' a = some (.dK kv)) (e : H' p = some (.dK (rowK (rowsR leaf M ds.length)))) : RowsAt H' leaf M (ds ++ [p]) := by
  intro i a ha
  rw [List.getElem?_append] at ha
  by_cases c : i < ds.length
  · rw [if_pos c] at ha
    exact k _ _ (h i a ha)
  · rw [if_neg c] at ha
    obtain ⟨h1, h2⟩ := List.getElem?_eq_some_iff.mp ha
    have e0 : i - ds.length = 0 := by
      rw [List.length_singleton] at h1
      omega
    have e1 : i = ds.length := by omega
    rw [e1]
    have : a = p := by
      rw [e0] at ha
      exact (Option.some.inj ha).symm
    rw [this]
    exact e
def spSumsBy (K : PySem.W.Frag) : Sp := fun vs H Q _ => ∃ (leaf : Str) (po : Addr) (n : Nat) (kvs : List (Key × V)) (M : Mak), vs = [V.str leaf, V.ref po, V.int (n : Nat)] ∧ n ≤ 1000 ∧ H po = some (.dK kvs) ∧ PartsAt K H kvs M ∧ M.length ≤ 6 ∧ (keysOf M).Nodup ∧ (∀ m ∈ M, m.2.length ≤ 3) ∧
  ∀ (p : Addr) (ds : List Addr) (H' : Hp), Same H H' → H p = none → H' p = some (.lst (ds.map V.ref)) → ds.length = max 1 n → RowsAt H' leaf M ds → Q (.ref p) H'
abbrev NSB : List Str := ["leaf", "parts_of", "ranks", "by_rank"]
theorem ok_sumsBy {f : Addr} {fd : FuncData} (F : Fun K "sums_by_rank" "sums_by_rank" s_sums_by_rank f fd) (T : Top K mg) : FnOk P w K mg base CX0 2 f fd ["leaf", "parts_of", "ranks"] (spSumsBy K) := by
  have cs : Cal P w K mg base 1 "sums_above" ["parts_of", "below"] (spSums K) := T.d_sums_above.cal fun f fd F => ok_sums F T
  refine F.ok sc_sums_by_rank (fun vs H Q E h => ?_) (fun cdv A outer s H vs Q E hr h => ?_)
  · obtain ⟨leaf, po, n, kvs, M, rfl, _⟩ := h
    rfl
  · obtain ⟨leaf, po, n, kvs, M, rfl, n2, hm, hM, lM, nd, l3, q⟩ := h
    have hu := hu_of hr
    refine ⟨_, pss_cut (ps_set (i := 3) sc_sums_by_rank.nd rfl (.inl rfl) (pe_lst (pa_cons (pe_disp (pps_cons (pv 0) pe_int pps_nil) rfl rfl (by decide) (by decide)) pa_nil)))
      (pss_cut (ps_while PassesOwn.never (pt_cmpR op_lt (pe_callB call_len_seq (by rfl) T.b_len PySem.boot_len (pa_cons (pv 3) pa_nil)) (pv 2) (nomark _))
        (pss_one (ps_expr (pe_bm PySem.F.plainAttrs_list PySem.F.slot_list_append PySem.F.type_list_append mt_append (pv 3) (pa_cons (pe_cal cs hr (by rfl) (pa_cons (pv 1) (pa_cons (pe_ix ix_list (pv 3) (pe_un un_neg pe_int) (fun _ _ => rfl)) pa_nil))) pa_nil)))))
      (pss_one (ps_ret (pv 3)))), ?_⟩
    have big : 100000 ≤ sizeLine := by decide
    refine ⟨fun σ' G => ∃ (bl b0 : Addr), σ' = [some (.str leaf), some (.ref po), some (.int (n : Nat)), some (.ref bl)] ∧ G bl = some (.lst [.ref b0]) ∧ G b0 = some (.dK (rowK (rowsR leaf M 0))) ∧ Same H G ∧ H bl = none ∧ H b0 = none, ?_, ?_⟩
    · refine fun b0 nb0 => ⟨_, rfl, upd_same, [(Sum.inr leaf, V.int 1)], rfl, by show 1 ≤ 15; omega, by show 1 ≤ sizeLine; omega, fun bl nbl => ?_⟩
      have e1 : mergeK [] [((Sum.inr leaf : Key), V.int 1)] = rowK (rowsR leaf M 0) := rfl
      rw [e1] at nbl ⊢
      have s1 : Same H (upd (upd H b0 (.dK [])) b0 (.dK (rowK (rowsR leaf M 0)))) := fun b o e => by
        rw [upd_ne (ne_of_none e nb0), upd_ne (ne_of_none e nb0)]
        exact e
      have s2 := same_new (o := .lst [V.ref b0]) s1 nbl
      refine ⟨bl, b0, rfl, upd_same, ?_, s2, s1.free nbl, nb0⟩
      rw [upd_ne (ne_of_none upd_same nbl)]
      exact upd_same
    rintro σ' G ⟨bl, b0, rfl, ebl, eb0, s0, nbl, nb0⟩
    refine ⟨fun σ' G' => ∃ ds : List Addr, σ' = [some (.str leaf), some (.ref po), some (.int (n : Nat)), some (.ref bl)] ∧ G' bl = some (.lst (ds.map V.ref)) ∧ ds.length = max 1 n ∧ RowsAt G' leaf M ds ∧ Same H G', ?_, ?_⟩
    · refine ⟨fun m σ' G' => ∃ ds : List Addr, σ' = [some (.str leaf), some (.ref po), some (.int (n : Nat)), some (.ref bl)] ∧ G' bl = some (.lst (ds.map V.ref)) ∧ ds.length + m = max 1 n ∧ 1 ≤ ds.length ∧ RowsAt G' leaf M ds ∧ Same H G' ∧ ∀ a ∈ ds, H a = none,
        ⟨max 1 n - 1, [b0], rfl, ebl, by rw [List.length_singleton]; omega, by show 1 ≤ 1; omega, ?_, s0, fun a ha => by rw [List.mem_singleton.mp ha]; exact nb0⟩, fun m σ' G' hW => ?_⟩
      · intro i a ha
        have hi : i = 0 := by
          have := (List.getElem?_eq_some_iff.mp ha).1
          rw [List.length_singleton] at this
          omega
        subst hi
        cases ha
        exact eb0
      obtain ⟨ds, rfl, eB, hl, h1, hR, sm, hF⟩ := hW
      have ld : (ds.map V.ref).length = ds.length := List.length_map _
      refine ⟨_, rfl, bl, _, rfl, .inl (.inl (.inl eB)), _, rfl, _, _, rfl, rfl, ?_⟩
      rw [ld]
      refine ⟨_, rfl, ?_⟩
      refine ite2 (fun c0 => ?_) (fun c0 => ?_)
      · have c : ds.length < n := by
          have := of_decide_eq_true c0
          omega
        refine ⟨fun σ' G' => ∃ m', m' < m ∧ ∃ ds : List Addr, σ' = [some (.str leaf), some (.ref po), some (.int (n : Nat)), some (.ref bl)] ∧ G' bl = some (.lst (ds.map V.ref)) ∧ ds.length + m' = max 1 n ∧ 1 ≤ ds.length ∧ RowsAt G' leaf M ds ∧ Same H G' ∧ ∀ a ∈ ds, H a = none, fun σ' G' h => h, ?_⟩
        obtain ⟨k, hk⟩ : ∃ k, ds.length = k + 1 := ⟨ds.length - 1, by omega⟩
        have hlast : atI (ds.map V.ref) (-1) = (ds[k]?).map V.ref := by
          unfold atI ixN
          rw [ld]
          have h0 : ¬ (0 : Int) ≤ -1 := by omega
          rw [if_neg h0, if_pos (by omega)]
          show (ds.map V.ref)[((-1 : Int) + (ds.length : Int)).toNat]? = _
          rw [show ((-1 : Int) + (ds.length : Int)).toNat = k by omega, List.getElem?_map]
        have hdk : ds[k]? = some ds[k] := List.getElem?_eq_getElem (by omega)
        rw [hdk] at hlast
        have hrow := hR k _ hdk
        refine ⟨_, rfl, ⟨.inl ⟨rfl, _, .inl (.inl eB)⟩, ?_⟩⟩
        have hmG := sm _ _ hm
        have hMG : PartsAt K G' kvs M := hM.same fun a xs h => h.mono sm
        have npo : po ≠ ds[k] := fun z => by
          have := hF _ (List.mem_of_getElem? hdk)
          rw [← z, hm] at this
          cases this
        refine ⟨_, rfl, _, rfl, _, rfl, bl, _, _, _, rfl, rfl, .inl (.inl eB), hlast, po, ds[k], kvs, M, rowsR leaf M k, rfl, hmG, hMG, lM, nd, l3, hrow, npo, fun p H2 s2 np ep => ?_⟩
        refine ⟨bl, _, _, rfl, rfl, s2 _ _ eB, by rw [ld]; exact Nat.lt_of_le_of_lt (show _ ≤ 1000 by omega) (by decide), ?_⟩
        have npb : p ≠ bl := fun z => by
          rw [z, eB] at np
          cases np
        refine ⟨m - 1, by omega, ds ++ [p], rfl, ?_, by rw [List.length_append, List.length_singleton]; omega, by rw [List.length_append]; omega, ?_, fun b o e => ?_, fun a ha => ?_⟩
        · rw [upd_same, List.map_append]
          rfl
        · refine (hR.same s2).snoc (fun a kv e => ?_) ?_
          · rw [upd_ne (fun z => by rw [z, s2 _ _ eB] at e; cases e)]
            exact e
          · rw [upd_ne npb, hk]
            exact ep
        · rw [upd_ne (ne_of_none e nbl)]
          exact s2 _ _ (sm _ _ e)
        · rcases List.mem_append.mp ha with h | h
          · exact hF a h
          · rw [List.mem_singleton.mp h]
            exact sm.free np
      · have c : ¬ ds.length < n := fun z => c0 (decide_eq_true (by omega))
        exact ⟨ds, rfl, eB, by omega, hR, sm⟩
    rintro σ' G' ⟨ds, rfl, eB, hl, hR, sm⟩
    exact ⟨_, rfl, q bl ds G' sm nbl eB hl hR⟩
/-! ### the kinds of each rank -/
end
end Kl

set_option maxRecDepth 100000
/-! ### own rule: zip(t, l), t a tuple, l a list; a walk within a walk -/
namespace L2
open PySem PySem.Spec PyProof.Rows
set_option maxHeartbeats 4000000
theorem sep_zip {z TI TO i1 i2 a b : Addr} (D : ZipApart z TI TO i1 i2 a b) : ZipSep2 z TI TO i1 i2 [i1, a] [i2, b] := by
  refine ⟨D.TIz, D.TOz, D.TITO, D.TIi1, by simp, ?_, ?_, D.TIi2, by simp, ?_, ?_, ?_, ?_⟩
  · simp only [List.mem_cons, List.not_mem_nil, or_false, not_or]
    exact ⟨D.i1z.symm, D.l1z.symm⟩
  · simp only [List.mem_cons, List.not_mem_nil, or_false, not_or]
    exact ⟨D.TOi1, D.l1TO.symm⟩
  · simp only [List.mem_cons, List.not_mem_nil, or_false, not_or]
    exact ⟨D.i2z.symm, D.l2z.symm⟩
  · simp only [List.mem_cons, List.not_mem_nil, or_false, not_or]
    exact ⟨D.TOi2, D.l2TO.symm⟩
  · simp only [List.mem_cons, List.not_mem_nil, or_false, not_or]
    exact ⟨D.i12, D.l2i1.symm⟩
  · simp only [List.mem_cons, List.not_mem_nil, or_false, not_or]
    exact ⟨D.i12.symm, D.l1i2.symm⟩
/-- the tuple at a and the list at b, items side by side in new pairs -/
def ItzM (K : PySem.W.Frag) (a b : Addr) : It :=
  ⟨fun i H => ∃ (xs ys : List V) (x y : V), SqT K H a xs ∧ SqL K H b ys ∧ xs[i]? = some x ∧ ys[i]? = some y,
    fun i H v H' => ∃ T x y, v = .ref T ∧ H T = none ∧ H' = upd H T (.tup [x, y]) ∧ (∀ us, SqT K H a us → us[i]? = some x) ∧ ∀ us, SqL K H b us → us[i]? = some y,
    fun i H => ∃ xs ys : List V, SqT K H a xs ∧ SqL K H b ys ∧ i ≤ xs.length ∧ i ≤ ys.length ∧ (xs.length = i ∨ ys.length = i)⟩
theorem turn_zipM {P : Program} {w : World} {K : PySem.W.Frag} {elts : List Expr} {kk : Nat} {tpos : Pos} {a b z TI TO i1 i2 : Addr} (D : ZipApart z TI TO i1 i2 a b) :
    Turn P w K (.Tuple elts kk tpos) (ItzM K a b) [z, TI, TO, i1, i2] z (fun i h => IsZip h z TI TO .none ∧ IsTupOf2 h TI (.ref i1) (.ref i2) ∧ (∃ x y, IsTupOf2 h TO x y) ∧ h.IsTupleIter i1 a i ∧ h.IsListIter i2 b i) where
  mem := by simp
  obj := fun i h st c hc => by
    obtain ⟨hz, hTI, ⟨x, y, hTO⟩, ⟨o1, e1, _, d1⟩, ⟨o2, e2, _, d2⟩⟩ := st
    have e' : c = z ∨ c = TI ∨ c = TO ∨ c = i1 ∨ c = i2 := by simpa using hc
    rcases e' with q | q | q | q | q
    · rw [q]; exact ⟨_, hz, fun v q => nomatch q⟩
    · rw [q]; exact ⟨_, hTI, fun v q => nomatch q⟩
    · rw [q]; exact ⟨_, hTO, fun v q => nomatch q⟩
    · rw [q]; exact ⟨o1, e1, fun v q => by rw [d1] at q; cases q⟩
    · rw [q]; exact ⟨o2, e2, fun v q => by rw [d2] at q; cases q⟩
  keep := fun i h h' st k => by
    obtain ⟨hz, hTI, ⟨x, y, hTO⟩, h1, h2⟩ := st
    refine ⟨k z (by simp) _ hz, k TI (by simp) _ hTI, ⟨x, y, k TO (by simp) _ hTO⟩, h1.at fun o q => k i1 (by simp) o q, ?_⟩
    exact h2.at fun o q => k i2 (by simp) o q
  item := by
    intro X hP hw hK hc i pins s σ H E I hf st hg
    subst hP hw hK
    obtain ⟨hz, hTI, ⟨x0, y0, hTO⟩, h1, h2⟩ := st
    obtain ⟨xs, ys, x, y, hqx, hqy, hx, hy⟩ := hg
    obtain ⟨its, rv, p, _⟩ := I.tuple hqx
    obtain ⟨its2, rv2, p2, _⟩ := I.list hqy
    obtain ⟨u, hu, ru⟩ := rv.get hx
    obtain ⟨u2, hu2, ru2⟩ := rv2.get hy
    have hp : s.heap.IsTuple a its.toArray := p
    have hp2 : s.heap.IsList b its2.toArray := p2.isList
    have hzl : z < s.heap.objs.size := Heap.lt_size hz
    have lt1 : i < its.toArray.size := by
      have := (List.getElem?_eq_some_iff.mp hu).1
      simpa using this
    have lt2 : i < its2.toArray.size := by
      have := (List.getElem?_eq_some_iff.mp hu2).1
      simpa using this
    refine wpAny_pyNext_zipD2_item (sep_zip D) (Draws.tuple (A := X.A.in1) (I.ok.hd hc) i1 a D.l1i1 its.toArray) (Draws.list (A := X.A.in1) (I.ok.hd hc) i2 b D.l2i2 its2.toArray) hz hTI hTO ⟨h1, hp⟩ ⟨h2, hp2⟩ lt1 lt2 fun w1 w2 h' tk y1 y2 z' TO' st1 st2 hT hsz hk => ?_
    have ew1 : w1 = u := by
      have q : its.toArray[i]? = some u := by simpa using hu
      exact Option.some.inj (y1.symm.trans q)
    have ew2 : w2 = u2 := by
      have q : its2.toArray[i]? = some u2 := by simpa using hu2
      exact Option.some.inj (y2.symm.trans q)
    subst ew1 ew2
    refine ⟨_, rfl, wpAny_letOwnedTupleGo_zip (s := { s with heap := h', toks := tk }) z' fun h'' z'' sb => ?_⟩
    have hT2 : h''.get? s.heap.objs.size = some { cls := .type "tuple", data := .seq #[w1, w2] } := (sb.2 _ (Nat.ne_of_gt hzl)).trans hT
    have new : ObjOk X.prog X.w (upd H s.heap.objs.size (.tup [x, y])) h'' s.heap.objs.size (.tup [x, y]) :=
      ⟨by show 2 ≤ sizeLine; decide, [w1, w2], .cons ru (.cons ru2 .nil), ⟨_, hT2, rfl, _, rfl⟩⟩
    have I1 : Inv X pins σ (upd H s.heap.objs.size (.tup [x, y])) { s with heap := h'', toks := tk } := by
      refine I.turnedNew (ch := [z, TI, TO, i1, i2]) (fun c o hb q => ?_) hf (Nat.le_refl _) new
      have nb : c ≠ z ∧ c ≠ TI ∧ c ≠ TO ∧ c ≠ i1 ∧ c ≠ i2 := by simpa using hb
      exact (sb.2 c nb.1).trans (hk c o nb.1 nb.2.2.1 nb.2.2.2.1 nb.2.2.2.2 q)
    refine ⟨.ref s.heap.objs.size, _, I1, rfl, ⟨_, x, y, rfl, I.hok.fresh (Nat.le_refl _), rfl, fun l hl => ?_, fun l hl => ?_⟩, ⟨z'', ?_, ⟨w1, w2, ?_⟩, ?_, ?_⟩, fun c hcm => ?_⟩
    · rw [I.tuple_inj hl hqx]
      exact hx
    · rw [I.list_inj hl hqy]
      exact hy
    · exact (sb.2 _ D.TIz).trans (hk _ _ D.TIz D.TITO D.TIi1 D.TIi2 hTI)
    · exact (sb.2 _ D.TOz).trans TO'
    · exact st1.1.at fun o q => (sb.2 _ D.i1z).trans q
    · exact st2.1.at fun o q => (sb.2 _ D.i2z).trans q
    · have hlt : c < s.heap.objs.size := by
        have e' : c = z ∨ c = TI ∨ c = TO ∨ c = i1 ∨ c = i2 := by simpa using hcm
        rcases e' with rfl | rfl | rfl | rfl | rfl
        · exact hzl
        · exact Heap.lt_size hTI
        · exact Heap.lt_size hTO
        · obtain ⟨_, e1, _⟩ := h1
          exact Heap.lt_size e1
        · obtain ⟨_, e2, _⟩ := h2
          exact Heap.lt_size e2
      rw [upd_ne (Nat.ne_of_lt hlt)]
      exact (hf c hcm).1
  done := by
    intro X hP hw hK hc i pins s σ H E I hf st hg
    subst hP hw hK
    obtain ⟨hz, hTI, ⟨x0, y0, hTO⟩, h1, h2⟩ := st
    obtain ⟨xs, ys, hqx, hqy, b1, b2, hend⟩ := hg
    obtain ⟨its, rv, p, _⟩ := I.tuple hqx
    obtain ⟨its2, rv2, p2, _⟩ := I.list hqy
    have hp : s.heap.IsTuple a its.toArray := p
    have l1 := rv.length
    have l2 := rv2.length
    refine wpAny_pyNext_zipD2_end (sep_zip D) (Draws.tuple (A := X.A.in1) (I.ok.hd hc) i1 a D.l1i1 its.toArray) (Draws.list (A := X.A.in1) (I.ok.hd hc) i2 b D.l2i2 its2.toArray) hz hTI hTO ⟨h1, hp⟩ ⟨h2, p2.isList⟩ (by simp; omega) (by simp; omega) (by simp; omega) fun h' tk hk => ?_
    refine ⟨rfl, I.turnedL (t' := tk) (ch := [z, TI, TO, i1, i2]) (fun c o hb q => ?_) hf⟩
    have nb : c ≠ z ∧ c ≠ TI ∧ c ≠ TO ∧ c ≠ i1 ∧ c ≠ i2 := by simpa using hb
    exact hk c o nb.1 nb.2.2.1 nb.2.2.2.1 nb.2.2.2.2 q
  self := fun A i s Q E st h => wpAny_pyIter_zip st.1 h
def iZipM (K : PySem.W.Frag) (ta : TA) : TI := fun σ H R => ta σ H fun vs H1 => ∃ a b xs ys, vs = [.ref a, .ref b] ∧ SqT K H1 a xs ∧ SqL K H1 b ys ∧ R (ItzM K a b) H1
theorem pi_zipM {X : Cx} {e e2 : Expr} {ta : TA} {p pos tpos : Pos} {elts : List Expr} {kk : Nat} (hg : Gl X "zip") (hm : X.mg "zip" = none) (ha : PA X [e, e2] ta)
    (hs : starEach [e, e2] X.env = (false, eval e X.env) :: starEach [e2] X.env := by rfl) (hpl : (backTo pos (starEach [e2] X.env)).any (·.1) = false := by rfl) :
    PI X (.Tuple elts kk tpos) (.Call (.Name "zip" p) [e, e2] [] pos) (iZipM X.K ta) := by
  refine ⟨fun pins s σ H R I h => ?_⟩
  refine Call_ (ld_blt I hg hm PyProof.Rows.boot_zip (PyProof.Rows.callWith_type1 (thn (ha.run pos pins s σ H _ I h) fun us s1 ⟨vs, H1, I1, r1, q1⟩ => ?_) hs hpl))
  obtain ⟨a, b, xs, ys, ex, hqx, hqy, q⟩ := q1
  subst ex
  cases r1 with
  | cons r rr =>
    cases rr with
    | cons r' rr =>
      cases rr
      cases r
      cases r'
      obtain ⟨its, rv, p1, _⟩ := I1.tuple hqx
      obtain ⟨its2, rv2, p2, _⟩ := I1.list hqy
      have hp1 : s1.heap.IsTuple a its.toArray := p1
      have la : a < s1.heap.objs.size := by
        obtain ⟨_, e, _⟩ := hp1
        exact Heap.lt_size e
      refine zip_begins2 (begins_tuple a its.toArray) (begins_list b its2.toArray) hp1 p2.isList fun h' hz hTI hTO g1 g2 hsz hk => wpAny_pyIter_zip hz ?_
      have I2 : Inv X pins σ H1 { s1 with heap := h' } := I1.kept (t' := s1.toks) hk
      refine ⟨s1.heap.objs.size + 4, _, _, _, H1, rfl, I2, turn_zipM (PySem.W.ktu_apart s1.heap.objs.size a b la p2.lt), ⟨hz, hTI, ⟨_, _, hTO⟩, ⟨_, g1, rfl, rfl⟩, ⟨_, g2, rfl, rfl⟩⟩, fun c hcm => ?_, q⟩
      have hle : s1.heap.objs.size ≤ c := by
        simp only [List.mem_cons, List.not_mem_nil, or_false] at hcm
        rcases hcm with rfl | rfl | rfl | rfl | rfl
        all_goals first | exact Nat.le_refl _ | exact Nat.le_add_right _ _
      exact I1.fpOk hle (I1.hok.fresh hle)
theorem walk_zipM {K : PySem.W.Frag} {a b : Addr} {xs ys : List V} {n : Nat} (hn : n = min xs.length ys.length) : Walk (ItzM K a b) n (fun H => SqT K H a xs ∧ SqL K H b ys) (YPair (fun i => xs[i]?) (fun i => ys[i]?)) := by
  subst hn
  refine ⟨fun i _ hi q => ?_, fun _ q => ⟨xs, ys, q.1, q.2, Nat.min_le_left _ _, Nat.min_le_right _ _, ?_⟩, fun i H v H' _ q y => ?_⟩
  · have g1 : i < xs.length := by omega
    have g2 : i < ys.length := by omega
    exact ⟨xs, ys, xs[i], ys[i], q.1, q.2, List.getElem?_eq_getElem g1, List.getElem?_eq_getElem g2⟩
  · omega
  · obtain ⟨T, u, z, e1, e2, e3, e4, e5⟩ := y
    exact ⟨T, u, z, e1, e2, e3, e4 _ q.1, e5 _ q.2⟩
/-- the outer walk of a comprehension with two `for`s -/
theorem lc2_it {J : It} {n : Nat} {G : Hp → Prop} {Y : Nat → Hp → V → Hp → Prop} (w : Walk J n G Y) {g : TG} {tt : TT} {R : L2.St → Hp → (Hp → Prop) → Prop} {vs : List Nat} {σ : L2.St} {H1 : Hp} {D : Addr} {Qd : Hp → Prop} (Pv : Nat → Hp → Prop) (h0 : Pv 0 (upd H1 D (.lst []))) (hG : ∀ i H, i ≤ n → Pv i H → G H)
    (hs : ∀ i x H H', i < n → Pv i H → Y i H x H' → g x (wipe σ vs) H' fun σ2 H2 => wipe σ2 vs = wipe σ vs ∧ tt σ2 H2 fun b H3 => if b = true then R σ2 H3 (Pv (i + 1)) else Pv (i + 1) H3) (hd : ∀ H, Pv n H → Qd H) :
    ∃ W : Nat → Nat → Hp → Prop, (∃ m, W 0 m (upd H1 D (.lst []))) ∧ ∀ i m H, W i m H →
      (J.stop i H ∧ Qd H) ∨ (J.go i H ∧ ∃ Nx : Hp → Prop, (∀ H', Nx H' → ∃ m', m' < m ∧ W (i + 1) m' H') ∧ ∀ x H', J.yld i H x H' → g x (wipe σ vs) H' fun σ2 H2 => wipe σ2 vs = wipe σ vs ∧ tt σ2 H2 fun b H3 => if b = true then R σ2 H3 Nx else Nx H3) := by
  refine ⟨fun i m H => m = n - i ∧ i ≤ n ∧ Pv i H, ⟨n, rfl, Nat.zero_le _, h0⟩, ?_⟩
  rintro i m H ⟨em, hi, hp⟩
  subst em
  have gH := hG i H hi hp
  rcases Nat.lt_or_ge i n with c | c
  · exact .inr ⟨w.goes i H c gH, Pv (i + 1), fun H' p' => ⟨n - (i + 1), Nat.sub_lt_sub_left c (Nat.lt_succ_self i), rfl, c, p'⟩, fun x H' y => hs i x H H' c hp (w.yields i H x H' c gH y)⟩
  · have e : i = n := Nat.le_antisymm hi c
    subst e
    exact .inl ⟨w.stops H gH, hd H hp⟩
/-- the inner one -/
theorem in_it {J : It} {n : Nat} {G : Hp → Prop} {Y : Nat → Hp → V → Hp → Prop} (w : Walk J n G Y) {g : TG} {R : L2.St → Hp → (Hp → Prop) → Prop} {vs : List Nat} {σ : L2.St} {H1 : Hp} {Qd : Hp → Prop} (Pv : Nat → Hp → Prop) (h0 : Pv 0 H1) (hG : ∀ i H, i ≤ n → Pv i H → G H)
    (hs : ∀ i x H H', i < n → Pv i H → Y i H x H' → g x (wipe σ vs) H' fun σ2 H2 => wipe σ2 vs = wipe σ vs ∧ R σ2 H2 (Pv (i + 1))) (hd : ∀ H, Pv n H → Qd H) :
    ∃ W : Nat → Nat → Hp → Prop, (∃ m, W 0 m H1) ∧ ∀ i m H, W i m H →
      (J.stop i H ∧ Qd H) ∨ (J.go i H ∧ ∃ Nx : Hp → Prop, (∀ H', Nx H' → ∃ m', m' < m ∧ W (i + 1) m' H') ∧ ∀ x H', J.yld i H x H' → g x (wipe σ vs) H' fun σ2 H2 => wipe σ2 vs = wipe σ vs ∧ R σ2 H2 Nx) := by
  refine ⟨fun i m H => m = n - i ∧ i ≤ n ∧ Pv i H, ⟨n, rfl, Nat.zero_le _, h0⟩, ?_⟩
  rintro i m H ⟨em, hi, hp⟩
  subst em
  have gH := hG i H hi hp
  rcases Nat.lt_or_ge i n with c | c
  · exact .inr ⟨w.goes i H c gH, Pv (i + 1), fun H' p' => ⟨n - (i + 1), Nat.sub_lt_sub_left c (Nat.lt_succ_self i), rfl, c, p'⟩, fun x H' y => hs i x H H' c hp (w.yields i H x H' c gH y)⟩
  · have e : i = n := Nat.le_antisymm hi c
    subst e
    exact .inl ⟨w.stops H gH, hd H hp⟩
end L2

set_option maxRecDepth 100000
set_option maxHeartbeats 4000000
namespace Kl
open PySem PySem.Spec PyProof.Rows L2 Gx Mx
/-! ### keys_of -/
/-- the sizes of the kinds of a row, in their order, up to a rank -/
def keysL (leaf : Str) (M : Mak) (qs : List (List Str)) (j : Nat) : List Nat := ((List.range j).map fun i => (dg qs i).map (getR (rowsR leaf M i))).flatten
/-- all kinds of a row exist at their ranks -/
def Exist (leaf : Str) (M : Mak) (qs : List (List Str)) : Prop := ∀ i, ∀ z ∈ dg qs i, z ∈ keysR (rowsR leaf M i)
theorem keysL_succ (leaf : Str) (M : Mak) (qs : List (List Str)) (j : Nat) : keysL leaf M qs (j + 1) = keysL leaf M qs j ++ (dg qs j).map (getR (rowsR leaf M j)) := by
  unfold keysL
  rw [List.range_succ, List.map_append, List.flatten_append]
  simp
theorem keysL_len (leaf : Str) (M : Mak) (qs : List (List Str)) (h : ∀ i, (dg qs i).length ≤ 20) : ∀ j, (keysL leaf M qs j).length ≤ 20 * j
  | 0 => Nat.zero_le _
  | j + 1 => by
    rw [keysL_succ, List.length_append, List.length_map]
    have := keysL_len leaf M qs h j
    have := h j
    omega
theorem cast_sumN : ∀ l : List Nat, (l.map fun n => ((n : Nat) : Int)).sum = ((l.sum : Nat) : Int)
  | [] => rfl
  | n :: l => by rw [List.map_cons, List.sum_cons, List.sum_cons, cast_sumN l, Int.natCast_add]
/-- what a walk over the digits, rank by rank and name by name, gathers -/
def accF (f : Nat → Str → V) (qs : List (List Str)) (j : Nat) : List V := ((List.range j).map fun i => (dg qs i).map (f i)).flatten
theorem accF_succ (f : Nat → Str → V) (qs : List (List Str)) (j : Nat) : accF f qs (j + 1) = accF f qs j ++ (dg qs j).map (f j) := by
  unfold accF
  rw [List.range_succ, List.map_append, List.flatten_append]
  simp
theorem accF_len (f : Nat → Str → V) (qs : List (List Str)) (h : ∀ i, (dg qs i).length ≤ 20) : ∀ j, (accF f qs j).length ≤ 20 * j
  | 0 => Nat.zero_le _
  | j + 1 => by
    rw [accF_succ, List.length_append, List.length_map]
    have := accF_len f qs h j
    have := h j
    omega
theorem accF_keys (leaf : Str) (M : Mak) (qs : List (List Str)) : ∀ j, accF (fun i z => V.int (getR (rowsR leaf M i) z : Nat)) qs j = (keysL leaf M qs j).map fun n => V.int (n : Nat)
  | 0 => rfl
  | j + 1 => by
    rw [accF_succ, keysL_succ, List.map_append, accF_keys leaf M qs j, List.map_map]
    rfl
theorem accF_true (qs : List (List Str)) : ∀ j, ∃ n, accF (fun _ _ => V.bl true) qs j = (List.replicate n true).map V.bl
  | 0 => ⟨0, rfl⟩
  | j + 1 => by
    obtain ⟨n, e⟩ := accF_true qs j
    refine ⟨n + (dg qs j).length, ?_⟩
    rw [accF_succ, e, List.map_replicate, List.map_replicate, List.map_const', List.replicate_append_replicate]
abbrev gDH (K : PySem.W.Frag) : TG := gTup K 2 (gCons (gName 3) (gCons (gName 4) gNil))
/-- a walk within a walk, no tests -/
def Two (J : It) (g : TG) (wi1 : TI) (g1 : TG) (te : TE) (vs vs1 : List Nat) (σ : L2.St) (H1 : Hp) (D : Addr) (Qd : Hp → Prop) : Prop :=
  ∃ W : Nat → Nat → Hp → Prop, (∃ m, W 0 m (upd H1 D (.lst []))) ∧ ∀ i m H, W i m H → (J.stop i H ∧ Qd H) ∨ (J.go i H ∧ ∃ Nx : Hp → Prop, (∀ H', Nx H' → ∃ m', m' < m ∧ W (i + 1) m' H') ∧ ∀ x H', J.yld i H x H' → g x (wipe σ vs) H' fun σ2 H2 => wipe σ2 vs = wipe σ vs ∧ tYes σ2 H2 fun b H3 =>
    if b = true then wi1 σ2 H3 fun J1 H4 => ∃ W1 : Nat → Nat → Hp → Prop, (∃ m, W1 0 m H4) ∧ ∀ j k H, W1 j k H → (J1.stop j H ∧ Nx H) ∨ (J1.go j H ∧ ∃ Nx1 : Hp → Prop, (∀ H', Nx1 H' → ∃ k', k' < k ∧ W1 (j + 1) k' H') ∧ ∀ x H', J1.yld j H x H' → g1 x (wipe σ2 vs1) H' fun σ3 H5 => wipe σ3 vs1 = wipe σ2 vs1 ∧ tYes σ3 H5 fun b H6 =>
      if b = true then te σ3 H6 fun y H7 => ∃ acc, H7 D = some (.lst acc) ∧ acc.length < sizeLine ∧ Nx1 (upd H7 D (.lst (acc ++ [y]))) else Nx1 H6) else Nx H3)
theorem two_for {K : PySem.W.Frag} {x p bl : Addr} {LL : List (Addr × List Str)} {ds : List Addr} {leaf : Str} {M : Mak} {G0 : Hp} {wi1 : TI} {te : TE} (f : Nat → Str → V) (hR : RowAt K G0 p LL) (hB : G0 bl = some (.lst (ds.map V.ref))) (hRows : RowsAt G0 leaf M ds)
    (hl : LL.length ≤ ds.length) (h20 : ∀ q ∈ LL, q.2.length ≤ 20) (h402 : LL.length ≤ 402)
    (hwi1 : ∀ (G : Hp) R (a da : Addr) (xs : List V), SqT K G a xs → R (Itt K a) G → wi1 [some (.ref x), some (.ref p), some (.ref bl), some (.ref a), some (.ref da), none] G R)
    (hte : ∀ i q da z (G : Hp) Q, LL[i]? = some q → z ∈ q.2 → G da = some (.dK (rowK (rowsR leaf M i))) → Q (f i z) G → te [some (.ref x), some (.ref p), some (.ref bl), some (.ref q.1), some (.ref da), some (.str z)] G Q)
    {D : Addr} (hD : G0 D = none) {Qd : Hp → Prop} (hq : ∀ G, G D = some (.lst (accF f (LL.map (·.2)) LL.length)) → Same G0 G → Qd G) :
    Two (ItzM K p bl) (gDH K) wi1 (gName 5) te [3, 4, 5] [5] [some (.ref x), some (.ref p), some (.ref bl), none, none, none] G0 D Qd := by
  have big : 100000 ≤ sizeLine := by decide
  have hd20 : ∀ i, (dg (LL.map (·.2)) i).length ≤ 20 := fun i => by
    unfold dg
    rw [List.getElem?_map]
    cases e : LL[i]? with
    | none => exact Nat.zero_le _
    | some q => exact h20 q (List.mem_of_getElem? e)
  refine lc2_it (g := gDH K) (tt := tYes) (vs := [3, 4, 5]) (walk_zipM (K := K) (a := p) (b := bl) (xs := LL.map fun q => V.ref q.1) (ys := ds.map V.ref) (n := LL.length) (by rw [List.length_map, List.length_map]; omega))
    (fun j G => G D = some (.lst (accF f (LL.map (·.2)) j)) ∧ Same G0 G) ⟨upd_same, same_new (Same.refl G0) hD⟩ (fun j G _ h => ⟨sqT_sm h.2 hR.e, .inl (.inl (h.2 _ _ hB))⟩) (fun j v G G' hj hP hy => ?_) (fun G hP => hq G hP.1 hP.2)
  obtain ⟨eD, sm⟩ := hP
  obtain ⟨t, u, y, rfl, nt, rfl, hu, hy2⟩ := hy
  have hu : (LL.map fun q => V.ref q.1)[j]? = some u := hu
  have hy2 : (ds.map V.ref)[j]? = some y := hy2
  rw [List.getElem?_map] at hu hy2
  obtain ⟨q0, hq0, rfl⟩ := Option.map_eq_some_iff.mp hu
  obtain ⟨da, hda, rfl⟩ := Option.map_eq_some_iff.mp hy2
  have ed : dg (LL.map (·.2)) j = q0.2 := by
    unfold dg
    rw [List.getElem?_map, hq0]
    rfl
  have s2 : Same G0 (upd G t (.tup [V.ref q0.1, V.ref da])) := same_new sm nt
  have eD2 : (upd G t (.tup [V.ref q0.1, V.ref da])) D = some (.lst (accF f (LL.map (·.2)) j)) := by
    rw [upd_ne (ne_of_none eD nt)]
    exact eD
  refine ⟨t, _, rfl, .inl (.inl upd_same), rfl, _, _, rfl, _, _, rfl, rfl, rfl, ?_⟩
  generalize upd G t (.tup [V.ref q0.1, V.ref da]) = G2 at s2 eD2
  have hT0 := hR.t _ (List.mem_of_getElem? hq0)
  have hl20 := h20 _ (List.mem_of_getElem? hq0)
  show wi1 _ G2 _
  refine hwi1 G2 _ q0.1 da _ (sqT_sm s2 hT0) ?_
  refine in_it (g := gName 5) (vs := [5]) (walk_tup (K := K) (a := q0.1) (xs := q0.2.map V.str)) (fun k G => G D = some (.lst (accF f (LL.map (·.2)) j ++ (q0.2.take k).map (f j))) ∧ Same G0 G)
    ⟨by rw [List.take_zero, List.map_nil, List.append_nil]; exact eD2, s2⟩ (fun k G _ h => sqT_sm h.2 hT0) (fun k v G G' hk hP hy => ?_) (fun G hP => ?_)
  · obtain ⟨eD3, s3⟩ := hP
    obtain ⟨rfl, hv⟩ := hy
    obtain ⟨z, hz, rfl⟩ := at_texts hv
    refine ⟨rfl, ?_⟩
    show te _ G' _
    refine hte j q0 da z G' _ hq0 (List.mem_of_getElem? hz) (s3 _ _ (hRows j da hda)) ?_
    refine ⟨_, eD3, ?_, ?_, fun b o e => by rw [upd_ne (ne_of_none e hD)]; exact s3 b o e⟩
    · have h1 := accF_len f (LL.map (·.2)) hd20 j
      rw [List.length_append, List.length_map, List.length_take]
      omega
    · rw [upd_same, take_snoc hz, List.map_append, List.append_assoc]
      rfl
  · obtain ⟨eD3, s3⟩ := hP
    rw [List.length_map, List.take_length] at eD3
    refine ⟨?_, s3⟩
    rw [accF_succ, ed]
    exact eD3
section
variable {P : Program} {w : World} {K : PySem.W.Frag} {mg : Str → Option Value} {base : Heap}
def spKeys (K : PySem.W.Frag) (C : Addr) : Sp := fun vs H Q _ => ∃ (x md p : Addr) (leaf : Str) (M : Mak) (ns : List Str) (LL : List (Addr × List Str)), vs = [V.ref x, V.ref p] ∧ KindsAt C H x md leaf M ns ∧ Vld leaf M ∧ RowAt K H p LL ∧ looseB (LL.map (·.2)) = true ∧ Exist leaf M (LL.map (·.2)) ∧
  ∀ H', Same H H' → Q (.int ((keysL leaf M (LL.map (·.2)) LL.length).sum : Nat)) H'
abbrev NKY : List Str := ["kinds", "row", "sizes", "digit", "here", "name"]
theorem ok_keys {C f : Addr} {fd : FuncData} (F : Fun K "keys_of" "keys_of" s_keys_of f fd) (T : Top K mg) (TC : Cl_Kinds K mg C) : FnOk P w K mg base CX0 8 f fd ["kinds", "row"] (spKeys K C) := by
  have cc : Cal P w K mg base 7 "_check_loose" ["row"] (spChkL K) := T.d_check_loose.cal fun f fd F => ok_chkL F T
  have ck : Cal P w K mg base 7 "_check_kinds" ["kinds"] (spChkK C) := (T.d_check_kinds.cal fun f fd F => ok_chkK F T TC).mono (by decide)
  have cs : Cal P w K mg base 7 "sums_by_rank" ["leaf", "parts_of", "ranks"] (spSumsBy K) := (T.d_sums_by_rank.cal fun f fd F => ok_sumsBy F T).mono (by decide)
  have kMak : CalP P w K mg base C "makings" 6 (spKMak C) := (TC.p_makings.cal fun f fd F => ok_kmak F T TC).mono (by decide)
  have kLeaf : CalP P w K mg base C "leaf" 6 (spKLeaf C) := (TC.p_leaf.cal fun f fd F => ok_kleaf F TC).mono (by decide)
  refine F.ok sc_keys_of (fun vs H Q E h => ?_) (fun cdv A outer s H vs Q E hr h => ?_)
  · obtain ⟨x, md, p, leaf, M, ns, LL, rfl, _⟩ := h
    rfl
  · obtain ⟨x, md, p, leaf, M, ns, LL, rfl, hK, hV, hR, hL, hE, q⟩ := h
    have hu := hu_of hr
    refine ⟨_, pss_cons (ps_expr (pe_cal ck hr (by rfl) (pa_cons (pv 0) pa_nil)))
      (pss_cons (ps_expr (pe_cal cc hr (by rfl) (pa_cons (pv 1) pa_nil)))
      (pss_cut (ps_set (i := 2) sc_keys_of.nd rfl (.inl rfl) (pe_cal cs hr (by rfl) (pa_cons (pe_propC (pv 0) TC.cl kLeaf hr rfl) (pa_cons (pe_propC (pv 0) TC.cl kMak hr rfl) (pa_cons (pe_callB call_len_seq (by rfl) T.b_len PySem.boot_len (pa_cons (pv 1) pa_nil)) pa_nil)))))
      (pss_cut (ps_if (pt_not (pt_val (pe_callB (cr_all rfl) (by rfl) T.b_all (by decide +kernel) (pa_cons (pe_lc2 (own := [("digit", 3), ("here", 4), ("name", 5)]) (vs1 := [5]) (g := gTup K 2 (gCons (gName 3) (gCons (gName 4) gNil))) (g1 := gName 5) (tt := tYes) (tt1 := tYes) rfl sc_keys_of.nd
          (pi_zipM (by rfl) T.b_zip (pa_cons (pv 1) (pa_cons (pv 2) pa_nil)))
          (blkOk_by (N := NKY) (sc := defScope s_keys_of) (by decide +kernel)) (by decide)
          (fun _ _ _ _ _ => pg_tup rfl (pgs_cons (pg_name (i := 3) sc_keys_of.nd rfl (.inl rfl)) (pgs_cons (pg_name (i := 4) sc_keys_of.nd rfl (.inl rfl)) pgs_nil)))
          (fun _ _ _ _ _ => pts_nil) (fun _ _ _ _ _ => pi_tupK (K := K) (by exact rfl) (pv 3)) (fun _ _ _ _ _ => pg_name (i := 5) sc_keys_of.nd rfl (.inl rfl)) (fun _ _ _ _ _ => pts_nil)
          (fun _ _ _ _ _ => pe_cmp (pc_din hu (pv 5) (pv 4)))) pa_nil)))) (pss_one ps_never) pss_nil)
      (pss_one (ps_ret (pe_callB (cr_sum rfl) (by rfl) T.b_sum (by decide +kernel) (pa_cons (pe_lc2 (own := [("digit", 3), ("here", 4), ("name", 5)]) (vs1 := [5]) (g := gTup K 2 (gCons (gName 3) (gCons (gName 4) gNil))) (g1 := gName 5) (tt := tYes) (tt1 := tYes) rfl sc_keys_of.nd
          (pi_zipM (by rfl) T.b_zip (pa_cons (pv 1) (pa_cons (pv 2) pa_nil)))
          (blkOk_by (N := NKY) (sc := defScope s_keys_of) (by decide +kernel)) (by decide)
          (fun _ _ _ _ _ => pg_tup rfl (pgs_cons (pg_name (i := 3) sc_keys_of.nd rfl (.inl rfl)) (pgs_cons (pg_name (i := 4) sc_keys_of.nd rfl (.inl rfl)) pgs_nil)))
          (fun _ _ _ _ _ => pts_nil) (fun _ _ _ _ _ => pi_tupK (K := K) (by exact rfl) (pv 3)) (fun _ _ _ _ _ => pg_name (i := 5) sc_keys_of.nd rfl (.inl rfl)) (fun _ _ _ _ _ => pts_nil)
          (fun _ _ _ _ _ => pe_dget hu (pv 4) (pv 5) (fun _ _ => rfl))) pa_nil))))))), ?_⟩
    obtain ⟨m1, g1, _⟩ := loose_facts hL
    rw [List.length_map] at m1
    have hV3 : ∀ m ∈ M, m.2.length ≤ 3 := fun m hm => (hV.parts m hm).2.2.1
    have g2 : ∀ q ∈ LL, q.2.length ≤ 20 ∧ ∀ z ∈ q.2, z.length ≤ 8 := fun q hq => by
      have h := g1 q.2 (List.mem_map.mpr ⟨q, hq, rfl⟩)
      unfold goodB at h
      rw [Bool.and_eq_true, Bool.and_eq_true] at h
      exact ⟨of_decide_eq_true h.1, fun z hz => name_len (List.all_eq_true.mp h.2.1 z hz)⟩
    have hF : Few (LL.map (·.2)) := by
      refine ⟨by rw [List.length_map]; omega, fun q hq => ?_⟩
      obtain ⟨q0, hq0, rfl⟩ := List.mem_map.mp hq
      obtain ⟨h1, h2⟩ := g2 q0 hq0
      exact ⟨by omega, fun z hz => Nat.le_trans (h2 z hz) (by decide)⟩
    have hin : ∀ {i : Nat} {q0 : Addr × List Str} {z : Str}, LL[i]? = some q0 → z ∈ q0.2 → z ∈ keysR (rowsR leaf M i) := fun {i q0 z} hi hz => by
      refine hE i z ?_
      unfold dg
      rw [List.getElem?_map, hi]
      exact hz
    obtain ⟨dx, nt, kvs0, hx, hmd0, hM0, _⟩ := id hK
    refine ⟨_, rfl, x, md, leaf, M, ns, rfl, hK, ⟨_, rfl, p, LL, rfl, hR, hF, hL, fun H1 s1 => ?_⟩⟩
    have hK1 := hK.same s1
    have hR1 := hR.same s1
    refine ⟨fun σ' G => ∃ (bl : Addr) (ds : List Addr), σ' = [some (.ref x), some (.ref p), some (.ref bl), none, none, none] ∧ G bl = some (.lst (ds.map V.ref)) ∧ LL.length ≤ ds.length ∧ RowsAt G leaf M ds ∧ Same H G, ?_, ?_⟩
    · refine ⟨_, rfl, x, dx, _, rfl, s1 _ _ hx, x, md, leaf, M, ns, rfl, hK1, ?_⟩
      refine ⟨_, rfl, x, dx, _, rfl, s1 _ _ hx, x, md, leaf, M, ns, rfl, hK1, fun pm kvs npm hMp => ?_⟩
      have s2 := same_new (o := .dK kvs) (Same.refl H1) npm
      refine ⟨_, rfl, p, _, rfl, .inr (hR1.same s2).e, ?_⟩
      rw [List.length_map]
      refine ⟨leaf, pm, LL.length, kvs, M, rfl, by omega, upd_same, (hMp.same fun _ _ h => h.mono s2).parts, hV.len, hV.nd, hV3, fun bl ds G s3 nbl ebl ll hRw => ?_⟩
      exact ⟨bl, ds, rfl, ebl, by omega, hRw, fun b o e => s3 _ _ (s2 _ _ (s1 _ _ e))⟩
    rintro σ' G ⟨bl, ds, rfl, ebl, ll, hRw, s2⟩
    have hR2 := hR.same s2
    refine ⟨fun σ' G' => σ' = [some (.ref x), some (.ref p), some (.ref bl), none, none, none] ∧ Same G G', ?_, ?_⟩
    · refine ⟨_, rfl, _, rfl, p, bl, _, _, rfl, hR2.e, .inl (.inl ebl), fun D hD => ?_⟩
      refine two_for (wi1 := iTup K (tVar 3)) (te := tDIn (tVar 5) (tVar 4)) (fun _ _ => V.bl true) hR2 ebl hRw ll (fun q hq => (g2 q hq).1) m1 (fun G' R a da xs ha h => ⟨_, rfl, a, rfl, ⟨_, ha⟩, h⟩) (fun i q da z G' Q hi hz hda h => ?_) hD (fun G' eD s3 => ?_)
      · refine ⟨_, rfl, _, rfl, da, _, rfl, .inl ⟨_, Sum.inr z, .inl hda, rfl, rfl⟩, ?_⟩
        rw [rowK_some, decide_eq_true (hin hi hz)]
        exact h
      · obtain ⟨n, en⟩ := accF_true (LL.map (·.2)) LL.length
        rw [en] at eD
        refine ⟨D, _, rfl, .inl (.inl eD), _, rfl, ?_⟩
        rw [all_true]
        show (if (!true) = true then _ else _)
        rw [if_neg (by decide)]
        exact ⟨rfl, s3⟩
    rintro σ' G' ⟨rfl, s3⟩
    have hR3 := hR2.same s3
    refine ⟨_, rfl, _, rfl, p, bl, _, _, rfl, hR3.e, .inl (.inl (s3 _ _ ebl)), fun D hD => ?_⟩
    refine two_for (wi1 := iTup K (tVar 3)) (te := tDGet (tVar 4) (tVar 5)) (fun i z => V.int (getR (rowsR leaf M i) z : Nat)) hR3 (s3 _ _ ebl) (hRw.same s3) ll (fun q hq => (g2 q hq).1) m1 (fun G' R a da xs ha h => ⟨_, rfl, a, rfl, ⟨_, ha⟩, h⟩) (fun i q da z G' Q hi hz hda h => ?_) hD (fun G' eD s4 => ?_)
    · exact ⟨_, rfl, _, rfl, da, _, rfl, .inl ⟨_, Sum.inr z, .inl hda, rfl, (rowK_get (hin hi hz)).symm⟩, h⟩
    · rw [accF_keys] at eD
      have e5 : G' D = some (.lst (((keysL leaf M (LL.map (·.2)) LL.length).map fun n => ((n : Nat) : Int)).map V.int)) := by
        rw [eD, List.map_map]
        rfl
      refine ⟨D, _, rfl, .inl (.inl e5), ?_⟩
      rw [cast_sumN]
      exact q G' fun b o e => s4 _ _ (s3 _ _ (s2 _ _ e))
end
end Kl

set_option maxRecDepth 100000
set_option maxHeartbeats 4000000
namespace Kl
open PySem PySem.Spec PyProof.Rows L2 Gx Mx
theorem loose_few {qs : List (List Str)} (h : looseB qs = true) : Few qs ∧ ∀ q ∈ qs, q.length ≤ 20 := by
  obtain ⟨m1, g1, _⟩ := loose_facts h
  have g2 : ∀ q ∈ qs, q.length ≤ 20 ∧ ∀ z ∈ q, z.length ≤ 8 := fun q hq => by
    have h := g1 q hq
    unfold goodB at h
    rw [Bool.and_eq_true, Bool.and_eq_true] at h
    exact ⟨of_decide_eq_true h.1, fun z hz => name_len (List.all_eq_true.mp h.2.1 z hz)⟩
  refine ⟨⟨by omega, fun q hq => ?_⟩, fun q hq => (g2 q hq).1⟩
  obtain ⟨h1, h2⟩ := g2 q hq
  exact ⟨by omega, fun z hz => Nat.le_trans (h2 z hz) (by decide)⟩
end Kl

set_option maxRecDepth 100000
set_option maxHeartbeats 4000000
namespace Kl
open PySem PySem.Spec PyProof.Rows L2 Gx Mx
/-! ### data that are small -/
theorem ok_app (a b : Str) : PyData.strOk (a ++ b) = (PyData.strOk a && PyData.strOk b) := by
  show (a.cps ++ b.cps).all _ = (a.cps.all _ && b.cps.all _)
  rw [Array.all_append]
structure Sm (B k : Nat) (d : PyData) : Prop where
  lay : d.canLay0 = true
  dp : d.depth ≤ k
  wt : d.weight ≤ B
  sh : d.showable = true
  is : d.intsShort 13 = true
theorem Sm.str {B k : Nat} {s : Str} (h : PyData.strOk s = true) (hl : s.length ≤ B) : Sm B k (.str s) := ⟨h, Nat.zero_le _, hl, rfl, rfl⟩
theorem Sm.up {B B' k k' : Nat} {d : PyData} (h : Sm B k d) (hB : B ≤ B') (hk : k ≤ k') : Sm B' k' d := ⟨h.lay, Nat.le_trans h.dp hk, Nat.le_trans h.wt hB, h.sh, h.is⟩
theorem Sm.all {B k : Nat} : ∀ {ds : List PyData}, (∀ d ∈ ds, Sm B k d) → PyData.canLayAll0 ds = true ∧ PyData.depthAll ds ≤ k ∧ PyData.weightAll ds ≤ ds.length * (B + 1) ∧ PyData.showableAll ds = true ∧ PyData.intsShortAll 13 ds = true
  | [], _ => ⟨rfl, Nat.zero_le _, Nat.zero_le _, rfl, rfl⟩
  | d :: ds, h => by
    obtain ⟨h1, h2, h3, h4, h5⟩ := h d List.mem_cons_self
    obtain ⟨i1, i2, i3, i4, i5⟩ := Sm.all (ds := ds) fun x hx => h x (List.mem_cons_of_mem _ hx)
    refine ⟨?_, ?_, ?_, ?_, ?_⟩
    · rw [PyData.canLayAll0, h1, i1]; rfl
    · rw [PyData.depthAll]; exact Nat.max_le.mpr ⟨h2, i2⟩
    · rw [PyData.weightAll, List.length_cons, Nat.succ_mul]
      omega
    · rw [PyData.showableAll, h4, i4]; rfl
    · rw [PyData.intsShortAll, h5, i5]; rfl
theorem Sm.tup {B k n B' k' : Nat} {ds : List PyData} (h : ∀ d ∈ ds, Sm B k d) (hn : ds.length ≤ n) (hB : n * (B + 1) ≤ B') (hk : k + 1 ≤ k') : Sm B' k' (.tuple ds) := by
  obtain ⟨i1, i2, i3, i4, i5⟩ := Sm.all h
  have hm : ds.length * (B + 1) ≤ n * (B + 1) := Nat.mul_le_mul_right _ hn
  exact ⟨i1, by rw [PyData.depth]; omega, by rw [PyData.weight]; omega, i4, i5⟩
theorem Sm.lst {B k n B' k' : Nat} {ds : List PyData} (h : ∀ d ∈ ds, Sm B k d) (hn : ds.length ≤ n) (hB : n * (B + 1) ≤ B') (hk : k + 1 ≤ k') : Sm B' k' (.list ds) := by
  obtain ⟨i1, i2, i3, i4, i5⟩ := Sm.all h
  have hm : ds.length * (B + 1) ≤ n * (B + 1) := Nat.mul_le_mul_right _ hn
  exact ⟨i1, by rw [PyData.depth]; omega, by rw [PyData.weight]; omega, i4, i5⟩
theorem Sm.int {B k n : Nat} (h : n ≤ 6) (hB : 3 ≤ B) : Sm B k (.int (n : Int)) := by
  have e : (List.range 7).all (fun n => decide (PyData.weight (.int (n : Int)) ≤ 3) && PyData.showable (.int (n : Int)) && PyData.intsShort 13 (.int (n : Int))) = true := by decide +kernel
  have e2 := List.all_eq_true.mp e n (List.mem_range.mpr (by omega))
  rw [Bool.and_eq_true, Bool.and_eq_true] at e2
  exact ⟨rfl, Nat.zero_le _, Nat.le_trans (of_decide_eq_true e2.1.1) hB, e2.1.2, e2.2⟩
/-- what repr asks of data -/
theorem Sm.repr {B k : Nat} {d : PyData} (h : Sm B k d) (hB : B ≤ 1000000) (hk : k ≤ 60) : d.showable = true ∧ d.hasDict = false ∧ d.depth ≤ 60 ∧ d.shown.length ≤ sizeLine := by
  have hl : PyData.layable0 d = true := by
    show (PyData.canLay0 d && decide (PyData.depth d ≤ 64) && decide (PyData.weight d ≤ 2 ^ 20)) = true
    rw [h.lay, decide_eq_true (show d.depth ≤ 64 from Nat.le_trans h.dp (by omega)), decide_eq_true (show d.weight ≤ 2 ^ 20 from Nat.le_trans h.wt (Nat.le_trans hB (by decide)))]
    rfl
  refine ⟨h.sh, PyData.hasDict_of_layable hl, Nat.le_trans h.dp hk, Nat.le_trans (shown_le13 hl h.is) (by decide)⟩
/-- texts -/
theorem sm_texts {B n : Nat} {zs : List Str} (h : ∀ z ∈ zs, PyData.strOk z = true ∧ z.length ≤ B) (hn : zs.length ≤ n) : Sm (n * (B + 1)) 1 (.tuple (tD zs)) := by
  refine Sm.tup (k := 0) (n := n) (fun d hd => ?_) (by unfold tD; rw [List.length_map]; exact hn) (Nat.le_refl _) (Nat.le_refl _)
  obtain ⟨z, hz, rfl⟩ := List.mem_map.mp hd
  exact Sm.str (h z hz).1 (h z hz).2
theorem sm_row {qs : List (List Str)} (h : looseB qs = true) : Sm 72762 2 (rD qs) := by
  obtain ⟨m1, g1, _⟩ := loose_facts h
  refine Sm.tup (B := 180) (k := 1) (n := 402) (fun d hd => ?_) (by rw [List.length_map]; exact m1) (by decide) (by decide)
  obtain ⟨q, hq, rfl⟩ := List.mem_map.mp hd
  have hg := g1 q hq
  have ho := good_ok hg
  unfold goodB at hg
  rw [Bool.and_eq_true, Bool.and_eq_true] at hg
  exact sm_texts (B := 8) (n := 20) (fun z hz => ⟨ho z hz, name_len (List.all_eq_true.mp hg.2.1 z hz)⟩) (of_decide_eq_true hg.1)
/-! ### sums of rows: the mathematics -/
theorem dg_none {qs : List (List Str)} {i : Nat} (h : qs.length ≤ i) : dg qs i = [] := by
  unfold dg
  rw [List.getElem?_eq_none h]
  rfl
theorem loose_srt {qs : List (List Str)} (h : looseB qs = true) (i : Nat) : sortedS (dg qs i) = true := by
  obtain ⟨_, g1, _⟩ := loose_facts h
  unfold dg
  cases e : qs[i]? with
  | none => rfl
  | some q =>
    have hg := g1 q (List.mem_of_getElem? e)
    unfold goodB at hg
    rw [Bool.and_eq_true, Bool.and_eq_true] at hg
    exact hg.2.2
end Kl

set_option maxRecDepth 100000
set_option maxHeartbeats 4000000
namespace Kl
open PySem PySem.Spec PyProof.Rows L2 Gx Mx
theorem RowAt.sx {K : PySem.W.Frag} {G G' : Hp} {d p : Addr} {LL : List (Addr × List Str)} (h : RowAt K G p LL) (hd : DiceAt G d) (s : SameX d G G') : RowAt K G' p LL := ⟨sqT_sx hd s h.e, fun q hq => sqT_sx hd s (h.t q hq)⟩
theorem RowAt.lst {K : PySem.W.Frag} {G : Hp} {D p : Addr} {LL : List (Addr × List Str)} {xs : List V} {o : HO} (h : RowAt K G p LL) (e : G D = some (.lst xs)) : RowAt K (upd G D o) p LL := ⟨sqT_lst e h.e, fun q hq => sqT_lst e (h.t q hq)⟩
theorem dice_sm {H H' : Hp} {d : Addr} (s : Same H H') (q : DiceAt H d) : DiceAt H' d := by
  obtain ⟨x, b, c, h⟩ := q
  exact ⟨x, b, c, s _ _ h⟩
theorem loose_shaped {qs : List (List Str)} (h : looseB qs = true) : SeqAt.shaped (rD qs) = true := row_shaped fun q hq => good_ok ((loose_facts h).2.1 q hq)
theorem loose_nil : looseB [] = true := by decide +kernel
section
variable {P : Program} {w : World} {K : PySem.W.Frag} {mg : Str → Option Value} {base : Heap}
/-! ### _law_names_right -/
end
end Kl

set_option maxRecDepth 100000
set_option maxHeartbeats 4000000
namespace Kl
open PySem PySem.Spec PyProof.Rows L2 Gx Mx
theorem KindsAt.dice {G G' : Hp} {C x md d : Addr} {leaf : Str} {M : Mak} {ns : List Str} (k : KindsAt C G x md leaf M ns) (hd : DiceAt G d) (s : SameX d G G') : KindsAt C G' x md leaf M ns := by
  obtain ⟨a, b, c', e⟩ := id hd
  have nt : ∀ xs, G d ≠ some (.tup xs) := fun xs z => by
    rw [e] at z
    cases z
  have nz : ∀ xs, ¬ TupZ G d xs := fun xs z => by
    obtain ⟨ob, _, q⟩ := z
    rw [e] at q
    cases q
  obtain ⟨_, _, _, h1, h2, _⟩ := id k
  exact k.keep s (fun z => by rw [z, e] at h1; cases h1) (fun z => by rw [z, e] at h2; cases h2) nt nz
section
variable {P : Program} {w : World} {K : PySem.W.Frag} {mg : Str → Option Value} {base : Heap}
/-! ### _law_keys_right -/
end
end Kl

set_option maxRecDepth 100000
set_option maxHeartbeats 4000000
namespace Gx
open PySem PySem.Spec PyProof.Rows L2
/-- two promises of one def -/
theorem FnOk.or {P : Program} {w : World} {K : PySem.W.Frag} {mg : Str → Option Value} {base : Heap} {CX : CXT} {k : Nat} {f : Addr} {fd : FuncData} {ps : List Str} {sp sp' : Sp} (F : FnOk P w K mg base CX k f fd ps sp) (F' : FnOk P w K mg base CX k f fd ps sp') :
    FnOk P w K mg base CX k f fd ps (fun vs H Q E => sp vs H Q E ∨ sp' vs H Q E) := by
  refine ⟨fun vs H Q E h => ?_, fun A outer s H args us vs Q E hr he hb hv hs => ?_⟩
  · rcases h with h | h
    · exact F.len _ _ _ _ h
    · exact F'.len _ _ _ _ h
  · rcases hs with h | h
    · exact F.run A outer s H args us vs Q E hr he hb hv h
    · exact F'.run A outer s H args us vs Q E hr he hb hv h
end Gx
namespace Kl
open PySem PySem.Spec PyProof.Rows L2 Gx Mx
/-! ### judges of any value -/
def textOf : V → Str
  | .str z => z
  | _ => ""
/-- what is_sorted says of the values of a tuple -/
def sortB (xs : List V) : Bool := xs.all nameV && sortedS (xs.map textOf)
/-- a value, and what is_sorted answers with the limit M -/
def SortArg (K : PySem.W.Frag) (H : Hp) (v : V) (M : Int) (b : Bool) : Prop :=
  (Not K H v "tuple" ∧ b = false) ∨ ∃ (p : Addr) (xs : List V), v = .ref p ∧ SqT K H p xs ∧ xs.length ≤ 1000 ∧ (∀ x ∈ xs, NameArg K H x) ∧ b = (decide ((xs.length : Int) ≤ M) && sortB xs)
theorem SortArg.same {K : PySem.W.Frag} {H H' : Hp} {v : V} {M : Int} {b : Bool} (s : Same H H') (h : SortArg K H v M b) : SortArg K H' v M b := by
  rcases h with ⟨h, e⟩ | ⟨p, xs, e, hp, hl, hx, eb⟩
  · exact .inl ⟨h.same s, e⟩
  · exact .inr ⟨p, xs, e, sqT_sm s hp, hl, fun x hx' => (hx x hx').same s, eb⟩
theorem names_texts : ∀ xs : List V, xs.all nameV = true → xs = (xs.map textOf).map V.str
  | [], _ => rfl
  | x :: xs, h => by
    rw [List.all_cons, Bool.and_eq_true] at h
    rw [List.map_cons, List.map_cons, ← names_texts xs h.2]
    cases x with
    | str z => rfl
    | _ => cases h.1
theorem names_ok : ∀ xs : List V, xs.all nameV = true → ∀ z ∈ xs.map textOf, PyData.strOk z = true
  | [], _, z, hz => by cases hz
  | x :: xs, h, z, hz => by
    rw [List.all_cons, Bool.and_eq_true] at h
    rcases List.mem_cons.mp (show z ∈ textOf x :: xs.map textOf from hz) with rfl | hz
    · cases x with
      | str y => exact names_low h.1
      | _ => cases h.1
    · exact names_ok xs h.2 z hz
section
variable {P : Program} {w : World} {K : PySem.W.Frag} {mg : Str → Option Value} {base : Heap}
def spSortA (K : PySem.W.Frag) : Sp := fun vs H Q _ => ∃ (v : V) (M : Int) (b : Bool), vs = [v, .int M] ∧ 0 ≤ M ∧ M ≤ 100 ∧ SortArg K H v M b ∧ ∀ H', Same H H' → Q (.bl b) H'
theorem ok_sortA {f : Addr} {fd : FuncData} (F : Fun K "is_sorted" "is_sorted" s_is_sorted f fd) (T : Top K mg) : FnOk P w K mg base CX0 3 f fd ["value", "most"] (spSortA K) := by
  have cc : Cal P w K mg base 2 "is_count" ["value"] (spCnt K) := T.d_is_count.cal fun f fd F => ok_cnt F T
  have cn : Cal P w K mg base 2 "is_name" ["value"] (spName K) := (T.d_is_name.cal fun f fd F => ok_name F T).mono (by decide)
  refine F.ok sc_is_sorted (fun vs H Q E h => ?_) (fun cdv A outer s H vs Q E hr h => ?_)
  · obtain ⟨v, M, b, rfl, _⟩ := h
    rfl
  · obtain ⟨v, M, b, rfl, hM, hM2, hs, hq⟩ := h
    refine ⟨_, pss_cons (ps_if (pt_not (pt_val (pe_cal cc hr (by rfl) (pa_cons (pv 1) pa_nil)))) (pss_one ps_never) pss_nil)
      (pss_cons (ps_if (PW.pt (pw_or (pt_not (pt_val (pe_callB call_isi (by rfl) T.b_isinstance (by decide +kernel) (pa_cons (pv 0) (pa_cons (pe_bltn (v := .ty "tuple") (by rfl) T.b_tuple (by decide +kernel) rfl) pa_nil)))))
          (pw_or1 (pt_cmpR op_gt (pe_callB call_len_seq (by rfl) T.b_len PySem.boot_len (pa_cons (pv 0) pa_nil)) (pv 1) (nomark _))))) (pss_one (ps_ret pe_bl)) pss_nil)
      (pss_cons (ps_if (pt_not (pt_val (pe_callB (cr_all rfl) (by rfl) T.b_all (by decide +kernel) (pa_cons (pe_lc (own := [("name", 2)]) (g := gName 2) (tt := tYes) rfl sc_is_sorted.nd (pi_tup (pv 0))
            (blkOk_by (N := ["value", "most", "name"]) (sc := defScope s_is_sorted) (by decide +kernel))
            (fun _ _ _ _ _ => pg_name (i := 2) sc_is_sorted.nd rfl (.inl rfl)) (fun _ _ _ _ _ => pts_nil) (fun _ _ _ _ _ => pe_cal cn hr (by rfl) (pa_cons (pv 2) pa_nil))) pa_nil)))) (pss_one (ps_ret pe_bl)) pss_nil)
      (pss_one (ps_ret (pe_cmpR (op_eqD hr.units) (pe_callTy call_list_of (by rfl) T.b_list (by decide +kernel) (pa_cons (pv 0) pa_nil)) (pe_callB cr_sortedTS (by rfl) T.b_sorted (by decide +kernel) (pa_cons (pv 0) pa_nil)) (nomark _)))))), ?_⟩
    have hc : cntV (.int M) = true := by
      show ((decide (-TEN60 < M) && decide (M < TEN60)) && decide (0 ≤ M)) = true
      rw [decide_eq_true (show -TEN60 < M by unfold TEN60; omega), decide_eq_true (show M < TEN60 by unfold TEN60; omega), decide_eq_true hM]
      rfl
    refine ⟨_, rfl, .int M, rfl, .inl ⟨M, rfl⟩, _, rfl, ?_⟩
    rw [hc]
    rcases hs with ⟨⟨t, ht, hk⟩, rfl⟩ | ⟨p, xs, rfl, hp, hlen, hx, rfl⟩
    · refine ⟨_, rfl, _, .ty "tuple", t, .type "tuple", false, rfl, .ty _, ht, hk, false, rfl, ?_⟩
      exact hq H (Same.refl H)
    refine ⟨_, rfl, _, .ty "tuple", .type "tuple", .type "tuple", true, rfl, .ty _, tyx_sqT hp, kit_ty (by decide +kernel), true, rfl, ?_⟩
    refine ⟨_, rfl, p, xs, rfl, .inr hp, _, rfl, _, _, rfl, rfl, _, rfl, ite2 (fun e => ?_) (fun e => ?_)⟩
    · have e1 : decide ((xs.length : Int) ≤ M) = false := decide_eq_false (by
        have := of_decide_eq_true e
        omega)
      rw [e1, Bool.false_and] at hq
      exact hq H (Same.refl H)
    have e1 : decide ((xs.length : Int) ≤ M) = true := decide_eq_true (by
      have : ¬ (M < (xs.length : Int)) := fun z => e (decide_eq_true z)
      omega)
    rw [e1, Bool.true_and] at hq
    have big : 100000 ≤ sizeLine := by decide
    refine ⟨_, rfl, p, rfl, ⟨_, hp⟩, fun D hD => ?_⟩
    refine lc_it (g := gName 2) (tt := tYes) (vs := [2]) (walk_tup (K := K) (a := p) (xs := xs)) (fun j G => G D = some (.lst ((xs.take j).map fun x => V.bl (nameV x))) ∧ Same H G)
      ⟨upd_same, same_new (Same.refl H) hD⟩ (fun j G _ h => sqT_sm h.2 hp) (fun j u Gx G hj h hy => ?_) (fun G h => ?_)
    · obtain ⟨eD, sm⟩ := h
      obtain ⟨rfl, hu⟩ := hy
      refine ⟨rfl, _, rfl, u, rfl, (hx u (List.mem_of_getElem? hu)).same sm, _, eD, ?_, ?_, fun b o e => by rw [upd_ne (ne_of_none e hD)]; exact sm b o e⟩
      · rw [List.length_map, List.length_take]
        omega
      · rw [upd_same, take_snoc hu, List.map_append]
        rfl
    · obtain ⟨eD, sm⟩ := h
      rw [List.take_length] at eD
      refine ⟨D, xs.map nameV, rfl, .inl (.inl (by rw [eD, List.map_map]; rfl)), _, rfl, ?_⟩
      have ea : (xs.map nameV).all id = xs.all nameV := by rw [List.all_map]; rfl
      rw [ea]
      cases hall : xs.all nameV with
      | false =>
        unfold sortB at hq
        rw [hall, Bool.false_and] at hq
        exact hq _ sm
      | true =>
        unfold sortB at hq
        rw [hall, Bool.true_and] at hq
        have hxt := names_texts xs hall
        have hok := names_ok xs hall
        generalize xs.map textOf = zs at hq hxt hok
        subst hxt
        refine ⟨_, rfl, p, _, rfl, .inr (sqT_sm sm hp), fun l nl => ?_⟩
        have sm2 := same_new (o := .lst (zs.map V.str)) sm nl
        refine ⟨_, rfl, p, zs, rfl, sqT_sm sm2 hp, by rw [List.length_map] at hlen; omega, fun ys l2 hperm hsrt nl2 => ?_⟩
        refine ⟨.list (tD zs), .list (tD ys), ?_, ?_, shaped_texts hok, shaped_texts (fun z hz => hok z (hperm.mem_iff.mp hz)), ?_⟩
        · exact .lst (.inl (.inl (by rw [upd_ne (ne_of_none upd_same nl2), upd_same]))) (dp_texts zs)
        · exact .lst (.inl (.inl upd_same)) (dp_texts ys)
        · rw [PyData.eqv, eqv_texts, eq_sorted_iff hperm hsrt]
          exact hq _ (same_new sm2 nl2)
/-- a digit of texts -/
theorem sortArg_texts {H : Hp} {a : Addr} {zs : List Str} {n : Nat} (h : SqT K H a (zs.map V.str)) (hl : zs.length ≤ 1000) (hz : ∀ z ∈ zs, z.length ≤ 1000) : SortArg K H (.ref a) (n : Int) (decide (zs.length ≤ n) && (zs.all nameB && sortedS zs)) := by
  refine .inr ⟨a, _, rfl, h, by rw [List.length_map]; exact hl, fun x hx => ?_, ?_⟩
  · obtain ⟨z, hz', rfl⟩ := List.mem_map.mp hx
    exact .inl ⟨z, rfl, Nat.le_trans (hz z hz') (by decide)⟩
  · unfold sortB
    rw [List.length_map, List.all_map, List.map_map]
    have e1 : (nameV ∘ V.str) = nameB := rfl
    have e2 : zs.map (textOf ∘ V.str) = zs := List.map_id' zs
    rw [e1, e2, show decide (((zs.length : Nat) : Int) ≤ (n : Int)) = decide (zs.length ≤ n) by rw [decide_eq_decide]; omega]
/-! ### values that are no rows -/
/-- a tuple, and what is_sorted says of each of its items -/
structure Digs (K : PySem.W.Frag) (H : Hp) (p : Addr) (xs : List V) (bs : List Bool) : Prop where
  e : SqT K H p xs
  few : xs.length ≤ 1000
  len : bs.length = xs.length
  at_ : ∀ (i : Nat) (x : V) (c : Bool), xs[i]? = some x → bs[i]? = some c → SortArg K H x 20 c
theorem Digs.same {H H' : Hp} {p : Addr} {xs : List V} {bs : List Bool} (h : Digs K H p xs bs) (s : Same H H') : Digs K H' p xs bs := ⟨sqT_sm s h.e, h.few, h.len, fun i x c e1 e2 => (h.at_ i x c e1 e2).same s⟩
def BadV (K : PySem.W.Frag) (H : Hp) (v : V) : Prop := Not K H v "tuple" ∨ ∃ (p : Addr) (xs : List V) (bs : List Bool), v = .ref p ∧ Digs K H p xs bs ∧ bs.all id = false
theorem BadV.same {H H' : Hp} {v : V} (h : BadV K H v) (s : Same H H') : BadV K H' v := by
  rcases h with h | ⟨p, xs, bs, e, hd, hb⟩
  · exact .inl (h.same s)
  · exact .inr ⟨p, xs, bs, e, hd.same s, hb⟩
def spBad (K : PySem.W.Frag) : Sp := fun vs H Q _ => ∃ v : V, vs = [v] ∧ BadV K H v ∧ ∀ H', Same H H' → Q (.bl false) H'
theorem ok_digB {f : Addr} {fd : FuncData} (F : Fun K "are_digits" "are_digits" s_are_digits f fd) (T : Top K mg) : FnOk P w K mg base CX0 4 f fd ["value"] (spBad K) := by
  obtain ⟨tm, gm⟩ := T.g_LOOSE_DIGIT
  have cs : CalO P w K mg base 3 "is_sorted" ["value", "most"] 1 ["most"] (fun vs zs => vs ++ zs) (spSortA K) := T.d_is_sorted.calO fun f fd F => ok_sortA F T
  refine F.ok sc_are_digits (fun vs H Q E h => ?_) (fun cdv A outer s H vs Q E hr h => ?_)
  · obtain ⟨v, rfl, _⟩ := h
    rfl
  · obtain ⟨v, rfl, hv, q⟩ := h
    refine ⟨_, pss_one (ps_ret (pe_and (pe_callB call_isi (by rfl) T.b_isinstance (by decide +kernel) (pa_cons (pv 0) (pa_cons (pe_bltn (v := .ty "tuple") (by rfl) T.b_tuple (by decide +kernel) rfl) pa_nil)))
      (pe_one (pe_callB (cr_all rfl) (by rfl) T.b_all (by decide +kernel) (pa_cons (pe_lc (own := [("digit", 1)]) (g := gName 1) (tt := tYes) rfl sc_are_digits.nd (pi_tup (pv 0))
        (blkOk_by (N := NDG) (sc := defScope s_are_digits) (by decide +kernel)) (fun _ _ _ _ _ => pg_name (i := 1) sc_are_digits.nd rfl (.inl rfl)) (fun _ _ _ _ _ => pts_nil)
        (fun _ _ _ _ _ => pe_calO cs hr (by rfl) (pa_cons (pv 1) pa_nil) (pk_cons (pe_glob (v := .int 20) (by rfl) gm ⟨_, rfl⟩) pk_nil))) pa_nil))))), ?_⟩
    have big : 100000 ≤ sizeLine := by decide
    rcases hv with ⟨t, ht, hk⟩ | ⟨p, xs, bs, rfl, hd, hb⟩
    · refine ⟨_, rfl, _, .ty "tuple", t, .type "tuple", false, rfl, .ty _, ht, hk, false, rfl, ?_⟩
      exact q H (Same.refl H)
    refine ⟨_, rfl, _, .ty "tuple", .type "tuple", .type "tuple", true, rfl, .ty _, tyx_sqT hd.e, kit_ty (by decide +kernel), true, rfl, ?_⟩
    rw [if_pos rfl]
    refine ⟨_, rfl, p, rfl, ⟨_, hd.e⟩, fun D hD => ?_⟩
    have few := hd.few
    have len := hd.len
    refine lc_it (g := gName 1) (tt := tYes) (vs := [1]) (walk_tup (K := K) (a := p) (xs := xs)) (fun j G' => G' D = some (.lst ((bs.take j).map V.bl)) ∧ Same H G')
      ⟨upd_same, same_new (Same.refl H) hD⟩ (fun j G' _ h => sqT_sm h.2 hd.e) (fun j u Gx G' hj h hy => ?_) (fun G' h => ?_)
    · obtain ⟨eD, sm⟩ := h
      obtain ⟨rfl, hu⟩ := hy
      have hc : bs[j]? = some bs[j] := List.getElem?_eq_getElem (by omega)
      generalize bs[j] = c at hc
      refine ⟨rfl, _, rfl, rfl, rfl, u, 20, c, rfl, by decide, by decide, (hd.at_ j u c hu hc).same sm, fun G3 s3 => ?_⟩
      refine ⟨_, s3 _ _ eD, ?_, ?_, fun b o e => by rw [upd_ne (ne_of_none e hD)]; exact s3 _ _ (sm b o e)⟩
      · rw [List.length_map, List.length_take]
        omega
      · rw [upd_same, take_snoc hc, List.map_append]
        rfl
    · obtain ⟨eD, sm⟩ := h
      rw [← len, List.take_length] at eD
      refine ⟨D, _, rfl, .inl (.inl eD), ?_⟩
      rw [hb]
      exact q G' sm
theorem ok_ldigB {f : Addr} {fd : FuncData} (F : Fun K "are_loose_digits" "are_loose_digits" s_are_loose_digits f fd) (T : Top K mg) : FnOk P w K mg base CX0 5 f fd ["value"] (spBad K) := by
  obtain ⟨tm, gm⟩ := T.g__LOOSE_RANKS
  have cd : Cal P w K mg base 4 "are_digits" ["value"] (spBad K) := T.d_are_digits.cal fun f fd F => ok_digB F T
  refine F.ok sc_are_loose_digits (fun vs H Q E h => ?_) (fun cdv A outer s H vs Q E hr h => ?_)
  · obtain ⟨v, rfl, _⟩ := h
    rfl
  · obtain ⟨v, rfl, hv, q⟩ := h
    refine ⟨_, pss_one (ps_ret (pe_and (pe_callB call_isi (by rfl) T.b_isinstance (by decide +kernel) (pa_cons (pv 0) (pa_cons (pe_bltn (v := .ty "tuple") (by rfl) T.b_tuple (by decide +kernel) rfl) pa_nil)))
      (pe_and (pe_cmpR op_le (pe_callB call_len_seq (by rfl) T.b_len PySem.boot_len (pa_cons (pv 0) pa_nil)) (pe_glob (v := .int 402) (by rfl) gm ⟨_, rfl⟩) (nomark _))
        (pe_one (pe_cal cd hr (by rfl) (pa_cons (pv 0) pa_nil)))))), ?_⟩
    rcases hv with ⟨t, ht, hk⟩ | ⟨p, xs, bs, rfl, hd, hb⟩
    · refine ⟨_, rfl, _, .ty "tuple", t, .type "tuple", false, rfl, .ty _, ht, hk, false, rfl, ?_⟩
      exact q H (Same.refl H)
    refine ⟨_, rfl, _, .ty "tuple", .type "tuple", .type "tuple", true, rfl, .ty _, tyx_sqT hd.e, kit_ty (by decide +kernel), true, rfl, ?_⟩
    rw [if_pos rfl]
    refine ⟨_, rfl, p, _, rfl, .inr hd.e, _, _, rfl, rfl, _, rfl, ?_⟩
    split
    · exact ⟨_, rfl, .ref p, rfl, .inr ⟨p, xs, bs, rfl, hd, hb⟩, q⟩
    · exact q H (Same.refl H)
theorem ok_looseB {f : Addr} {fd : FuncData} (F : Fun K "is_loose" "is_loose" s_is_loose f fd) (T : Top K mg) : FnOk P w K mg base CX0 6 f fd ["value"] (spBad K) := by
  have cd : Cal P w K mg base 5 "are_loose_digits" ["value"] (spBad K) := T.d_are_loose_digits.cal fun f fd F => ok_ldigB F T
  refine F.ok sc_is_loose (fun vs H Q E h => ?_) (fun cdv A outer s H vs Q E hr h => ?_)
  · obtain ⟨v, rfl, _⟩ := h
    rfl
  · obtain ⟨v, rfl, hv, q⟩ := h
    refine ⟨_, pss_one (ps_ret (pe_and (pe_cal cd hr (by rfl) (pa_cons (pv 0) pa_nil)) (pe_one (pe_cmpR (op_neD hr.units) (pe_slice sl_tupS (pv 0) (po_some (pe_un un_neg pe_int)) po_none) (pe_tup (pa_cons (pe_tup pa_nil) pa_nil)) (by rfl))))), ?_⟩
    exact ⟨_, rfl, v, rfl, hv, fun H1 s1 => ⟨_, rfl, q H1 s1⟩⟩
/-- is_loose of a value that is none, or of digits -/
def spLooseA (K : PySem.W.Frag) : Sp := fun vs H Q E => spBad K vs H Q E ∨ spLoose K vs H Q E
theorem ok_looseA {f : Addr} {fd : FuncData} (F : Fun K "is_loose" "is_loose" s_is_loose f fd) (T : Top K mg) : FnOk P w K mg base CX0 6 f fd ["value"] (spLooseA K) := FnOk.or (ok_looseB F T) (ok_loose F T)
/-! ### is_digit -/
def spDigitA (K : PySem.W.Frag) : Sp := fun vs H Q _ => ∃ (v : V) (b : Bool), vs = [v] ∧ SortArg K H v 3 b ∧ ∀ H', Same H H' → Q (.bl b) H'
theorem ok_digitA {f : Addr} {fd : FuncData} (F : Fun K "is_digit" "is_digit" s_is_digit f fd) (T : Top K mg) : FnOk P w K mg base CX0 4 f fd ["value"] (spDigitA K) := by
  obtain ⟨tm, gm⟩ := T.g_MAX_DIGIT
  have cs : CalO P w K mg base 3 "is_sorted" ["value", "most"] 1 ["most"] (fun vs zs => vs ++ zs) (spSortA K) := T.d_is_sorted.calO fun f fd F => ok_sortA F T
  refine F.ok sc_is_digit (fun vs H Q E h => ?_) (fun cdv A outer s H vs Q E hr h => ?_)
  · obtain ⟨v, b, rfl, _⟩ := h
    rfl
  · obtain ⟨v, b, rfl, hv, q⟩ := h
    refine ⟨_, pss_one (ps_ret (pe_calO cs hr (by rfl) (pa_cons (pv 0) pa_nil) (pk_cons (pe_glob (v := .int 3) (by rfl) gm ⟨_, rfl⟩) pk_nil))), ?_⟩
    exact ⟨_, rfl, rfl, rfl, v, 3, b, rfl, by decide, by decide, hv, q⟩
end
end Kl

set_option maxRecDepth 100000
set_option maxHeartbeats 4000000
/-! ### own rules: a def that may raise, whatever is under way -/
namespace Gx
open PySem PySem.Spec PyProof.Rows L2
section
variable {X : Cx} {C : Addr} {k : Nat} {ps : List Str} {sp : Sp} {E : L2.St → XK}
theorem runX_below {f : Addr} {fd : FuncData} {A : Around} {pins : List (Addr × Obj)} {σ : L2.St} {H : Hp} {s : Shared} {us : List Value} {vs : List V} {Q : VK} (F : FnOk X.prog X.w X.K X.mg X.base (L2.CX X.prog X.w) k f fd ps sp) (room : Room k A) (fr : A.frames = X.A.frames) (b : Binds X.K fd ps [])
    (hx : PassesAt (L2.CX X.prog X.w) X σ (E σ)) (I : Inv X pins σ H s) (r : Vals vs us) (want : sp vs H Q (E σ)) : wpAny (model X.prog X.w) A (call (.ref f) us) (EP X pins σ Q) X.xe s := by
  have e0 : Env0 X.prog X.w X.K X.mg X.base A X.stack s H := by
    have e := I.env0
    exact ⟨by rw [fr]; exact e.frames, e.mod, e.bs, e.bsz, e.funs, e.frf, e.hok, e.bare⟩
  have hl : us.length = ps.length := r.length.symm.trans (F.len _ _ _ _ want)
  have bt : BindsTo s fd ⟨us, []⟩ (ps.zip us) := by
    have q := b s us I.kIn (by rw [List.append_nil]; exact hl)
    rw [List.append_nil] at q
    exact q
  refine wpAny_call (codeAny_mono (F.run A X.stack s H ⟨us, []⟩ us vs Q (E σ) room e0 bt r want) fun res s' hres => ?_)
  match res, hres with
  | .error e, hres => exact hx pins H s e s' I hres
  | .ok (.ret u), hres => exact I.after hres
end
/-- the name x is a def that keeps sp and may raise, whatever is under way -/
def CalY (P : Program) (w : World) (K : PySem.W.Frag) (mg : Str → Option Value) (base : Heap) (k : Nat) (x : Str) (ps : List Str) (sp : Sp) : Prop :=
  ∃ (f : Addr) (fd : FuncData), FnOk P w K mg base (L2.CX P w) k f fd ps sp ∧ PySem.W.keepIn K (.ref f) = true ∧ Binds K fd ps [] ∧ mg x = some (.ref f)
section
variable {P : Program} {w : World} {K : PySem.W.Frag} {mg : Str → Option Value} {base : Heap}
theorem CalY.up {j k : Nat} {x : Str} {ps : List Str} {sp : Sp} (c : CalY P w K mg base j x ps sp) (h : j ≤ k) : CalY P w K mg base k x ps sp := by
  obtain ⟨f, fd, F, r⟩ := c
  exact ⟨f, fd, F.mono h, r⟩
theorem Def.calY {x qual : Str} {st : Stmt} {ps : List Str} (d : Def K mg x qual st ps) {k : Nat} {sp : Sp} (h : ∀ f fd, Fun K x qual st f fd → FnOk P w K mg base (L2.CX P w) k f fd ps sp) : CalY P w K mg base k x ps sp := by
  obtain ⟨f, fd, F, b, g⟩ := d
  exact ⟨f, fd, h f fd F, F.kp, b, g⟩
end
section
variable {X : Cx} {k : Nat} {ps : List Str} {sp : Sp} {E : L2.St → XK}
def tClY (sp : Sp) (E : L2.St → XK) (t : TA) : TE := fun σ H Q => t σ H fun vs H1 => sp vs H1 Q (E σ)
theorem pe_calY {x : Str} {e : Expr} {es : List Expr} {t : TA} {p pos : Pos} (c : CalY X.prog X.w X.K X.mg X.base k x ps sp) (room : Room k X.A) (hg : Gl X x) (hx : ∀ σ, PassesAt (L2.CX X.prog X.w) X σ (E σ)) (h : PA X (e :: es) t)
    (hdb : (x == ("__debug__" : Str)) = false := by decide) (hst : starEach (e :: es) X.env = (false, eval e X.env) :: starEach es X.env := by rfl) (hpl : (backTo pos (starEach es X.env)).any (·.1) = false := by rfl) :
    PE X (.Call (.Name x p) (e :: es) [] pos) (tClY sp E t) := by
  obtain ⟨f, fd, F, kp, b, hm⟩ := c
  refine ⟨fun pins s σ H Q I want => wpAny_Call_Name_kw (ld_glob I hg hm ?_ hdb)⟩
  refine PySem.W.callWith_K (h₀ := X.base) I.ok.mod.kin kp (thn (h.run pos pins s σ H _ I want) fun us s1 ⟨vs, H1, I1, r, q⟩ => ⟨I1.kIn, ?_⟩) hst hpl
  exact runX_below F room rfl b (hx σ) I1 r q
end
end Gx

set_option maxRecDepth 100000
set_option maxHeartbeats 4000000
namespace Kl
open PySem PySem.Spec PyProof.Rows L2 Gx Mx
theorem good20 {q : List Str} (h : goodB q = true) : q.length ≤ 20 := by
  unfold goodB at h
  rw [Bool.and_eq_true] at h
  exact of_decide_eq_true h.1
theorem goodB_int (q : List Str) : (decide ((q.length : Int) ≤ 20) && (q.all nameB && sortedS q)) = goodB q := by
  unfold goodB
  rw [show decide (((q.length : Nat) : Int) ≤ 20) = decide (q.length ≤ 20) by rw [decide_eq_decide]; omega]
theorem tyx_tup {K : PySem.W.Frag} {H : Hp} {p : Addr} {xs : List V} (h : H p = some (.tup xs)) : TyX K H (.ref p) (.type "tuple") := .base (.tup h)
section
variable {P : Program} {w : World} {K : PySem.W.Frag} {mg : Str → Option Value} {base : Heap}
/-! ### text_of, words_of, names_in -/
def spTextOf (K : PySem.W.Frag) : Sp := fun vs H Q _ => ∃ (p : Addr) (q : List Str), vs = [V.ref p] ∧ SqT K H p (q.map V.str) ∧ goodB q = true ∧ Q (.str (textD q)) H
theorem ok_textof {f : Addr} {fd : FuncData} (F : Fun K "text_of" "text_of" s_text_of f fd) (T : Top K mg) : FnOk P w K mg base CX0 1 f fd ["names"] (spTextOf K) := by
  refine F.ok sc_text_of (fun vs H Q E h => ?_) (fun cdv A outer s H vs Q E hr h => ?_)
  · obtain ⟨p, q, rfl, _⟩ := h
    rfl
  · obtain ⟨p, q, rfl, hp, hg, hQ⟩ := h
    refine ⟨_, pss_one (ps_ret (pe_ifExp (pt_truth (pv 0) (fun _ => rfl)) (pe_join pe_str (pv 0)) pe_str)), ?_⟩
    unfold textD at hQ
    cases q with
    | nil =>
      rw [if_pos rfl] at hQ
      exact ⟨_, rfl, false, .inr (.inl ⟨_, hp, rfl⟩), hQ⟩
    | cons z r =>
      rw [if_neg (List.cons_ne_nil _ _)] at hQ
      refine ⟨_, rfl, true, .inr (.inl ⟨_, hp, rfl⟩), ?_⟩
      show (if true = true then _ else _)
      rw [if_pos rfl]
      have l20 := good20 hg
      have ls := sum_by fun z hz => name_len (good_names hg z hz)
      have e1 : ("+" : Str).length = 1 := rfl
      exact ⟨⟨_, rfl⟩, _, rfl, _, p, _, rfl, rfl, .inr hp, by rw [e1]; omega, hQ⟩
def spWords : Sp := fun vs H Q _ => ∃ z : Str, vs = [V.str z] ∧ z.length ≤ 4000 ∧ ∀ p H', Same H H' → H' p = some (.lst ((Txt.split z " ").map V.str)) → Q (.ref p) H'
theorem ok_words {f : Addr} {fd : FuncData} (F : Fun K "words_of" "words_of" s_words_of f fd) (T : Top K mg) : FnOk P w K mg base CX0 1 f fd ["line"] spWords := by
  refine F.ok sc_words_of (fun vs H Q E h => ?_) (fun cdv A outer s H vs Q E hr h => ?_)
  · obtain ⟨z, rfl, _⟩ := h
    rfl
  · obtain ⟨z, rfl, hz, q⟩ := h
    refine ⟨_, pss_one (ps_ret (pe_ifExp (pt_val (pe_callB call_isi (by rfl) T.b_isinstance (by decide +kernel) (pa_cons (pv 0) (pa_cons (pe_bltn (v := .ty "str") (by rfl) T.b_str (by decide +kernel) rfl) pa_nil)))) (pe_split (pv 0) pe_str) (pe_lst pa_nil))), ?_⟩
    have big : 100000 ≤ sizeLine := by decide
    refine ⟨_, rfl, _, .ty "str", .type "str", .type "str", true, rfl, .ty _, .base (.str z), kit_ty (by decide +kernel), true, rfl, ?_⟩
    show (if true = true then _ else _)
    rw [if_pos rfl]
    exact ⟨_, rfl, ⟨_, rfl⟩, z, _, rfl, rfl, rfl, by omega, fun p np => q p _ (same_new (Same.refl H) np) upd_same⟩
def spNI : Sp := fun vs H Q _ => ∃ z : Str, vs = [V.str z, V.int 20] ∧ z.length ≤ 4000 ∧ (∀ p q H', parseD z = some q → Same H H' → H' p = some (.tup (q.map V.str)) → Q (.ref p) H') ∧ (∀ H', parseD z = none → Same H H' → Q .non H')
theorem ok_ni {f : Addr} {fd : FuncData} (F : Fun K "names_in" "names_in" s_names_in f fd) (T : Top K mg) : FnOk P w K mg base CX0 4 f fd ["text", "most"] spNI := by
  have cs : CalO P w K mg base 3 "is_sorted" ["value", "most"] 1 ["most"] (fun vs zs => vs ++ zs) (spSortL K) := T.d_is_sorted.calO fun f fd F => ok_sortL F T
  refine F.ok sc_names_in (fun vs H Q E h => ?_) (fun cdv A outer s H vs Q E hr h => ?_)
  · obtain ⟨z, rfl, _⟩ := h
    rfl
  · obtain ⟨z, rfl, hz, q1, q2⟩ := h
    refine ⟨_, pss_cons (ps_if (pt_not (pt_val (pe_callB call_isi (by rfl) T.b_isinstance (by decide +kernel) (pa_cons (pv 0) (pa_cons (pe_bltn (v := .ty "str") (by rfl) T.b_str (by decide +kernel) rfl) pa_nil))))) (pss_one (ps_ret pe_non)) pss_nil)
      (pss_cut (ps_set (i := 2) sc_names_in.nd rfl (.inl rfl) (pe_ifExp (pt_cmpR op_eq (pv 0) pe_str (nomark _)) (pe_tup pa_nil) (pe_callTy call_tuple_of (by rfl) T.b_tuple (by decide +kernel) (pa_cons (pe_split (pv 0) pe_str) pa_nil))))
      (pss_one (ps_ret (pe_ifExp (pt_val (pe_calO cs hr (by rfl) (pa_cons (pv 2) pa_nil) (pk_cons (pv 1) pk_nil))) (pv 2) pe_non)))), ?_⟩
    have big : 100000 ≤ sizeLine := by decide
    refine ⟨_, rfl, _, .ty "str", .type "str", .type "str", true, rfl, .ty _, .base (.str z), kit_ty (by decide +kernel), true, rfl, ?_⟩
    show (if (!true) = true then _ else _)
    rw [if_neg (by decide)]
    refine ⟨fun σ' G => ∃ (p : Addr) (q : List Str), σ' = [some (.str z), some (.int 20), some (.ref p)] ∧ G p = some (.tup (q.map V.str)) ∧ Same H G ∧ parseD z = (if goodB q = true then some q else none) ∧ q.length ≤ 5000 ∧ ∀ y ∈ q, y.length ≤ 5000, ?_, ?_⟩
    · refine ⟨_, rfl, rfl, _, rfl, ite2 (fun c => ?_) (fun c => ?_)⟩
      · have ez : z = "0" := V.str.inj (of_decide_eq_true c)
        refine ⟨Nat.zero_le _, fun p np => ⟨p, [], rfl, upd_same, same_new (Same.refl H) np, ?_, Nat.zero_le _, nofun⟩⟩
        unfold parseD
        rw [if_pos ez]
        rfl
      · have ez : z ≠ "0" := fun h => c (decide_eq_true (by rw [h]))
        refine ⟨_, rfl, ⟨_, rfl⟩, z, _, rfl, rfl, rfl, by omega, fun l nl => ?_⟩
        have s1 := same_new (o := .lst ((Txt.split z "+").map V.str)) (Same.refl H) nl
        refine ⟨l, _, rfl, .inl ⟨.inl (.inl upd_same), fun t nt => ?_⟩⟩
        refine ⟨t, Txt.split z "+", rfl, upd_same, same_new s1 nt, ?_, ?_, fun y hy => Nat.le_trans (split_short (by decide +kernel) hy) (by omega)⟩
        · unfold parseD
          rw [if_neg ez]
        · have := split_le z "+"
          omega
    rintro σ' G ⟨p, q, rfl, ep, sm, hpa, hl, hy⟩
    refine ⟨_, rfl, _, rfl, rfl, rfl, p, q, 20, rfl, .inl (.inl ep), tyx_tup ep, by decide, by decide, hl, hy, fun H' s => ⟨_, rfl, ?_⟩⟩
    rw [goodB_int]
    cases c : goodB q with
    | true =>
      rw [c, if_pos rfl] at hpa
      exact ⟨_, rfl, q1 p q H' hpa (fun b o e => s _ _ (sm _ _ e)) (s _ _ ep)⟩
    | false =>
      rw [c, if_neg (by decide)] at hpa
      exact q2 H' hpa fun b o e => s _ _ (sm _ _ e)
end
end Kl

set_option maxRecDepth 100000
set_option maxHeartbeats 4000000
namespace Kl
open PySem PySem.Spec PyProof.Rows L2 Gx Mx
section
variable {P : Program} {w : World} {K : PySem.W.Frag} {mg : Str → Option Value} {base : Heap}
/-! ### write_digit, read_digit -/
def spWD (K : PySem.W.Frag) : Sp := fun vs H Q _ => ∃ (p : Addr) (q : List Str), vs = [V.ref p] ∧ SqT K H p (q.map V.str) ∧ goodB q = true ∧ ∀ H', Same H H' → Q (.str (textD q)) H'
theorem ok_wd {f : Addr} {fd : FuncData} (F : Fun K "write_digit" "write_digit" s_write_digit f fd) (T : Top K mg) : FnOk P w K mg base CX0 4 f fd ["digit"] (spWD K) := by
  obtain ⟨tm, gm⟩ := T.g_LOOSE_DIGIT
  have cs : CalO P w K mg base 3 "is_sorted" ["value", "most"] 1 ["most"] (fun vs zs => vs ++ zs) (spSorted K) := T.d_is_sorted.calO fun f fd F => ok_sorted F T
  have ct : Cal P w K mg base 3 "text_of" ["names"] (spTextOf K) := (T.d_text_of.cal fun f fd F => ok_textof F T).mono (by decide)
  refine F.ok sc_write_digit (fun vs H Q E h => ?_) (fun cdv A outer s H vs Q E hr h => ?_)
  · obtain ⟨p, q, rfl, _⟩ := h
    rfl
  · obtain ⟨p, q, rfl, hp, hg, hQ⟩ := h
    refine ⟨_, pss_cons (ps_if (pt_not (pt_val (pe_calO cs hr (by rfl) (pa_cons (pv 0) pa_nil) (pk_cons (pe_glob (v := .int 20) (by rfl) gm ⟨_, rfl⟩) pk_nil)))) (pss_one ps_never) pss_nil)
      (pss_one (ps_ret (pe_cal ct hr (by rfl) (pa_cons (pv 0) pa_nil)))), ?_⟩
    refine ⟨_, rfl, rfl, rfl, p, q, 20, rfl, hp, tyx_sqT hp, by decide, by decide, Nat.le_trans (good20 hg) (by decide), fun z hz => Nat.le_trans (name_len (good_names hg z hz)) (by decide), fun H' s => ⟨_, rfl, ?_⟩⟩
    rw [goodB_int, hg]
    show (if (!true) = true then _ else _)
    rw [if_neg (by decide)]
    exact ⟨_, rfl, p, q, rfl, sqT_sm s hp, hg, hQ H' s⟩
def spRD (CP : Addr) : Sp := fun vs H Q E => ∃ z : Str, vs = [V.str z] ∧ z.length ≤ 4000 ∧ (∀ p q H', parseD z = some q → Same H H' → H' p = some (.tup (q.map V.str)) → Q (.ref p) H') ∧
  ∀ dd H', parseD z = none → Same H H' → H' dd = some (.xd [("number", .non)]) → E (.ref CP) (some dd) H'
theorem ok_rd {CP fI f : Addr} {fd fdI : FuncData} (F : Fun K "read_digit" "read_digit" s_read_digit f fd) (T : Top K mg) (TX : XT_ParseError K mg CP fI) (FX : Fun K "__init__" "ParseError.__init__" s_ParseError_init fI fdI) :
    FnOk P w K mg base (L2.CX P w) 5 f fd ["text"] (spRD CP) := by
  obtain ⟨tm, gm⟩ := T.g_LOOSE_DIGIT
  have cn : CalO P w K mg base 4 "names_in" ["text", "most"] 1 ["most"] (fun vs zs => vs ++ zs) spNI := T.d_names_in.calO fun f fd F => ok_ni F T
  refine F.okX sc_read_digit (fun vs H Q E h => ?_) (fun cdv A outer s H vs Q E hr h => ?_)
  · obtain ⟨z, rfl, _⟩ := h
    rfl
  · obtain ⟨z, rfl, hz, q1, q2⟩ := h
    refine ⟨_, pss_cons (ps_set (i := 1) sc_read_digit.nd rfl (.inl rfl) (pe_calO cn hr (by rfl) (pa_cons (pv 0) pa_nil) (pk_cons (pe_glob (v := .int 20) (by rfl) gm ⟨_, rfl⟩) pk_nil)))
      (pss_cons (ps_if (pt_cmpR op_isN (pv 1) pe_non (nomark _)) (pss_one (ps_raiseX rfl PySem.F.excBase_ValueError TX (init_ParseError TX FX) hr (takes_of rfl rfl rfl rfl) (pa_cons pe_non pa_nil) (by rfl))) pss_nil)
      (pss_one (ps_ret (pv 1)))), ?_⟩
    refine ⟨_, rfl, rfl, rfl, z, rfl, hz, fun p q H' hpa s ep => ?_, fun H' hpa s => ?_⟩
    · refine ⟨_, rfl, rfl, _, rfl, ?_⟩
      show (if decide (V.ref p = V.non) = true then _ else _)
      rw [decide_eq_false (fun h => nomatch h), if_neg (by decide)]
      exact ⟨_, rfl, q1 p q H' hpa s ep⟩
    · refine ⟨_, rfl, rfl, _, rfl, ?_⟩
      show (if decide (V.non = V.non) = true then _ else _)
      rw [decide_eq_true rfl, if_pos rfl]
      exact ⟨.non, rfl, fun dd nd => q2 dd _ hpa (same_new s nd) upd_same⟩
/-! ### write_row -/
def spWR (K : PySem.W.Frag) : Sp := fun vs H Q _ => ∃ (p : Addr) (LL : List (Addr × List Str)), vs = [V.ref p] ∧ RowAt K H p LL ∧ looseB (LL.map (·.2)) = true ∧ ∀ H', Same H H' → Q (.str (textR (LL.map (·.2)))) H'
abbrev NWR : List Str := ["row", "digit"]
theorem ok_wr {f : Addr} {fd : FuncData} (F : Fun K "write_row" "write_row" s_write_row f fd) (T : Top K mg) : FnOk P w K mg base CX0 8 f fd ["row"] (spWR K) := by
  have cc : Cal P w K mg base 7 "_check_loose" ["row"] (spChkL K) := T.d_check_loose.cal fun f fd F => ok_chkL F T
  have ct : Cal P w K mg base 7 "text_of" ["names"] (spTextOf K) := (T.d_text_of.cal fun f fd F => ok_textof F T).mono (by decide)
  refine F.ok sc_write_row (fun vs H Q E h => ?_) (fun cdv A outer s H vs Q E hr h => ?_)
  · obtain ⟨p, LL, rfl, _⟩ := h
    rfl
  · obtain ⟨p, LL, rfl, hR, hL, q⟩ := h
    refine ⟨_, pss_cons (ps_expr (pe_cal cc hr (by rfl) (pa_cons (pv 0) pa_nil)))
      (pss_one (ps_ret (pe_ifExp (pt_truth (pv 0) (fun _ => rfl)) (pe_join pe_str (pe_lc (own := [("digit", 1)]) (g := gName 1) (tt := tYes) rfl sc_write_row.nd (pi_tup (pv 0))
        (blkOk_by (N := NWR) (sc := defScope s_write_row) (by decide +kernel)) (fun _ _ _ _ _ => pg_name (i := 1) sc_write_row.nd rfl (.inl rfl)) (fun _ _ _ _ _ => pts_nil)
        (fun _ _ _ _ _ => pe_cal ct hr (by rfl) (pa_cons (pv 1) pa_nil)))) pe_str))), ?_⟩
    have hL2 := hL
    unfold looseB at hL2
    rw [Bool.and_eq_true, Bool.and_eq_true] at hL2
    have lq := of_decide_eq_true hL2.1.1
    have hg := List.all_eq_true.mp hL2.1.2
    rw [List.length_map] at lq
    have hgL : ∀ q ∈ LL, goodB q.2 = true := fun q hq => hg _ (List.mem_map.mpr ⟨q, hq, rfl⟩)
    have hF : Few (LL.map (·.2)) := ⟨by rw [List.length_map]; omega, fun x hx => ⟨Nat.le_trans (good20 (hg x hx)) (by decide), fun z hz => Nat.le_trans (name_len (good_names (hg x hx) z hz)) (by decide)⟩⟩
    refine ⟨_, rfl, p, LL, rfl, hR, hF, hL, fun H1 s1 => ?_⟩
    have hR1 := hR.same s1
    have q1 : ∀ H', Same H1 H' → Q (.str (textR (LL.map (·.2)))) H' := fun H' s => q H' fun b o e => s _ _ (s1 _ _ e)
    unfold textR at q1
    have big : 100000 ≤ sizeLine := by decide
    cases LL with
    | nil =>
      refine ⟨_, rfl, false, .inr (.inl ⟨_, hR1.e, rfl⟩), ?_⟩
      exact q1 H1 (Same.refl H1)
    | cons a r =>
      rw [if_neg (fun h => nomatch h)] at q1
      refine ⟨_, rfl, true, .inr (.inl ⟨_, hR1.e, rfl⟩), ?_⟩
      show (if true = true then _ else _)
      rw [if_pos rfl]
      generalize a :: r = LL at lq hgL hR1 q1
      refine ⟨⟨_, rfl⟩, _, rfl, p, rfl, ⟨_, hR1.e⟩, fun D hD => ?_⟩
      refine lc_it (g := gName 1) (tt := tYes) (vs := [1]) (walk_tup (K := K) (a := p) (xs := LL.map fun q => V.ref q.1)) (fun j G' => G' D = some (.lst (((LL.take j).map fun q => textD q.2).map V.str)) ∧ Same H1 G')
        ⟨upd_same, same_new (Same.refl H1) hD⟩ (fun j G' _ h => sqT_sm h.2 hR1.e) (fun j u Gx G' hj h hy => ?_) (fun G' h => ?_)
      · obtain ⟨eD, sm⟩ := h
        obtain ⟨rfl, hu⟩ := hy
        have hu : (LL.map fun q => V.ref q.1)[j]? = some u := hu
        rw [List.getElem?_map] at hu
        obtain ⟨q0, hq0, rfl⟩ := Option.map_eq_some_iff.mp hu
        have hm := List.mem_of_getElem? hq0
        refine ⟨rfl, _, rfl, q0.1, q0.2, rfl, sqT_sm sm (hR1.t q0 hm), hgL q0 hm, _, eD, ?_, ?_, fun b o e => by rw [upd_ne (ne_of_none e hD)]; exact sm b o e⟩
        · rw [List.length_map, List.length_map, List.length_take]
          omega
        · rw [upd_same, take_snoc hq0, List.map_append, List.map_append]
          rfl
      · obtain ⟨eD, sm⟩ := h
        rw [List.length_map, List.take_length] at eD
        refine ⟨_, D, _, rfl, rfl, .inl (.inl (.inl eD)), ?_, ?_⟩
        · have h3 : ((LL.map fun q => textD q.2).map (·.length)).sum ≤ (LL.map fun q => textD q.2).length * 200 := sum_by fun z hz => by
            obtain ⟨x, hx, rfl⟩ := List.mem_map.mp hz
            exact textD_len (hgL x hx)
          have h4 : (" " : Str).length = 1 := by decide +kernel
          rw [List.length_map] at h3
          rw [h4, List.length_map]
          omega
        · have h5 := q1 G' sm
          rw [List.map_map] at h5
          exact h5
/-! ### read_row -/
/-- what names_in makes of a word -/
def DgV (K : PySem.W.Frag) (H : Hp) (z : Str) (x : V) : Prop := match parseD z with
  | some q => ∃ p, x = .ref p ∧ SqT K H p (q.map V.str)
  | none => x = .non
theorem DgV.same {H H' : Hp} {z : Str} {x : V} (h : DgV K H z x) (s : Same H H') : DgV K H' z x := by
  unfold DgV at h ⊢
  cases e : parseD z with
  | none => rw [e] at h; exact h
  | some q =>
    rw [e] at h
    obtain ⟨p, e1, e2⟩ := h
    exact ⟨p, e1, sqT_sm s e2⟩
def DgA (K : PySem.W.Frag) (H : Hp) (ws : List Str) (xs : List V) : Prop := ∀ (i : Nat) (z : Str) (x : V), ws[i]? = some z → xs[i]? = some x → DgV K H z x
theorem DgA.tail {H : Hp} {z : Str} {x : V} {ws : List Str} {xs : List V} (h : DgA K H (z :: ws) (x :: xs)) : DgA K H ws xs := fun i a b e1 e2 => h (i + 1) a b (by rw [List.getElem?_cons_succ]; exact e1) (by rw [List.getElem?_cons_succ]; exact e2)
theorem dgA_snoc {H1 G' H' : Hp} {ws : List Str} {xs : List V} {D : Addr} {j : Nat} {y : Str} {v : V} (eD : G' D = some (.lst xs)) (lx : xs.length = j) (sm : Same H1 G') (hA : DgA K G' ws xs) (hy : ws[j]? = some y) (hD : H1 D = none) (s : Same G' H') (hv : DgV K H' y v) :
    ∃ xs2 : List V, (upd H' D (.lst (xs ++ [v]))) D = some (.lst xs2) ∧ xs2.length = j + 1 ∧ Same H1 (upd H' D (.lst (xs ++ [v]))) ∧ DgA K (upd H' D (.lst (xs ++ [v]))) ws xs2 := by
  have eD' := s _ _ eD
  have keep : ∀ {z x}, DgV K H' z x → DgV K (upd H' D (.lst (xs ++ [v]))) z x := fun {z x} h => by
    unfold DgV at h ⊢
    cases e : parseD z with
    | none => rw [e] at h; exact h
    | some q =>
      rw [e] at h
      obtain ⟨p, e1, e2⟩ := h
      exact ⟨p, e1, sqT_lst eD' e2⟩
  refine ⟨xs ++ [v], upd_same, by rw [List.length_append, lx]; rfl, fun b o e => by rw [upd_ne (ne_of_none e hD)]; exact s _ _ (sm b o e), fun i a b e1 e2 => ?_⟩
  by_cases c2 : i < xs.length
  · rw [List.getElem?_append_left c2] at e2
    exact keep ((hA i a b e1 e2).same s)
  · rw [List.getElem?_append_right (by omega)] at e2
    have : i = j := by
      have : i - xs.length < [v].length := by
        rcases Nat.lt_or_ge (i - xs.length) [v].length with h | h
        · exact h
        · rw [List.getElem?_eq_none h] at e2
          cases e2
      rw [List.length_singleton] at this
      omega
    subst this
    rw [hy] at e1
    cases e1
    rw [lx, Nat.sub_self] at e2
    cases e2
    exact keep hv
theorem dgs_row : ∀ {ws : List Str} {xs : List V} {H : Hp} {qs : List (List Str)}, xs.length = ws.length → DgA K H ws xs → allSome (ws.map parseD) = some qs → ∃ LL : List (Addr × List Str), xs = LL.map (fun q => V.ref q.1) ∧ LL.map (·.2) = qs ∧ TxtsAt K H LL
  | [], [], H, qs, _, _, e => by
    cases e
    exact ⟨[], rfl, rfl, nofun⟩
  | [], _ :: _, _, _, l, _, _ => by cases l
  | _ :: _, [], _, _, l, _, _ => by cases l
  | z :: ws, x :: xs, H, qs, l, h, e => by
    have h0 := h 0 z x rfl rfl
    unfold DgV at h0
    rw [List.map_cons] at e
    cases e1 : parseD z with
    | none =>
      rw [e1] at e
      cases e
    | some q =>
      rw [e1] at e h0
      have e : (allSome (ws.map parseD)).map (q :: ·) = some qs := e
      cases e2 : allSome (ws.map parseD) with
      | none => rw [e2] at e; cases e
      | some rs =>
        rw [e2] at e
        cases e
        obtain ⟨p, rfl, hp⟩ := h0
        obtain ⟨LL, i1, i2, i3⟩ := dgs_row (Nat.succ.inj l) h.tail e2
        refine ⟨(p, q) :: LL, by rw [List.map_cons, i1], by rw [List.map_cons, i2], fun y hy => ?_⟩
        rcases List.mem_cons.mp hy with rfl | hy
        · exact hp
        · exact i3 y hy
theorem dgs_bad {ws : List Str} {xs : List V} {H : Hp} {p : Addr} (e : H p = some (.tup xs)) (l : xs.length = ws.length) (few : xs.length ≤ 1000) (h : DgA K H ws xs) : Digs K H p xs (ws.map fun z => (parseD z).isSome) := by
  refine ⟨.inl (.inl e), few, by rw [List.length_map, l], fun i x c e1 e2 => ?_⟩
  rw [List.getElem?_map] at e2
  obtain ⟨z, hz, rfl⟩ := Option.map_eq_some_iff.mp e2
  have h0 := h i z x hz e1
  unfold DgV at h0
  cases e3 : parseD z with
  | none =>
    rw [e3] at h0
    subst h0
    exact .inl ⟨⟨_, .base .non, kit_ty (by decide +kernel)⟩, rfl⟩
  | some q =>
    rw [e3] at h0
    obtain ⟨a, rfl, hp⟩ := h0
    have hg := (parse_text e3).2
    have r := sortArg_texts (n := 20) hp (Nat.le_trans (good20 hg) (by decide)) (fun y hy => Nat.le_trans (name_len (good_names hg y hy)) (by decide))
    have e4 : (decide (q.length ≤ 20) && (q.all nameB && sortedS q)) = true := hg
    rw [e4] at r
    exact r
abbrev NRR : List Str := ["text", "row", "word"]
def spRR (K : PySem.W.Frag) (CP : Addr) : Sp := fun vs H Q E => ∃ (z : Str) (n : Nat), vs = [V.str z] ∧ Tx n z ∧ n ≤ 100 ∧ (∀ p LL H', parseR z = some (LL.map (·.2)) → Same H H' → RowAt K H' p LL → Q (.ref p) H') ∧
  ∀ dd H', parseR z = none → Same H H' → H' dd = some (.xd [("number", .non)]) → E (.ref CP) (some dd) H'
theorem ok_rr {CP fI f : Addr} {fd fdI : FuncData} (F : Fun K "read_row" "read_row" s_read_row f fd) (T : Top K mg) (TX : XT_ParseError K mg CP fI) (FX : Fun K "__init__" "ParseError.__init__" s_ParseError_init fI fdI) :
    FnOk P w K mg base (L2.CX P w) 7 f fd ["text"] (spRR K CP) := by
  obtain ⟨tm, gm⟩ := T.g_LOOSE_DIGIT
  have cn : CalO P w K mg base 6 "names_in" ["text", "most"] 1 ["most"] (fun vs zs => vs ++ zs) spNI := (T.d_names_in.calO fun f fd F => ok_ni F T).mono (by decide)
  have cw : Cal P w K mg base 6 "words_of" ["line"] spWords := (T.d_words_of.cal fun f fd F => ok_words F T).mono (by decide)
  have cl : Cal P w K mg base 6 "is_loose" ["value"] (spLooseA K) := T.d_is_loose.cal fun f fd F => ok_looseA F T
  refine F.okX sc_read_row (fun vs H Q E h => ?_) (fun cdv A outer s H vs Q E hr h => ?_)
  · obtain ⟨z, n, rfl, _⟩ := h
    rfl
  · obtain ⟨z, n, rfl, hz, hn, q1, q2⟩ := h
    refine ⟨_, pss_cons (ps_if (pt_cmpR op_eq (pv 0) pe_str (nomark _)) (pss_one (ps_ret (pe_tup pa_nil))) pss_nil)
      (pss_cut (ps_set (i := 1) sc_read_row.nd rfl (.inl rfl) (pe_callTy call_tuple_of (by rfl) T.b_tuple (by decide +kernel) (pa_cons
        (pe_lc (own := [("word", 2)]) (g := gName 2) (tt := tYes) rfl sc_read_row.nd (pi_list (pe_cal cw hr (by rfl) (pa_cons (pv 0) pa_nil)))
          (blkOk_by (N := NRR) (sc := defScope s_read_row) (by decide +kernel)) (fun _ _ _ _ _ => pg_name (i := 2) sc_read_row.nd rfl (.inl rfl)) (fun _ _ _ _ _ => pts_nil)
          (fun _ _ _ _ _ => pe_calO cn hr (by rfl) (pa_cons (pv 2) pa_nil) (pk_cons (pe_glob (v := .int 20) (by rfl) gm ⟨_, rfl⟩) pk_nil))) pa_nil)))
      (pss_cons (ps_if (PW.pt (pw_or (pt_not (pt_truth (pv 1) (fun _ => rfl))) (pw_or1 (pt_not (pt_val (pe_cal cl hr (by rfl) (pa_cons (pv 1) pa_nil))))))) (pss_one (ps_raiseX rfl PySem.F.excBase_ValueError TX (init_ParseError TX FX) hr (takes_of rfl rfl rfl rfl) (pa_cons pe_non pa_nil) (by rfl))) pss_nil)
      (pss_one (ps_ret (pv 1))))), ?_⟩
    have big : 100000 ≤ sizeLine := by decide
    have hz4 : z.length ≤ 4000 := by have := hz.len; omega
    refine ⟨_, rfl, rfl, _, rfl, ite2 (fun c => ?_) (fun c => ?_)⟩
    · have ez : z = "-" := V.str.inj (of_decide_eq_true c)
      refine ⟨Nat.zero_le _, fun p np => q1 p [] _ ?_ (same_new (Same.refl H) np) ⟨.inl (.inl upd_same), nofun⟩⟩
      unfold parseR
      rw [if_pos ez]
      rfl
    have ez : z ≠ "-" := fun h => c (decide_eq_true (by rw [h]))
    have l402 := tx_split hz hn
    have hpr : parseR z = match allSome ((Txt.split z " ").map parseD) with
      | none => none
      | some qs => if qs.drop (qs.length - 1) = [[]] then none else some qs := by
      unfold parseR
      rw [if_neg ez]
      all_goals (cases allSome ((Txt.split z " ").map parseD) <;> rfl)
    have wlen : ∀ y ∈ Txt.split z " ", y.length ≤ 4000 := fun y hy => Nat.le_trans (split_short (by decide +kernel) hy) hz4
    have wne := split_ne z " "
    refine ⟨fun σ' G => ∃ (p : Addr) (xs : List V), σ' = [some (.str z), some (.ref p), none] ∧ G p = some (.tup xs) ∧ Same H G ∧ xs.length = (Txt.split z " ").length ∧ DgA K G (Txt.split z " ") xs, ?_, ?_⟩
    · refine ⟨_, rfl, z, rfl, hz4, fun l H1 s1 el => ?_⟩
      refine ⟨l, rfl, ⟨_, .inl (.inl el)⟩, fun D hD => ?_⟩
      generalize Txt.split z " " = ws at l402 wlen el
      have nlD : l ≠ D := fun h => by rw [h, hD] at el; cases el
      refine lc_it (g := gName 2) (tt := tYes) (vs := [2]) (walk_list (K := K) (a := l) (xs := ws.map V.str)) (fun j G' => ∃ xs : List V, G' D = some (.lst xs) ∧ xs.length = j ∧ Same H1 G' ∧ DgA K G' ws xs)
        ⟨[], upd_same, rfl, same_new (Same.refl H1) hD, fun i a b _ e => by cases e⟩ (fun j G' _ h => by obtain ⟨_, _, _, s, _⟩ := h; exact .inl (.inl (s _ _ el))) (fun j u Gx G' hj h hy => ?_) (fun G' h => ?_)
      · obtain ⟨xs, eD, lx, sm, hA⟩ := h
        obtain ⟨rfl, hu⟩ := hy
        have hu : (ws.map V.str)[j]? = some u := hu
        rw [List.getElem?_map] at hu
        obtain ⟨y, hy, rfl⟩ := Option.map_eq_some_iff.mp hu
        rw [List.length_map] at hj
        refine ⟨rfl, _, rfl, rfl, rfl, y, rfl, wlen y (List.mem_of_getElem? hy), fun p q H' hpa s ep => ?_, fun H' hpa s => ?_⟩
        · exact ⟨xs, s _ _ eD, by omega, dgA_snoc eD lx sm hA hy hD s (by unfold DgV; rw [hpa]; exact ⟨p, rfl, .inl (.inl ep)⟩)⟩
        · exact ⟨xs, s _ _ eD, by omega, dgA_snoc eD lx sm hA hy hD s (by unfold DgV; rw [hpa])⟩
      · obtain ⟨xs, eD, lx, sm, hA⟩ := h
        rw [List.length_map] at lx
        refine ⟨D, xs, rfl, .inl ⟨.inl (.inl eD), fun t nt => ?_⟩⟩
        exact ⟨t, xs, rfl, upd_same, fun b o e => same_new sm nt b o (s1 _ _ e), lx, fun i a b e1 e2 => (hA i a b e1 e2).same (same_new (Same.refl G') nt)⟩
    generalize Txt.split z " " = ws at l402 hpr wlen wne
    rintro σ' G ⟨p, xs, rfl, ep, sm, lx, hA⟩
    have xne : xs ≠ [] := fun h => by
      rw [h] at lx
      exact wne (List.eq_nil_of_length_eq_zero lx.symm)
    obtain ⟨x0, xr, ex⟩ : ∃ x0 xr, xs = x0 :: xr := by
      cases xs with
      | nil => exact absurd rfl xne
      | cons a r => exact ⟨a, r, rfl⟩
    have bad : ∀ {G' : Hp}, Same G G' → parseR z = none → ∀ dd, G' dd = none → E (.ref CP) (some dd) (upd G' dd (.xd [("number", .non)])) := fun {G'} s hp dd nd => q2 dd _ hp (same_new (fun b o e => s _ _ (sm b o e)) nd) upd_same
    refine ⟨_, rfl, true, .inr (.inl ⟨xs, .inl (.inl ep), by rw [ex]; rfl⟩), ?_⟩
    show (if (!true) = true then _ else _)
    rw [if_neg (by decide)]
    cases e : allSome (ws.map parseD) with
    | none =>
      rw [e] at hpr
      refine ⟨_, rfl, .inl ⟨.ref p, rfl, .inr ⟨p, xs, _, rfl, dgs_bad ep lx (by omega) hA, ?_⟩, fun H' s => ⟨_, rfl, ?_⟩⟩⟩
      · have hm := allSome_none e
        obtain ⟨y, hy, ey⟩ := List.mem_map.mp hm
        cases c2 : (ws.map fun z => (parseD z).isSome).all id with
        | false => rfl
        | true =>
          have := List.all_eq_true.mp c2 _ (List.mem_map.mpr ⟨y, hy, rfl⟩)
          rw [ey] at this
          cases this
      show (if (!false) = true then _ else _)
      rw [if_pos (by decide)]
      exact ⟨.non, rfl, bad s hpr⟩
    | some qs =>
      rw [e] at hpr
      have hpr : parseR z = if qs.drop (qs.length - 1) = [[]] then none else some qs := hpr
      obtain ⟨LL, e1, e2, e3⟩ := dgs_row lx hA e
      have hR : RowAt K G p LL := ⟨.inl (.inl (by rw [ep, e1])), e3⟩
      have hgq : ∀ q ∈ qs, goodB q = true := fun q hq => by
        have h1 := allSome_some e
        have h2 : some q ∈ ws.map parseD := by
          rw [h1]
          exact List.mem_map.mpr ⟨q, hq, rfl⟩
        obtain ⟨y, _, hy⟩ := List.mem_map.mp h2
        exact (parse_text hy).2
      have lq : qs.length ≤ 402 := by
        have h1 := congrArg List.length (allSome_some e)
        rw [List.length_map, List.length_map] at h1
        omega
      have hF : Few (LL.map (·.2)) := by
        rw [e2]
        exact ⟨by omega, fun x hx => ⟨Nat.le_trans (good20 (hgq x hx)) (by decide), fun z hz => Nat.le_trans (name_len (good_names (hgq x hx) z hz)) (by decide)⟩⟩
      refine ⟨_, rfl, .inr ⟨p, LL, rfl, hR, hF, fun H' s => ⟨_, rfl, ?_⟩⟩⟩
      have hl : looseB (LL.map (·.2)) = !decide (qs.drop (qs.length - 1) = [[]]) := by
        rw [e2]
        unfold looseB
        rw [decide_eq_true lq, List.all_eq_true.mpr hgq]
        rfl
      rw [hl]
      by_cases c2 : qs.drop (qs.length - 1) = [[]]
      · rw [if_pos c2] at hpr
        rw [decide_eq_true c2]
        show (if (!(!true)) = true then _ else _)
        rw [if_pos (by decide)]
        exact ⟨.non, rfl, bad s hpr⟩
      · rw [if_neg c2] at hpr
        rw [decide_eq_false c2]
        show (if (!(!false)) = true then _ else _)
        rw [if_neg (by decide)]
        exact ⟨_, rfl, q1 p LL H' (by rw [hpr, e2]) (fun b o e => s _ _ (sm b o e)) (hR.same s)⟩
end
end Kl

set_option maxRecDepth 100000
set_option maxHeartbeats 4000000
namespace Kl
open PySem PySem.Spec PyProof.Rows L2 Gx Mx
/-! ### is_row -/
def RowOk (leaf : Str) (M : Mak) (qs : List (List Str)) : Prop := looseB qs = true ∧ qs.length ≤ 400 ∧ (∀ q ∈ qs, q.length ≤ 3) ∧ Exist leaf M qs
def accG (g : Nat → Str → Bool) (qs : List (List Str)) (j : Nat) : List Bool := ((List.range j).map fun i => (dg qs i).map (g i)).flatten
theorem accF_bl (g : Nat → Str → Bool) (qs : List (List Str)) : ∀ j, accF (fun i z => V.bl (g i z)) qs j = (accG g qs j).map V.bl
  | 0 => rfl
  | j + 1 => by
    have e : accG g qs (j + 1) = accG g qs j ++ (dg qs j).map (g j) := by
      unfold accG
      rw [List.range_succ, List.map_append, List.flatten_append]
      simp
    rw [accF_succ, accF_bl g qs j, e, List.map_append, List.map_map]
    rfl
theorem accG_all {g : Nat → Str → Bool} {qs : List (List Str)} : (accG g qs qs.length).all id = true ↔ ∀ i, ∀ z ∈ dg qs i, g i z = true := by
  rw [List.all_eq_true]
  constructor
  · intro h i z hz
    by_cases c : i < qs.length
    · refine h _ (List.mem_flatten.mpr ⟨_, List.mem_map.mpr ⟨i, List.mem_range.mpr c, rfl⟩, List.mem_map.mpr ⟨z, hz, rfl⟩⟩)
    · rw [dg_none (by omega)] at hz
      cases hz
  · intro h b hb
    obtain ⟨l, hl, hb⟩ := List.mem_flatten.mp hb
    obtain ⟨i, _, rfl⟩ := List.mem_map.mp hl
    obtain ⟨z, hz, rfl⟩ := List.mem_map.mp hb
    exact h i z hz
section
variable {P : Program} {w : World} {K : PySem.W.Frag} {mg : Str → Option Value} {base : Heap}
abbrev NKY' : List Str := ["kinds", "value", "sizes", "digit", "here", "name"]
def spRow (K : PySem.W.Frag) (C : Addr) : Sp := fun vs H Q _ => ∃ (x md : Addr) (v : V) (leaf : Str) (M : Mak) (ns : List Str), vs = [V.ref x, v] ∧ KindsAt C H x md leaf M ns ∧ Vld leaf M ∧
  ((BadV K H v ∧ ∀ H', Same H H' → Q (.bl false) H') ∨ ∃ (p : Addr) (LL : List (Addr × List Str)), v = .ref p ∧ RowAt K H p LL ∧ Few (LL.map (·.2)) ∧ ∀ b H', (b = true ↔ RowOk leaf M (LL.map (·.2))) → Same H H' → Q (.bl b) H')
theorem ok_row {C f : Addr} {fd : FuncData} (F : Fun K "is_row" "is_row" s_is_row f fd) (T : Top K mg) (TC : Cl_Kinds K mg C) : FnOk P w K mg base CX0 8 f fd ["kinds", "value"] (spRow K C) := by
  obtain ⟨tm, gm⟩ := T.g_MAX_RANKS
  have cl : Cal P w K mg base 7 "is_loose" ["value"] (spLooseA K) := (T.d_is_loose.cal fun f fd F => ok_looseA F T).mono (by decide)
  have cg : Cal P w K mg base 7 "is_digit" ["value"] (spDigitA K) := (T.d_is_digit.cal fun f fd F => ok_digitA F T).mono (by decide)
  have ck : Cal P w K mg base 7 "_check_kinds" ["kinds"] (spChkK C) := (T.d_check_kinds.cal fun f fd F => ok_chkK F T TC).mono (by decide)
  have cs : Cal P w K mg base 7 "sums_by_rank" ["leaf", "parts_of", "ranks"] (spSumsBy K) := (T.d_sums_by_rank.cal fun f fd F => ok_sumsBy F T).mono (by decide)
  have kMak : CalP P w K mg base C "makings" 6 (spKMak C) := (TC.p_makings.cal fun f fd F => ok_kmak F T TC).mono (by decide)
  have kLeaf : CalP P w K mg base C "leaf" 6 (spKLeaf C) := (TC.p_leaf.cal fun f fd F => ok_kleaf F TC).mono (by decide)
  refine F.ok sc_is_row (fun vs H Q E h => ?_) (fun cdv A outer s H vs Q E hr h => ?_)
  · obtain ⟨x, md, v, leaf, M, ns, rfl, _⟩ := h
    rfl
  · obtain ⟨x, md, v, leaf, M, ns, rfl, hK, hV, hv⟩ := h
    have hu := hu_of hr
    refine ⟨_, pss_cons (ps_expr (pe_cal ck hr (by rfl) (pa_cons (pv 0) pa_nil)))
      (pss_cut (ps_if (PW.pt (pw_or (pt_not (pt_val (pe_cal cl hr (by rfl) (pa_cons (pv 1) pa_nil)))) (pw_or1 (pt_cmpR op_gt (pe_callB call_len_seq (by rfl) T.b_len PySem.boot_len (pa_cons (pv 1) pa_nil)) (pe_glob (v := .int 400) (by rfl) gm ⟨_, rfl⟩) (nomark _))))) (pss_one (ps_ret pe_bl)) pss_nil)
      (pss_cut (ps_if (pt_not (pt_val (pe_callB (cr_all rfl) (by rfl) T.b_all (by decide +kernel) (pa_cons (pe_lc (own := [("digit", 3)]) (g := gName 3) (tt := tYes) rfl sc_is_row.nd (pi_tup (pv 1))
          (blkOk_by (N := NKY') (sc := defScope s_is_row) (by decide +kernel)) (fun _ _ _ _ _ => pg_name (i := 3) sc_is_row.nd rfl (.inl rfl)) (fun _ _ _ _ _ => pts_nil)
          (fun _ _ _ _ _ => pe_cal cg hr (by rfl) (pa_cons (pv 3) pa_nil))) pa_nil)))) (pss_one (ps_ret pe_bl)) pss_nil)
      (pss_cut (ps_set (i := 2) sc_is_row.nd rfl (.inl rfl) (pe_cal cs hr (by rfl) (pa_cons (pe_propC (pv 0) TC.cl kLeaf hr rfl) (pa_cons (pe_propC (pv 0) TC.cl kMak hr rfl) (pa_cons (pe_callB call_len_seq (by rfl) T.b_len PySem.boot_len (pa_cons (pv 1) pa_nil)) pa_nil)))))
      (pss_one (ps_ret (pe_callB (cr_all rfl) (by rfl) T.b_all (by decide +kernel) (pa_cons (pe_lc2 (own := [("digit", 3), ("here", 4), ("name", 5)]) (vs1 := [5]) (g := gTup K 2 (gCons (gName 3) (gCons (gName 4) gNil))) (g1 := gName 5) (tt := tYes) (tt1 := tYes) rfl sc_is_row.nd
          (pi_zipM (by rfl) T.b_zip (pa_cons (pv 1) (pa_cons (pv 2) pa_nil)))
          (blkOk_by (N := NKY') (sc := defScope s_is_row) (by decide +kernel)) (by decide)
          (fun _ _ _ _ _ => pg_tup rfl (pgs_cons (pg_name (i := 3) sc_is_row.nd rfl (.inl rfl)) (pgs_cons (pg_name (i := 4) sc_is_row.nd rfl (.inl rfl)) pgs_nil)))
          (fun _ _ _ _ _ => pts_nil) (fun _ _ _ _ _ => pi_tupK (K := K) (by exact rfl) (pv 3)) (fun _ _ _ _ _ => pg_name (i := 5) sc_is_row.nd rfl (.inl rfl)) (fun _ _ _ _ _ => pts_nil)
          (fun _ _ _ _ _ => pe_cmp (pc_din hu (pv 5) (pv 4)))) pa_nil))))))), ?_⟩
    have big : 100000 ≤ sizeLine := by decide
    refine ⟨_, rfl, x, md, leaf, M, ns, rfl, hK, ?_⟩
    rcases hv with ⟨hbad, q⟩ | ⟨p, LL, rfl, hR, hF, q⟩
    · refine ⟨fun _ _ => False, ?_, fun _ _ h => h.elim⟩
      refine ⟨_, rfl, .inl ⟨v, rfl, hbad, fun H1 s1 => ⟨_, rfl, ?_⟩⟩⟩
      show (if (!false) = true then _ else _)
      rw [if_pos (by decide)]
      show (if true = true then _ else _)
      rw [if_pos rfl]
      exact q H1 s1
    have l1000 : LL.length ≤ 1000 := by
      have := hF.1
      rw [List.length_map] at this
      exact this
    refine ⟨fun σ' G => σ' = [some (.ref x), some (.ref p), none, none, none, none] ∧ Same H G ∧ looseB (LL.map (·.2)) = true ∧ LL.length ≤ 400, ?_, ?_⟩
    · refine ⟨_, rfl, .inr ⟨p, LL, rfl, hR, hF, fun H1 s1 => ⟨_, rfl, ?_⟩⟩⟩
      cases c : looseB (LL.map (·.2)) with
      | false =>
        show (if (!false) = true then _ else _)
        rw [if_pos (by decide)]
        show (if true = true then _ else _)
        rw [if_pos rfl]
        exact q false H1 ⟨nofun, fun h => by have h1 := h.1; rw [c] at h1; exact h1⟩ s1
      | true =>
        show (if (!true) = true then _ else _)
        rw [if_neg (by decide)]
        refine ⟨_, rfl, p, _, rfl, .inr (hR.same s1).e, _, _, rfl, rfl, _, rfl, ite2 (fun e => ?_) (fun e => ?_)⟩
        · refine q false H1 ⟨nofun, fun h => ?_⟩ s1
          have h1 := h.2.1
          have h2 := of_decide_eq_true e
          rw [List.length_map] at h1 h2
          omega
        · refine ⟨rfl, s1, rfl, ?_⟩
          have h2 : ¬ (((LL.map fun q => V.ref q.1).length : Nat) : Int) > 400 := fun h => e (decide_eq_true h)
          rw [List.length_map] at h2
          omega
    rintro σ' G1 ⟨rfl, s1, hL, l400⟩
    have hR1 := hR.same s1
    obtain ⟨m1, g1, _⟩ := loose_facts hL
    have g2 : ∀ q ∈ LL, q.2.length ≤ 20 ∧ (q.2.all nameB && sortedS q.2) = true := fun q hq => by
      have h := g1 q.2 (List.mem_map.mpr ⟨q, hq, rfl⟩)
      unfold goodB at h
      rw [Bool.and_eq_true] at h
      exact ⟨of_decide_eq_true h.1, h.2⟩
    refine ⟨fun σ' G => σ' = [some (.ref x), some (.ref p), none, none, none, none] ∧ Same H G ∧ ∀ q ∈ LL, q.2.length ≤ 3, ?_, ?_⟩
    · refine ⟨_, rfl, p, rfl, ⟨_, hR1.e⟩, fun D hD => ?_⟩
      refine lc_it (g := gName 3) (tt := tYes) (vs := [3]) (walk_tup (K := K) (a := p) (xs := LL.map fun q => V.ref q.1)) (fun j G => G D = some (.lst (((LL.take j).map fun q => decide (q.2.length ≤ 3) && (q.2.all nameB && sortedS q.2)).map V.bl)) ∧ Same G1 G)
        ⟨upd_same, same_new (Same.refl G1) hD⟩ (fun j G _ h => sqT_sm h.2 hR1.e) (fun j u Gx G hj h hy => ?_) (fun G h => ?_)
      · obtain ⟨eD, sm⟩ := h
        obtain ⟨rfl, hu⟩ := hy
        have hu : (LL.map fun q => V.ref q.1)[j]? = some u := hu
        rw [List.getElem?_map] at hu
        obtain ⟨q0, hq0, rfl⟩ := Option.map_eq_some_iff.mp hu
        have hm0 := List.mem_of_getElem? hq0
        obtain ⟨f1, f2⟩ := hF.2 q0.2 (List.mem_map.mpr ⟨q0, hm0, rfl⟩)
        refine ⟨rfl, _, rfl, .ref q0.1, _, rfl, sortArg_texts (n := 3) (sqT_sm sm (hR1.t q0 hm0)) f1 f2, fun G3 s3 => ?_⟩
        refine ⟨_, s3 _ _ eD, ?_, ?_, fun b o e => by rw [upd_ne (ne_of_none e hD)]; exact s3 _ _ (sm b o e)⟩
        · rw [List.length_map, List.length_map, List.length_take]
          omega
        · rw [upd_same, take_snoc hq0, List.map_append, List.map_append]
          rfl
      · obtain ⟨eD, sm⟩ := h
        rw [List.length_map, List.take_length] at eD
        refine ⟨D, _, rfl, .inl (.inl eD), _, rfl, ?_⟩
        have sH : Same H G := fun b o e => sm _ _ (s1 _ _ e)
        rw [List.all_map]
        cases c : LL.all (id ∘ fun q => decide (q.2.length ≤ 3) && (q.2.all nameB && sortedS q.2)) with
        | false =>
          show (if (!false) = true then _ else _)
          rw [if_pos (by decide)]
          refine q false G ⟨nofun, fun h => ?_⟩ sH
          have h3 : LL.all (id ∘ fun q => decide (q.2.length ≤ 3) && (q.2.all nameB && sortedS q.2)) = true := List.all_eq_true.mpr fun q hq => by
            show (decide (q.2.length ≤ 3) && (q.2.all nameB && sortedS q.2)) = true
            rw [(g2 q hq).2, decide_eq_true (h.2.2.1 q.2 (List.mem_map.mpr ⟨q, hq, rfl⟩))]
            rfl
          rw [c] at h3
          exact h3
        | true =>
          show (if (!true) = true then _ else _)
          rw [if_neg (by decide)]
          refine ⟨rfl, sH, fun q hq => ?_⟩
          have h3 := List.all_eq_true.mp c q hq
          have h3 : (decide (q.2.length ≤ 3) && (q.2.all nameB && sortedS q.2)) = true := h3
          rw [Bool.and_eq_true] at h3
          exact of_decide_eq_true h3.1
    rintro σ' G2 ⟨rfl, s2, l3⟩
    have hV3 : ∀ m ∈ M, m.2.length ≤ 3 := fun m hm => (hV.parts m hm).2.2.1
    obtain ⟨dx, nt, kvs0, hx, hmd0, hM0, _⟩ := id hK
    have hK2 := hK.same s2
    have hR2 := hR.same s2
    refine ⟨fun σ' G => ∃ (bl : Addr) (ds : List Addr), σ' = [some (.ref x), some (.ref p), some (.ref bl), none, none, none] ∧ G bl = some (.lst (ds.map V.ref)) ∧ LL.length ≤ ds.length ∧ RowsAt G leaf M ds ∧ Same H G, ?_, ?_⟩
    · refine ⟨_, rfl, x, dx, _, rfl, s2 _ _ hx, x, md, leaf, M, ns, rfl, hK2, ?_⟩
      refine ⟨_, rfl, x, dx, _, rfl, s2 _ _ hx, x, md, leaf, M, ns, rfl, hK2, fun pm kvs npm hMp => ?_⟩
      have s3 := same_new (o := .dK kvs) (Same.refl G2) npm
      refine ⟨_, rfl, p, _, rfl, .inr (hR2.same s3).e, ?_⟩
      rw [List.length_map]
      refine ⟨leaf, pm, LL.length, kvs, M, rfl, by omega, upd_same, (hMp.same fun _ _ h => h.mono s3).parts, hV.len, hV.nd, hV3, fun bl ds G s4 nbl ebl ll hRw => ?_⟩
      exact ⟨bl, ds, rfl, ebl, by omega, hRw, fun b o e => s4 _ _ (s3 _ _ (s2 _ _ e))⟩
    rintro σ' G ⟨bl, ds, rfl, ebl, ll, hRw, s3⟩
    have hR3 := hR.same s3
    refine ⟨_, rfl, _, rfl, p, bl, _, _, rfl, hR3.e, .inl (.inl ebl), fun D hD => ?_⟩
    refine two_for (wi1 := iTup K (tVar 3)) (te := tDIn (tVar 5) (tVar 4)) (fun i z => V.bl (decide (z ∈ keysR (rowsR leaf M i)))) hR3 ebl hRw ll (fun q hq => (g2 q hq).1) (by omega) (fun G' R a da xs ha h => ⟨_, rfl, a, rfl, ⟨_, ha⟩, h⟩) (fun i q da z G' Q hi hz hda h => ?_) hD (fun G' eD s4 => ?_)
    · refine ⟨_, rfl, _, rfl, da, _, rfl, .inl ⟨_, Sum.inr z, .inl hda, rfl, rfl⟩, ?_⟩
      rw [rowK_some]
      exact h
    · rw [accF_bl (fun i z => decide (z ∈ keysR (rowsR leaf M i)))] at eD
      refine ⟨D, _, rfl, .inl (.inl eD), ?_⟩
      refine q _ G' ?_ fun b o e => s4 _ _ (s3 _ _ e)
      have e := accG_all (g := fun i z => decide (z ∈ keysR (rowsR leaf M i))) (qs := LL.map (·.2))
      rw [List.length_map] at e
      rw [e]
      constructor
      · intro h
        refine ⟨hL, by rw [List.length_map]; exact l400, fun q hq => ?_, fun i z hz => of_decide_eq_true (h i z hz)⟩
        obtain ⟨y, hy, rfl⟩ := List.mem_map.mp hq
        exact l3 y hy
      · intro h i z hz
        exact decide_eq_true (h.2.2.2 i z hz)
end
end Kl

set_option maxRecDepth 100000
set_option maxHeartbeats 4000000
namespace Gx
open PySem PySem.Spec PyProof.Rows L2 SeqAt Mx
open AutoSeq1 (wpAny_loadPart')
/-! ### a dict is no text; data and dicts in a tuple -/
theorem str_eq_dict (b : Str) (u : Tok) (l : Addr) (dd : Option Addr) (sl : Array (Option Value)) (es : Array DictEntry) (ep : Nat) :
    Meets (Builtin.«str.__eq__» ⟨[.str b u, .ref l], []⟩) (fun _ R s => s.heap.get? l = some { cls := .type "dict", dict := dd, data := .dict es ep, slots := sl } ∧ R (.ok (.ret .notImplemented)) s) :=
  .of_wp fun prog w A R s h => by obtain ⟨hp, g, d, tk, os⟩ := s; obtain ⟨hl, h⟩ := h; wp_walk using wpAny_loadPart' hl, wpAny_load hl; exact ⟨_, rfl, h⟩
theorem dict_eq_str {prog : Program} {w : World} {A : Around} {E : Value → Shared → Prop} {s : Shared} {Q : Value → Shared → Prop} {a : Addr} {b : Str} {u : Tok} (da : s.TypeIs (.ref a) "dict") (h : Q .notImplemented s) :
    wpAny (model prog w) A (call (.builtin "dict.__eq__") [.ref a, .str b u]) Q E s := by
  refine wpAny_call_entry PySem.F.slot_dict_eq da PySem.F.entry_dict_eq ?_ (PySem.F.args_dict_eq_2 _ _)
  show wpAny _ _ (Builtin.Dict.dictSlotArgs "__eq__" ⟨[.ref a, .str b u], []⟩ >>= _) _ _ s
  refine wpAny_bind ?_
  unfold Builtin.Dict.dictSlotArgs
  refine wpAny_bind (wpAny_notOrdered_dict da ?_)
  show wpAny _ _ (pure (Value.ref a, Value.str b u)) _ _ s
  refine wpAny_pure ?_
  refine wpAny_bind (wpAny_isInstance (T := "str") (typeIs_str s b u) PySem.F.sub_str_dict ?_)
  simp only [Bool.not_false, if_true]
  exact wpAny_bind (wpAny_rule (wpAny_bind (wpAny_pure (wpAny_pure ⟨_, rfl, h⟩))))
section
variable {A : Around} {s : Shared}
theorem eqAt_str_dict {l : Addr} {ob : Obj} (b : Str) (u : Tok) (hl : s.heap.get? l = some ob) (hc : ob.cls = .type "dict") {es : Array DictEntry} {ep : Nat} (hde : ob.data = .dict es ep) (hu : A.units < cLine) : EqAt A s (.str b u) (.ref l) false := fun prog w E Q h => by
  unfold eqBool
  refine wpAny_holding ?_
  refine wpAny_ite_split (fun hab => absurd (eq_of_beq hab) nofun) (fun _ => ?_)
  obtain ⟨cls2, dd2, data2, sl2⟩ := ob
  simp only at hc hde
  subst hc hde
  refine wpAny_bind ?_
  exact rc_eq_decline_or (k := false) (typeIs_str s b u) ⟨_, hl, rfl⟩ (by decide) F.sub_dict_str F.slot_str_eq F.slot_dict_eq_refl
    (fun _ hq => call_meets F.slot_str_eq (typeIs_str s b u) F.entry_str_eq (F.args_str_eq_2 _ _) (str_eq_dict b u l dd2 sl2 es ep) ⟨hl, hq⟩)
    (fun _ hq => dict_eq_str ⟨_, hl, rfl⟩ hq)
    (fun _ hq => wpAny_of_eq (rfl : isSame (.str b u) (.ref l) = pure false) hq) (.inr hu) (wpAny_truthy_bool h)
end
section
variable {X : Cx}
theorem vals_mem : ∀ {zs : List Str} {its : List Value} {y : Value}, Vals (zs.map V.str) its → y ∈ its → ∃ z t, y = .str z t
  | [], _, _, .nil, h => nomatch h
  | z :: zs, _, y, .cons r t, h => by
    rcases List.mem_cons.mp h with rfl | h
    · obtain ⟨tk, e⟩ := r
      exact ⟨z, tk, e⟩
    · exact vals_mem t h
/-- x in a tuple of texts: data that are not deep, or a dict -/
def rInTx (K : PySem.W.Frag) : R2 := fun x y H Q => ∃ (p : Addr) (zs : List Str), y = .ref p ∧ SqT K H p (zs.map V.str) ∧ (∀ z ∈ zs, PyData.strOk z = true) ∧
  ((∃ d, Dp K H x d ∧ d.canLay0 = true ∧ d.depth ≤ 10 ∧ Q (.bl ((tD zs).any fun z => PyData.eqv z d)) H) ∨ ∃ a kvs, x = .ref a ∧ H a = some (.dK kvs) ∧ Q (.bl false) H)
theorem op_inTx (hu : X.A.units + 64 < cLine) : OpR X (compareOp .In) (rInTx X.K) := by
  intro pins s σ H x y v u Q I rx ry h
  obtain ⟨p, zs, rfl, hp, ok, h⟩ := h
  rcases h with ⟨d, hd, sd, dp, q⟩ | ⟨a, kvs, rfl, ea, q⟩
  · obtain ⟨as, r1⟩ := Dp.reads I d x v hd rx
    obtain ⟨bs, r2⟩ := Dp.reads I (.tuple (tD zs)) (.ref p) u (.tup hp (dp_texts zs)) ry
    exact SeqAt.in_tuple_reads r2 r1 (canLay_texts zs ok) sd (by omega) ⟨.bl _, H, I, rfl, q⟩
  · cases rx
    cases ry
    obtain ⟨its, rv, pl, hz⟩ := I.tuple hp
    obtain ⟨_, _, vs, _, hd⟩ := dk_of I.hok ea
    obtain ⟨ob, hb, hD⟩ := Heap.dictOf_iff.mp hd
    obtain ⟨es, ep, ex, ed, _⟩ := hD
    have hcb : ob.cls = .type "dict" := ex.1
    refine SeqAt.in_tupleAt (fun _ => false) pl (fun y hy => ?_) ⟨.bl false, H, I, ?_, q⟩
    · rw [List.mem_toArray] at hy
      obtain ⟨z, t, rfl⟩ := vals_mem rv hy
      exact eqAt_str_dict z t hb hcb ed (by show X.A.units + 1 < cLine; omega)
    · show Value.bool _ = Value.bool false
      rw [Array.any_eq_false' |>.mpr (fun _ _ => by simp)]
end
end Gx

set_option maxRecDepth 100000
set_option maxHeartbeats 4000000
namespace Kl
open PySem PySem.Spec PyProof.Rows L2 Gx Mx
section
variable {X : Cx}
/-! ### tuple(list): a tuple whose object is known; its index -/
theorem call_tupleZ : CallR X (.type "tuple") (fun xs H Q => ∃ p ys, xs = [.ref p] ∧ SqL X.K H p ys ∧ ∀ l H', TupZ H' l ys → H l = none → (∀ b, b ≠ l → H' b = H b) → Q (.ref l) H') := by
  intro pins s σ H xs us Q I r h
  obtain ⟨p, ys, rfl, hq, q⟩ := h
  obtain ⟨u, rfl, rx⟩ := vals1 r
  cases rx
  obtain ⟨its, r', pl, hz⟩ := I.list hq
  have hlen := r'.length
  refine call_tuple_list pl.isList (fun h' kp => ?_) (by simp only [List.size_toArray] <;> omega)
  have I1 : Inv X pins σ H { s with heap := h' } := I.kept (t' := s.toks) kp
  have I2 : Inv X pins σ (upd H h'.objs.size (.frz { cls := .type "tuple", data := .seq its.toArray } (.tup ys))) { s with heap := h'.push { cls := .type "tuple", data := .seq its.toArray } } :=
    I1.laid (t' := s.toks) (fun b o e => Heap.get?_push_of_some _ e) (Nat.le_refl _) (show ObjOk X.prog X.w _ _ _ (.frz _ (.tup ys)) from ⟨Heap.get?_push_size _ rfl, hz, its, r', IsTup.new _ _⟩)
  exact ⟨.ref h'.objs.size, _, I2, rfl, q _ _ ⟨_, rfl, upd_same⟩ (I1.hok.fresh (Nat.le_refl _)) (fun b n => upd_ne n)⟩
def tyTupZ (x : V) (H : Hp) : Prop := ∃ a xs, x = .ref a ∧ TupZ H a xs
theorem ty_tupZ : TyOk X "tuple" tyTupZ := by
  intro pins σ H s x v I r ty
  obtain ⟨a, xs, rfl, ob, hd, e⟩ := ty
  cases r
  obtain ⟨e1, hz, its, rv, o2, e2, hc, _⟩ := I.hok a _ e
  rw [e1] at e2
  cases e2
  refine ⟨⟨_, e1, hc⟩, fun b q => ?_⟩
  cases q
  exact ⟨_, e1, hd⟩
end
section
variable {P : Program} {w : World} {K : PySem.W.Frag} {mg : Str → Option Value} {base : Heap}
/-! ### in, [..], len, str -/
def spKHas (K : PySem.W.Frag) (C : Addr) : Sp := fun vs H Q _ => ∃ (x md : Addr) (leaf : Str) (M : Mak) (ns : List Str) (v : V), vs = [V.ref x, v] ∧ KindsAt C H x md leaf M ns ∧ (∀ z ∈ ns, PyData.strOk z = true) ∧
  ((∃ d, Dp K H v d ∧ d.canLay0 = true ∧ d.depth ≤ 10 ∧ Q (.bl ((tD ns).any fun z => PyData.eqv z d)) H) ∨ ∃ a kvs, v = .ref a ∧ H a = some (.dK kvs) ∧ Q (.bl false) H)
theorem ok_khas {C f : Addr} {fd : FuncData} (F : Fun K "__contains__" "Kinds.__contains__" s_Kinds_contains f fd) (T : Top K mg) (TC : Cl_Kinds K mg C) : FnOk P w K mg base CX0 1 f fd ["self", "value"] (spKHas K C) := by
  refine F.ok sc_Kinds_contains (fun vs H Q E h => ?_) (fun cdv A outer s H vs Q E hr h => ?_)
  · obtain ⟨x, md, leaf, M, ns, v, rfl, _⟩ := h
    rfl
  · obtain ⟨x, md, leaf, M, ns, v, rfl, ⟨dx, nt, kvs, hx, hd, hM, hn⟩, ok, q⟩ := h
    have hu := hu_of hr
    refine ⟨_, pss_one (ps_ret (pe_cmpR (op_inTx hr.units) (pv 1) (pe_fld (pv 0) rfl) (by rfl))), ?_⟩
    exact ⟨_, rfl, _, rfl, x, C, dx, _, _, rfl, hx, TC.cl, TC.n_names, kf_names _ _ _, nt, ns, rfl, .inl (.inl hn), ok, q⟩
def spKGet (C : Addr) : Sp := fun vs H Q _ => ∃ (x md : Addr) (leaf : Str) (M : Mak) (ns : List Str) (z : Str), vs = [V.ref x, .str z] ∧ KindsAt C H x md leaf M ns ∧ z ∈ ns ∧
  ∀ p H', Same H H' → ((∃ ps, lookM M z = some ps ∧ TupZ H' p (ps.map V.str)) ∨ (lookM M z = none ∧ H' p = some (.tup []))) → Q (.ref p) H'
theorem ok_kget {C f : Addr} {fd : FuncData} (F : Fun K "__getitem__" "Kinds.__getitem__" s_Kinds_getitem f fd) (T : Top K mg) (TC : Cl_Kinds K mg C) : FnOk P w K mg base CX0 1 f fd ["self", "name"] (spKGet C) := by
  refine F.ok sc_Kinds_getitem (fun vs H Q E h => ?_) (fun cdv A outer s H vs Q E hr h => ?_)
  · obtain ⟨x, md, leaf, M, ns, z, rfl, _⟩ := h
    rfl
  · obtain ⟨x, md, leaf, M, ns, z, rfl, ⟨dx, nt, kvs, hx, hd, hM, hn⟩, hz, q⟩ := h
    have hu := hu_of hr
    refine ⟨_, pss_cons (ps_if (pt_cmpR op_notIn_seq (pv 1) (pe_fld (pv 0) rfl) (by rfl)) (pss_one ps_never) pss_nil)
      (pss_one (ps_ret (pe_dget2 hu (pe_fld (pv 0) rfl) (pv 1) (pe_tup pa_nil) (by constructor <;> rfl)))), ?_⟩
    refine ⟨_, rfl, _, rfl, x, C, dx, _, _, rfl, hx, TC.cl, TC.n_names, kf_names _ _ _, nt, _, rfl, .inr (.inl (.inl hn)), rfl, flat_strs' ns, _, rfl, ?_⟩
    have e : inV (V.str z) (ns.map V.str) = true := by rw [inV_strs, decide_eq_true hz]
    simp only [e, if_true, Bool.not_true, Bool.false_eq_true, if_false]
    refine ⟨_, rfl, x, C, dx, _, _, rfl, hx, TC.cl, TC.n_makings, kf_mak _ _ _, md, rfl, .inl ⟨kvs, .inl hd⟩, _, rfl, Nat.zero_le _, fun p np => ?_⟩
    have s1 : Same H (upd H p (.tup [])) := same_new (Same.refl H) np
    have hd1 := s1 _ _ hd
    rcases hM.get z with ⟨e1, e2⟩ | ⟨ps, a, e1, e2, e3⟩
    · refine ⟨none, .inl ⟨kvs, Sum.inr z, .inl hd1, rfl, e2.symm⟩, ?_⟩
      exact q p _ s1 (.inr ⟨e1, upd_same⟩)
    · refine ⟨some (.ref a), .inl ⟨kvs, Sum.inr z, .inl hd1, rfl, e2.symm⟩, ?_⟩
      exact q a _ s1 (.inl ⟨ps, e1, e3.mono s1⟩)
def spKLen (C : Addr) : Sp := fun vs H Q _ => ∃ (x md : Addr) (leaf : Str) (M : Mak) (ns : List Str), vs = [V.ref x] ∧ KindsAt C H x md leaf M ns ∧ Q (.int (ns.length : Nat)) H
theorem ok_klen {C f : Addr} {fd : FuncData} (F : Fun K "__len__" "Kinds.__len__" s_Kinds_len f fd) (T : Top K mg) (TC : Cl_Kinds K mg C) : FnOk P w K mg base CX0 1 f fd ["self"] (spKLen C) := by
  refine F.ok sc_Kinds_len (fun vs H Q E h => ?_) (fun cdv A outer s H vs Q E hr h => ?_)
  · obtain ⟨x, md, leaf, M, ns, rfl, _⟩ := h
    rfl
  · obtain ⟨x, md, leaf, M, ns, rfl, ⟨dx, nt, kvs, hx, hd, hM, hn⟩, q⟩ := h
    refine ⟨_, pss_one (ps_ret (pe_callB call_len_seq (by rfl) T.b_len PySem.boot_len (pa_cons (pe_fld (pv 0) rfl) pa_nil))), ?_⟩
    refine ⟨_, rfl, x, C, dx, _, _, rfl, hx, TC.cl, TC.n_names, kf_names _ _ _, nt, _, rfl, .inr (.inl (.inl hn)), ?_⟩
    rw [List.length_map]
    exact q
def strK (n : Nat) (leaf : Str) : Str := ((toString (n : Int) : Str) ++ " kinds, leaf ") ++ leaf
theorem strK_len {n : Nat} (h : n ≤ 6) : ((toString (n : Int) : Str)).length ≤ 8 := by
  have e : (List.range 7).all (fun n => decide (((toString (n : Int) : Str)).length ≤ 8)) = true := by decide +kernel
  exact of_decide_eq_true (List.all_eq_true.mp e n (List.mem_range.mpr (by omega)))
theorem log_six {n : Nat} (h : n ≤ 6) : ((n : Int)).natAbs.log2 < 1920 := by
  have e : (List.range 7).all (fun n => decide (((n : Int)).natAbs.log2 < 1920)) = true := by decide +kernel
  exact of_decide_eq_true (List.all_eq_true.mp e n (List.mem_range.mpr (by omega)))
def spKStr (C : Addr) : Sp := fun vs H Q _ => ∃ (x md : Addr) (leaf : Str) (M : Mak) (ns : List Str), vs = [V.ref x] ∧ KindsAt C H x md leaf M ns ∧ ns.length ≤ 6 ∧ leaf.length ≤ 8 ∧ Q (.str (strK ns.length leaf)) H
theorem ok_kstr {C f : Addr} {fd : FuncData} (F : Fun K "__str__" "Kinds.__str__" s_Kinds_str f fd) (T : Top K mg) (TC : Cl_Kinds K mg C) : FnOk P w K mg base CX0 1 f fd ["self"] (spKStr C) := by
  refine F.ok sc_Kinds_str (fun vs H Q E h => ?_) (fun cdv A outer s H vs Q E hr h => ?_)
  · obtain ⟨x, md, leaf, M, ns, rfl, _⟩ := h
    rfl
  · obtain ⟨x, md, leaf, M, ns, rfl, ⟨dx, nt, kvs, hx, hd, hM, hn⟩, l6, l8, q⟩ := h
    refine ⟨_, pss_one (ps_ret (pe_joinedN (.cons (pe_fmt (pe_callB call_len_seq (by rfl) T.b_len PySem.boot_len (pa_cons (pe_fld (pv 0) rfl) pa_nil))) (.cons pe_str (.cons (pe_fmt (pe_fld (pv 0) rfl)) .nil))))), ?_⟩
    refine ⟨_, rfl, x, C, dx, _, _, rfl, hx, TC.cl, TC.n_names, kf_names _ _ _, nt, _, rfl, .inr (.inl (.inl hn)), .inr ⟨(ns.length : Int), by rw [List.length_map], log_six l6, ?_⟩⟩
    have k14 : (" kinds, leaf " : Str).length = 13 := rfl
    have big : 1000 ≤ sizeLine := by decide
    have e8 := strK_len l6
    refine ⟨_, rfl, by rw [empty_app]; omega, _, rfl, by rw [empty_app, len_app]; omega, _, rfl, x, C, dx, _, _, rfl, hx, TC.cl, TC.n_leaf, kf_leaf _ _ _, .inl ⟨leaf, rfl, by omega, _, rfl, by rw [empty_app, len_app, len_app]; omega, ?_⟩⟩
    rw [empty_app]
    exact q
end
end Kl

set_option maxRecDepth 100000
set_option maxHeartbeats 4000000
namespace Kl
open PySem PySem.Spec PyProof.Rows L2 Gx Mx
/-! ### equal makings -/
def eqB (M N : Mak) : Bool := M.length == N.length && M.all fun m => decide (lookM N m.1 = some m.2)
theorem sub_back : ∀ {xs ys : List Str}, xs.Nodup → (∀ z ∈ xs, z ∈ ys) → ys.length ≤ xs.length → ∀ z ∈ ys, z ∈ xs
  | [], ys, _, _, hl, z, hz => by
    have e : ys = [] := List.eq_nil_of_length_eq_zero (Nat.le_zero.mp hl)
    rw [e] at hz
    exact hz
  | x :: xs, ys, nd, hs, hl, z, hz => by
    have nd' := List.nodup_cons.mp nd
    have hx : x ∈ ys := hs x List.mem_cons_self
    by_cases e : z = x
    · rw [e]
      exact List.mem_cons_self
    · refine List.mem_cons_of_mem _ (sub_back nd'.2 (ys := ys.erase x) (fun y hy => ?_) ?_ z ((List.mem_erase_of_ne e).mpr hz))
      · exact (List.mem_erase_of_ne (fun q => nd'.1 (by rw [← q]; exact hy))).mpr (hs y (List.mem_cons_of_mem _ hy))
      · rw [List.length_erase_of_mem hx]
        rw [List.length_cons] at hl
        omega
theorem eqB_iff {M N : Mak} (hM : (keysOf M).Nodup) (hN : (keysOf N).Nodup) : eqB M N = true ↔ ∀ z, lookM M z = lookM N z := by
  unfold eqB
  rw [Bool.and_eq_true, beq_iff_eq, List.all_eq_true]
  constructor
  · rintro ⟨hl, ha⟩ z
    have sub : ∀ z ∈ keysOf M, z ∈ keysOf N := fun z hz => by
      obtain ⟨m, hm, rfl⟩ := List.mem_map.mp hz
      exact List.mem_map.mpr ⟨(m.1, m.2), lookM_some (of_decide_eq_true (ha m hm)), rfl⟩
    have back := sub_back hM sub (by unfold keysOf; rw [List.length_map, List.length_map]; omega)
    by_cases hz : z ∈ keysOf M
    · obtain ⟨m, hm, rfl⟩ := List.mem_map.mp hz
      rw [lookM_mem hM hm, of_decide_eq_true (ha m hm)]
    · rw [lookM_none.mpr hz, lookM_none.mpr fun q => hz (back z q)]
  · intro h
    have k : ∀ z, z ∈ keysOf M ↔ z ∈ keysOf N := fun z => by
      constructor
      · intro q
        obtain ⟨ps, e⟩ := lookM_in q
        rw [h] at e
        exact List.mem_map.mpr ⟨_, lookM_some e, rfl⟩
      · intro q
        obtain ⟨ps, e⟩ := lookM_in q
        rw [← h] at e
        exact List.mem_map.mpr ⟨_, lookM_some e, rfl⟩
    refine ⟨?_, fun m hm => decide_eq_true ((h m.1).symm.trans (lookM_mem hM hm))⟩
    have := ((List.perm_ext_iff_of_nodup hM hN).mpr k).length_eq
    unfold keysOf at this
    rwa [List.length_map, List.length_map] at this
theorem eqB_ord {M M' N N' : Mak} (hM : (keysOf M).Nodup) (hN : (keysOf N).Nodup) (o : OrdOf M M') (o' : OrdOf N N') : eqB M' N' = eqB M N := by
  rw [Bool.eq_iff_iff, eqB_iff o.nd o'.nd, eqB_iff hM hN]
  constructor
  · intro h z
    rw [← o.look, ← o'.look]
    exact h z
  · intro h z
    rw [o.look, o'.look]
    exact h z
theorem hits {K : PySem.W.Frag} {H : Hp} {ls : List (Key × V)} {N : Mak} (hN : MakAt H ls N) : ∀ {ks : List (Key × V)} {M : Mak}, MakAt H ks M → M.length ≤ 1000 → (∀ m ∈ M, SeqAt.shaped (.tuple (tD m.2)) = true) → (∀ m ∈ N, SeqAt.shaped (.tuple (tD m.2)) = true) →
    HitsV K H ls ks (M.all fun m => decide (lookM N m.1 = some m.2))
  | _, _, .nil, _, _, _ => .nil
  | kv :: ks, m :: M, .cons h t, hl, hs, hs' => by
    obtain ⟨h1, a, h2, h3⟩ := h
    have ih := hits (K := K) hN t (by rw [List.length_cons] at hl; omega) (fun m hm => hs m (List.mem_cons_of_mem _ hm)) hs'
    rw [List.all_cons]
    rcases hN.get m.1 with ⟨e1, e2⟩ | ⟨ps, b, e1, e2, e3⟩
    · rw [e1, show decide ((none : Option (List Str)) = some m.2) = false from rfl, Bool.false_and]
      exact .miss (by rw [h1]; exact e2)
    · have e : decide (lookM N m.1 = some m.2) = PyData.eqv (.tuple (tD m.2)) (.tuple (tD ps)) := by
        rw [PyData.eqv, eqv_texts, e1, Bool.eq_iff_iff, decide_eq_true_eq, decide_eq_true_eq]
        constructor
        · intro q
          exact (Option.some.inj q).symm
        · intro q
          rw [q]
      rw [e]
      exact .hit (by rw [h1]; exact e2) (by rw [h2]; exact .tup h3.sq (dp_texts _)) (.tup e3.sq (dp_texts _)) (hs m List.mem_cons_self) (hs' (m.1, ps) (lookM_some e1)) ih
section
variable {P : Program} {w : World} {K : PySem.W.Frag} {mg : Str → Option Value} {base : Heap}
/-! ### == -/
theorem hu66_of {A : Around} {k : Nat} (hr : Room k A) : A.units + 66 < cLine := by
  have := hr.un
  omega
theorem texts_shaped : ∀ (zs : List Str), (∀ z ∈ zs, z ∈ POOL) → zs.length ≤ 3 → SeqAt.shaped (.tuple (tD zs)) = true
  | [], _, _ => by decide +kernel
  | [a], h, _ => by
    have e : POOL.all (fun a => SeqAt.shaped (.tuple (tD [a]))) = true := by decide +kernel
    exact List.all_eq_true.mp e a (h a List.mem_cons_self)
  | [a, b], h, _ => by
    have e : POOL.all (fun a => POOL.all fun b => SeqAt.shaped (.tuple (tD [a, b]))) = true := by decide +kernel
    exact List.all_eq_true.mp (List.all_eq_true.mp e a (h a (by simp))) b (h b (by simp))
  | [a, b, c], h, _ => by
    have e : POOL.all (fun a => POOL.all fun b => POOL.all fun c => SeqAt.shaped (.tuple (tD [a, b, c]))) = true := by decide +kernel
    exact List.all_eq_true.mp (List.all_eq_true.mp (List.all_eq_true.mp e a (h a (by simp))) b (h b (by simp))) c (h c (by simp))
  | a :: b :: c :: d :: r, _, hl => by simp at hl
theorem Vld.shaped {leaf : Str} {M : Mak} (v : Vld leaf M) : ∀ m ∈ M, SeqAt.shaped (.tuple (tD m.2)) = true := fun m hm =>
  texts_shaped m.2 (fun z hz => v.part hm hz) (v.parts m hm).2.2.1
def spKEq (K : PySem.W.Frag) (C : Addr) : Sp := fun vs H Q _ => ∃ (x md : Addr) (leaf : Str) (M : Mak) (ns : List Str) (y : V), vs = [V.ref x, y] ∧ KindsAt C H x md leaf M ns ∧ Vld leaf M ∧
  ((∃ (x' md' : Addr) (leaf' : Str) (N : Mak) (ns' : List Str), y = .ref x' ∧ KindsAt C H x' md' leaf' N ns' ∧ Vld leaf' N ∧ Q (.bl (decide (leaf = leaf') && eqB M N)) H) ∨
    ∃ t, TyX K H y t ∧ PySem.W.kitOne K t (.ref C) = some false ∧ Q (.bl false) H)
theorem ok_keq {C f : Addr} {fd : FuncData} (F : Fun K "__eq__" "Kinds.__eq__" s_Kinds_eq f fd) (T : Top K mg) (TC : Cl_Kinds K mg C) : FnOk P w K mg base CX0 1 f fd ["self", "other"] (spKEq K C) := by
  refine F.ok sc_Kinds_eq (fun vs H Q E h => ?_) (fun cdv A outer s H vs Q E hr h => ?_)
  · obtain ⟨x, md, leaf, M, ns, y, rfl, _⟩ := h
    rfl
  · obtain ⟨x, md, leaf, M, ns, y, rfl, ⟨dx, nt, kvs, hx, hd, hM, hn⟩, hV, q⟩ := h
    have hu := hu_of hr
    refine ⟨_, pss_one (ps_ret (pe_and (pe_callB call_isi (by rfl) T.b_isinstance (by decide +kernel) (pa_cons (pv 1) (pa_cons (pe_glob (v := .ref C) (by rfl) TC.gC rfl) pa_nil)))
      (pe_and (pe_cmpR op_eq (pe_fld (pv 0) rfl) (pe_fld (pv 1) rfl) (nomark _)) (pe_one (pe_cmpR (op_eqDX (hu66_of hr)) (pe_fld (pv 0) rfl) (pe_fld (pv 1) rfl) (nomark _)))))), ?_⟩
    rcases q with ⟨x', md', leaf', N, ns', rfl, ⟨dx', nt', kvs', hx', hd', hN, hn'⟩, hV', q⟩ | ⟨t, ty, kt, q⟩
    · refine ⟨_, rfl, _, _, .ref C, .ref C, true, rfl, .own C, .base (.ins hx' TC.cl TC.ca TC.cg TC.ct TC.ob), TC.kit, true, rfl, ?_⟩
      rw [if_pos rfl]
      refine ⟨_, rfl, x, C, dx, _, _, rfl, hx, TC.cl, TC.n_leaf, kf_leaf _ _ _, _, rfl, x', C, dx', _, _, rfl, hx', TC.cl, TC.n_leaf, kf_leaf _ _ _, rfl, _, rfl, ?_⟩
      have ed : decide (V.str leaf = V.str leaf') = decide (leaf = leaf') := by
        rw [Bool.eq_iff_iff, decide_eq_true_eq, decide_eq_true_eq]
        exact ⟨fun q => V.str.inj q, fun q => by rw [q]⟩
      rw [ed]
      by_cases e : leaf = leaf'
      · rw [decide_eq_true e, if_pos rfl]
        rw [decide_eq_true e, Bool.true_and] at q
        refine ⟨_, rfl, x, C, dx, _, _, rfl, hx, TC.cl, TC.n_makings, kf_mak _ _ _, _, rfl, x', C, dx', _, _, rfl, hx', TC.cl, TC.n_makings, kf_mak _ _ _, md, md', kvs, kvs', _, rfl, rfl, hd, hd', fun _ => hits hN hM (by have := hV.len; omega) hV.shaped hV'.shaped, ?_⟩
        rw [hM.len, hN.len]
        exact q
      · rw [decide_eq_false e] at q ⊢
        rw [if_neg (by decide)]
        exact q
    · refine ⟨_, rfl, _, _, t, .ref C, false, rfl, .own C, ty, kt, false, rfl, ?_⟩
      rw [if_neg (by decide)]
      exact q
end
end Kl

set_option maxRecDepth 100000
set_option maxHeartbeats 4000000
namespace Gx
open PySem PySem.Spec PyProof.Rows L2 SeqAt Mx
/-! ### a dict, and an instance, beside a text -/
section
variable {A : Around} {s : Shared}
theorem rc_dict_str {l : Addr} {ob : Obj} (b : Str) (u : Tok) (hl : s.heap.get? l = some ob) (hc : ob.cls = .type "dict") {es : Array DictEntry} {ep : Nat} (hde : ob.data = .dict es ep) (hu : A.units < cLine) : RcAt A s (.ref l) (.str b u) false := fun prog w E Q h => by
  obtain ⟨cls2, dd2, data2, sl2⟩ := ob
  simp only at hc hde
  subst hc hde
  exact rc_eq_decline_or (k := false) ⟨_, hl, rfl⟩ (typeIs_str s b u) (by decide) F.sub_str_dict F.slot_dict_eq F.slot_str_eq_refl
    (fun _ hq => dict_eq_str ⟨_, hl, rfl⟩ hq)
    (fun _ hq => call_meets F.slot_str_eq_refl (typeIs_str s b u) F.entry_str_eq (F.args_str_eq_2 _ _) (str_eq_dict b u l dd2 sl2 es ep) ⟨hl, hq⟩)
    (fun _ hq => wpAny_of_eq (rfl : isSame (.ref l) (.str b u) = pure false) hq) (.inr hu) h
end
section
variable {X : Cx} {C : Addr} {k : Nat} {ps : List Str} {sp : Sp}
def rEqDS : R2 := fun x y H Q => ∃ a kvs z, x = .ref a ∧ y = .str z ∧ H a = some (.dK kvs) ∧ Q (.bl false) H
theorem op_eqDS (hu : X.A.units + 64 < cLine) : OpR X (compareOp .Eq) rEqDS := by
  intro pins s σ H x y v u Q I rx ry h
  obtain ⟨a, kvs, z, rfl, rfl, ea, q⟩ := h
  obtain rfl : v = Value.ref a := rx
  obtain ⟨t, rfl⟩ := (show ∃ t, u = Value.str z t from ry)
  obtain ⟨_, _, vs, _, hd⟩ := dk_of I.hok ea
  obtain ⟨ob, hb, hD⟩ := Heap.dictOf_iff.mp hd
  obtain ⟨es, ep, ex, ed, _⟩ := hD
  exact rc_dict_str z t hb ex.1 ed (by omega) _ _ _ _ ⟨.bl false, H, I, rfl, q⟩
theorem sub_str_own {K : PySem.W.Frag} {C : Addr} : PySem.W.subIn K (.type "str") (.ref C) = some false := by
  have e : fastBuiltinMro "str" = some [.type "str", .type "object"] := by decide +kernel
  show (fastBuiltinMro "str").map (·.contains (.ref C)) = some false
  rw [e]
  first
    | rfl
    | simp
def rEqMS (C : Addr) (sp : Sp) : R2 := fun x y H Q => ∃ a dx fs z, x = .ref a ∧ y = .str z ∧ H a = some (.ins C dx fs) ∧ sp [.ref a, y] H (fun v H' => ∃ b, v = .bl b ∧ Q (.bl b) H') E0
theorem op_eqMS (c : CalM X.prog X.w X.K X.mg X.base C "__eq__" k ps sp) (hr : Room k X.A) : OpR X (compareOp .Eq) (rEqMS C sp) := by
  intro pins s σ H x y v u Q I rx ry h
  obtain ⟨f, fd, F, me, b, _⟩ := c
  obtain ⟨a, dx, fs, z, rfl, rfl, ea, q⟩ := h
  obtain rfl : v = Value.ref a := rx
  obtain ⟨mA, O, _⟩ := ins_get I.hok ea
  obtain ⟨od, J, _⟩ := O.look
  obtain ⟨mm, hF⟩ := I.fr
  have lk : PySem.W.Looks (model X.prog X.w) s.heap (typeOf u) (.type "str") := by
    obtain ⟨t, rfl⟩ := (show ∃ t, u = Value.str z t from ry)
    exact PySem.W.looks_reads (Reads.str z t)
  have nf : PySem.W.notFirst X.K C (.type "str") = true := by simp [PySem.W.notFirst, sub_str_own]
  show wpAny _ _ (richCompare .Eq (.ref a) u) _ _ _
  refine PySem.W.cmp_K (op := .Eq) hr.units0 hF I.ok.mod.kin J lk nf me.at_ me.fn (wpAny_mono (run_below F hr rfl b I (.cons (rel_ref _) (.cons ry .nil)) q) (fun r s' z => ?_) fun _ _ e => e)
  obtain ⟨v', H', I', rv, t, rfl, q'⟩ := z
  cases rv
  exact ⟨.bl t, H', I', rfl, q'⟩
/-- an operator by one of two readings -/
theorem op_two {op : Value → Value → Sem Value} {r1 r2 : R2} (h1 : OpR X op r1) (h2 : OpR X op r2) : OpR X op (fun x y H Q => r1 x y H Q ∨ r2 x y H Q) := fun pins s σ H x y v u Q I rx ry h =>
  h.elim (h1 pins s σ H x y v u Q I rx ry) (h2 pins s σ H x y v u Q I rx ry)
/-- statements that are never reached -/
theorem pss_nv {b : List Stmt} : PSs X b (fun _ _ _ => False) := ⟨fun _ _ _ _ _ _ h => h.elim⟩
end
end Gx

set_option maxRecDepth 100000
set_option maxHeartbeats 4000000
namespace Gx
open PySem PySem.Spec PyProof.Rows L2
section
variable {P : Program} {w : World} {K : PySem.W.Frag} {mg : Str → Option Value} {base : Heap} {CX : CXT} {k : Nat} {f : Addr} {fd : FuncData} {ps : List Str} {sp sp' : Sp}
/-- what raises nothing keeps its promise where something may be raised -/
theorem fnOk_lift (F : FnOk P w K mg base CX0 k f fd ps sp) : FnOk P w K mg base CX k f fd ps sp :=
  ⟨F.len, fun A outer s H args us vs Q E hr he hb hv hs => codeAny_mono (F.run A outer s H args us vs Q E hr he hb hv hs) fun r s' h => by
    match r, h with
    | .error e, h => exact (show False from h).elim
    | .ok (.ret u), h => exact h⟩
end
end Gx
namespace Kl
open PySem PySem.Spec PyProof.Rows L2 Gx Mx
/-- a value that is no kinds -/
def NoK (K : PySem.W.Frag) (C : Addr) (H : Hp) (v : V) : Prop := ∃ t, TyX K H v t ∧ PySem.W.kitOne K t (.ref C) = some false
/-- a value that is no loose row -/
def BadL (K : PySem.W.Frag) (H : Hp) (v : V) : Prop := BadV K H v ∨ ∃ (p : Addr) (LL : List (Addr × List Str)), v = .ref p ∧ RowAt K H p LL ∧ Few (LL.map (·.2)) ∧ looseB (LL.map (·.2)) = false
theorem BadL.same {K : PySem.W.Frag} {H H' : Hp} {v : V} (s : Same H H') (h : BadL K H v) : BadL K H' v := by
  rcases h with h | ⟨p, LL, e, h1, h2, h3⟩
  · exact .inl (h.same s)
  · exact .inr ⟨p, LL, e, h1.same s, h2, h3⟩
abbrev XPR (K : PySem.W.Frag) (mg : Str → Option Value) (Co : Addr) : Prop := XPln K mg "InvalidRow" "ValueError.__new__" "ValueError.__init__" [.type "ValueError", .type "Exception", .type "BaseException", .type "object"] Co
abbrev XPK (K : PySem.W.Frag) (mg : Str → Option Value) (Co : Addr) : Prop := XPln K mg "InvalidKinds" "ValueError.__new__" "ValueError.__init__" [.type "ValueError", .type "Exception", .type "BaseException", .type "object"] Co
theorem dg_few {qs : List (List Str)} (h : ∀ q ∈ qs, goodB q = true) (i : Nat) : (dg qs i).length ≤ 20 := by
  unfold dg
  cases c : qs[i]? with
  | none => exact Nat.zero_le _
  | some q => exact good20 (h q (List.mem_of_getElem? c))
section
variable {P : Program} {w : World} {K : PySem.W.Frag} {mg : Str → Option Value} {base : Heap}
/-! ### what the functions of rows refuse -/
def spChkKE (K : PySem.W.Frag) (C Ck : Addr) : Sp := fun vs H Q E => ∃ v : V, vs = [v] ∧ NoK K C H v ∧ E (.ref Ck) none H
theorem ok_chkKE {C Ck f : Addr} {fd : FuncData} (F : Fun K "_check_kinds" "_check_kinds" s_check_kinds f fd) (T : Top K mg) (TC : Cl_Kinds K mg C) (XO : XPK K mg Ck) (XC : XCls K Ck) : FnOk P w K mg base (L2.CX P w) 1 f fd ["kinds"] (spChkKE K C Ck) := by
  refine F.okX sc_check_kinds (fun vs H Q E h => ?_) (fun cdv A outer s H vs Q E hr h => ?_)
  · obtain ⟨v, rfl, _⟩ := h
    rfl
  · obtain ⟨v, rfl, ⟨t, ht, hk⟩, q⟩ := h
    refine ⟨_, pss_one (ps_if (pt_not (pt_val (pe_callB call_isi (by rfl) T.b_isinstance (by decide +kernel) (pa_cons (pv 0) (pa_cons (pe_glob (v := .ref C) (by rfl) TC.gC rfl) pa_nil)))))
      (pss_one (ps_raise rfl (takes_of rfl rfl rfl rfl) (pmk_P PySem.F.excBase_ValueError XO XC (pa_cons pe_str pa_nil) (by rfl)))) pss_nil), ?_⟩
    refine ⟨_, rfl, _, _, t, .ref C, false, rfl, .own C, ht, hk, false, rfl, ?_⟩
    show (if (!false) = true then _ else _)
    rw [if_pos (by decide)]
    exact ⟨by show 1 ≤ 1000; omega, q⟩
def spChkKX (K : PySem.W.Frag) (C Ck : Addr) : Sp := fun vs H Q E => spChkKE K C Ck vs H Q E ∨ spChkK C vs H Q E
theorem ok_chkKX {C Ck f : Addr} {fd : FuncData} (F : Fun K "_check_kinds" "_check_kinds" s_check_kinds f fd) (T : Top K mg) (TC : Cl_Kinds K mg C) (XO : XPK K mg Ck) (XC : XCls K Ck) : FnOk P w K mg base (L2.CX P w) 1 f fd ["kinds"] (spChkKX K C Ck) :=
  FnOk.or (ok_chkKE F T TC XO XC) (fnOk_lift (ok_chkK F T TC))
def spChkLE (K : PySem.W.Frag) (Co : Addr) : Sp := fun vs H Q E => ∃ v : V, vs = [v] ∧ BadL K H v ∧ ∀ H', Same H H' → E (.ref Co) none H'
theorem ok_chkLE {Co f : Addr} {fd : FuncData} (F : Fun K "_check_loose" "_check_loose" s_check_loose f fd) (T : Top K mg) (XO : XPR K mg Co) (XC : XCls K Co) : FnOk P w K mg base (L2.CX P w) 7 f fd ["row"] (spChkLE K Co) := by
  have cl : Cal P w K mg base 6 "is_loose" ["value"] (spLooseA K) := T.d_is_loose.cal fun f fd F => ok_looseA F T
  refine F.okX sc_check_loose (fun vs H Q E h => ?_) (fun cdv A outer s H vs Q E hr h => ?_)
  · obtain ⟨v, rfl, _⟩ := h
    rfl
  · obtain ⟨v, rfl, hv, q⟩ := h
    refine ⟨_, pss_one (ps_if (pt_not (pt_val (pe_cal cl hr (by rfl) (pa_cons (pv 0) pa_nil)))) (pss_one (ps_raise rfl (takes_of rfl rfl rfl rfl) (pmk_P PySem.F.excBase_ValueError XO XC (pa_cons pe_str pa_nil) (by rfl)))) pss_nil), ?_⟩
    rcases hv with hbad | ⟨p, LL, rfl, hR, hF, hl⟩
    · refine ⟨_, rfl, .inl ⟨v, rfl, hbad, fun H1 s1 => ⟨_, rfl, ?_⟩⟩⟩
      show (if (!false) = true then _ else _)
      rw [if_pos (by decide)]
      exact ⟨by show 1 ≤ 1000; omega, q H1 s1⟩
    · refine ⟨_, rfl, .inr ⟨p, LL, rfl, hR, hF, fun H1 s1 => ⟨_, rfl, ?_⟩⟩⟩
      rw [hl]
      show (if (!false) = true then _ else _)
      rw [if_pos (by decide)]
      exact ⟨by show 1 ≤ 1000; omega, q H1 s1⟩
def spChkLX (K : PySem.W.Frag) (Co : Addr) : Sp := fun vs H Q E => spChkLE K Co vs H Q E ∨ spChkL K vs H Q E
theorem ok_chkLX {Co f : Addr} {fd : FuncData} (F : Fun K "_check_loose" "_check_loose" s_check_loose f fd) (T : Top K mg) (XO : XPR K mg Co) (XC : XCls K Co) : FnOk P w K mg base (L2.CX P w) 7 f fd ["row"] (spChkLX K Co) :=
  FnOk.or (ok_chkLE F T XO XC) (fnOk_lift (ok_chkL F T))
/-- is_row, keys_of: no kinds -/
def spNoK2 (K : PySem.W.Frag) (C Ck : Addr) : Sp := fun vs H Q E => ∃ v u : V, vs = [v, u] ∧ NoK K C H v ∧ E (.ref Ck) none H
theorem ok_rowE {C Ck f : Addr} {fd : FuncData} (F : Fun K "is_row" "is_row" s_is_row f fd) (T : Top K mg) (TC : Cl_Kinds K mg C) (XO : XPK K mg Ck) (XC : XCls K Ck) : FnOk P w K mg base (L2.CX P w) 2 f fd ["kinds", "value"] (spNoK2 K C Ck) := by
  have ck : CalY P w K mg base 1 "_check_kinds" ["kinds"] (spChkKX K C Ck) := T.d_check_kinds.calY fun f fd F => ok_chkKX F T TC XO XC
  refine F.okX sc_is_row (fun vs H Q E h => ?_) (fun cdv A outer s H vs Q E hr h => ?_)
  · obtain ⟨v, u, rfl, _⟩ := h
    rfl
  · obtain ⟨v, u, rfl, hv, q⟩ := h
    refine ⟨_, pss_cons (ps_expr (pe_calY ck hr (by rfl) (fun σ => passAt (takes_of rfl rfl rfl rfl) σ) (pa_cons (pv 0) pa_nil))) pss_nv, ?_⟩
    exact ⟨_, rfl, .inl ⟨v, rfl, hv, q⟩⟩
theorem ok_keysE {C Ck f : Addr} {fd : FuncData} (F : Fun K "keys_of" "keys_of" s_keys_of f fd) (T : Top K mg) (TC : Cl_Kinds K mg C) (XO : XPK K mg Ck) (XC : XCls K Ck) : FnOk P w K mg base (L2.CX P w) 2 f fd ["kinds", "row"] (spNoK2 K C Ck) := by
  have ck : CalY P w K mg base 1 "_check_kinds" ["kinds"] (spChkKX K C Ck) := T.d_check_kinds.calY fun f fd F => ok_chkKX F T TC XO XC
  refine F.okX sc_keys_of (fun vs H Q E h => ?_) (fun cdv A outer s H vs Q E hr h => ?_)
  · obtain ⟨v, u, rfl, _⟩ := h
    rfl
  · obtain ⟨v, u, rfl, hv, q⟩ := h
    refine ⟨_, pss_cons (ps_expr (pe_calY ck hr (by rfl) (fun σ => passAt (takes_of rfl rfl rfl rfl) σ) (pa_cons (pv 0) pa_nil))) pss_nv, ?_⟩
    exact ⟨_, rfl, .inl ⟨v, rfl, hv, q⟩⟩
/-- keys_of: no loose row -/
def spKeysE (K : PySem.W.Frag) (C Co : Addr) : Sp := fun vs H Q E => ∃ (x md : Addr) (leaf : Str) (M : Mak) (ns : List Str) (u : V), vs = [.ref x, u] ∧ KindsAt C H x md leaf M ns ∧ BadL K H u ∧ ∀ H', Same H H' → E (.ref Co) none H'
theorem ok_keysE2 {C Ck Co f : Addr} {fd : FuncData} (F : Fun K "keys_of" "keys_of" s_keys_of f fd) (T : Top K mg) (TC : Cl_Kinds K mg C) (XOk : XPK K mg Ck) (XCk : XCls K Ck) (XO : XPR K mg Co) (XC : XCls K Co) : FnOk P w K mg base (L2.CX P w) 8 f fd ["kinds", "row"] (spKeysE K C Co) := by
  have ck : CalY P w K mg base 7 "_check_kinds" ["kinds"] (spChkKX K C Ck) := (T.d_check_kinds.calY fun f fd F => ok_chkKX F T TC XOk XCk).up (by decide)
  have cc : CalY P w K mg base 7 "_check_loose" ["row"] (spChkLX K Co) := T.d_check_loose.calY fun f fd F => ok_chkLX F T XO XC
  refine F.okX sc_keys_of (fun vs H Q E h => ?_) (fun cdv A outer s H vs Q E hr h => ?_)
  · obtain ⟨x, md, leaf, M, ns, u, rfl, _⟩ := h
    rfl
  · obtain ⟨x, md, leaf, M, ns, u, rfl, hK, hv, q⟩ := h
    refine ⟨_, pss_cons (ps_expr (pe_calY ck hr (by rfl) (fun σ => passAt (takes_of rfl rfl rfl rfl) σ) (pa_cons (pv 0) pa_nil))) (pss_cons (ps_expr (pe_calY cc hr (by rfl) (fun σ => passAt (takes_of rfl rfl rfl rfl) σ) (pa_cons (pv 1) pa_nil))) pss_nv), ?_⟩
    exact ⟨_, rfl, .inr ⟨x, md, leaf, M, ns, rfl, hK, ⟨_, rfl, .inl ⟨u, rfl, hv, q⟩⟩⟩⟩
/-- write_row, trees_of: no loose row -/
theorem ok_wrE {Co f : Addr} {fd : FuncData} (F : Fun K "write_row" "write_row" s_write_row f fd) (T : Top K mg) (XO : XPR K mg Co) (XC : XCls K Co) : FnOk P w K mg base (L2.CX P w) 8 f fd ["row"] (spChkLE K Co) := by
  have cc : CalY P w K mg base 7 "_check_loose" ["row"] (spChkLX K Co) := T.d_check_loose.calY fun f fd F => ok_chkLX F T XO XC
  refine F.okX sc_write_row (fun vs H Q E h => ?_) (fun cdv A outer s H vs Q E hr h => ?_)
  · obtain ⟨u, rfl, _⟩ := h
    rfl
  · obtain ⟨u, rfl, hv, q⟩ := h
    refine ⟨_, pss_cons (ps_expr (pe_calY cc hr (by rfl) (fun σ => passAt (takes_of rfl rfl rfl rfl) σ) (pa_cons (pv 0) pa_nil))) pss_nv, ?_⟩
    exact ⟨_, rfl, .inl ⟨u, rfl, hv, q⟩⟩
theorem ok_treesE {Co f : Addr} {fd : FuncData} (F : Fun K "trees_of" "trees_of" s_trees_of f fd) (T : Top K mg) (XO : XPR K mg Co) (XC : XCls K Co) : FnOk P w K mg base (L2.CX P w) 8 f fd ["row"] (spChkLE K Co) := by
  have cc : CalY P w K mg base 7 "_check_loose" ["row"] (spChkLX K Co) := T.d_check_loose.calY fun f fd F => ok_chkLX F T XO XC
  refine F.okX sc_trees_of (fun vs H Q E h => ?_) (fun cdv A outer s H vs Q E hr h => ?_)
  · obtain ⟨u, rfl, _⟩ := h
    rfl
  · obtain ⟨u, rfl, hv, q⟩ := h
    refine ⟨_, pss_cons (ps_expr (pe_calY cc hr (by rfl) (fun σ => passAt (takes_of rfl rfl rfl rfl) σ) (pa_cons (pv 0) pa_nil))) pss_nv, ?_⟩
    exact ⟨_, rfl, .inl ⟨u, rfl, hv, q⟩⟩
/-- trimmed: no digits -/
def spTrimE (K : PySem.W.Frag) (Co : Addr) : Sp := fun vs H Q E => ∃ v : V, vs = [v] ∧ BadV K H v ∧ ∀ H', Same H H' → E (.ref Co) none H'
theorem ok_trimE {Co f : Addr} {fd : FuncData} (F : Fun K "trimmed" "trimmed" s_trimmed f fd) (T : Top K mg) (XO : XPR K mg Co) (XC : XCls K Co) : FnOk P w K mg base (L2.CX P w) 5 f fd ["digits"] (spTrimE K Co) := by
  have cd : Cal P w K mg base 4 "are_digits" ["value"] (spBad K) := T.d_are_digits.cal fun f fd F => ok_digB F T
  refine F.okX sc_trimmed (fun vs H Q E h => ?_) (fun cdv A outer s H vs Q E hr h => ?_)
  · obtain ⟨u, rfl, _⟩ := h
    rfl
  · obtain ⟨u, rfl, hv, q⟩ := h
    refine ⟨_, pss_cons (ps_if (pt_not (pt_val (pe_cal cd hr (by rfl) (pa_cons (pv 0) pa_nil)))) (pss_one (ps_raise rfl (takes_of rfl rfl rfl rfl) (pmk_P PySem.F.excBase_ValueError XO XC (pa_cons pe_str pa_nil) (by rfl)))) pss_nil) pss_nv, ?_⟩
    refine ⟨_, rfl, u, rfl, hv, fun H1 s1 => ⟨_, rfl, ?_⟩⟩
    show (if (!false) = true then _ else _)
    rw [if_pos (by decide)]
    exact ⟨by show 1 ≤ 1000; omega, q H1 s1⟩
/-- write_digit: no digit -/
def spWDE (K : PySem.W.Frag) (Co : Addr) : Sp := fun vs H Q E => ∃ v : V, vs = [v] ∧ SortArg K H v 20 false ∧ ∀ H', Same H H' → E (.ref Co) none H'
theorem ok_wdE {Co f : Addr} {fd : FuncData} (F : Fun K "write_digit" "write_digit" s_write_digit f fd) (T : Top K mg) (XO : XPR K mg Co) (XC : XCls K Co) : FnOk P w K mg base (L2.CX P w) 4 f fd ["digit"] (spWDE K Co) := by
  obtain ⟨tm, gm⟩ := T.g_LOOSE_DIGIT
  have cs : CalO P w K mg base 3 "is_sorted" ["value", "most"] 1 ["most"] (fun vs zs => vs ++ zs) (spSortA K) := T.d_is_sorted.calO fun f fd F => ok_sortA F T
  refine F.okX sc_write_digit (fun vs H Q E h => ?_) (fun cdv A outer s H vs Q E hr h => ?_)
  · obtain ⟨u, rfl, _⟩ := h
    rfl
  · obtain ⟨u, rfl, hv, q⟩ := h
    refine ⟨_, pss_cons (ps_if (pt_not (pt_val (pe_calO cs hr (by rfl) (pa_cons (pv 0) pa_nil) (pk_cons (pe_glob (v := .int 20) (by rfl) gm ⟨_, rfl⟩) pk_nil)))) (pss_one (ps_raise rfl (takes_of rfl rfl rfl rfl) (pmk_P PySem.F.excBase_ValueError XO XC (pa_cons pe_str pa_nil) (by rfl)))) pss_nil) pss_nv, ?_⟩
    refine ⟨_, rfl, rfl, rfl, u, 20, false, rfl, by decide, by decide, hv, fun H1 s1 => ⟨_, rfl, ?_⟩⟩
    show (if (!false) = true then _ else _)
    rw [if_pos (by decide)]
    exact ⟨by show 1 ≤ 1000; omega, q H1 s1⟩
/-- a value that is no text -/
def spNIE (K : PySem.W.Frag) : Sp := fun vs H Q _ => ∃ v : V, vs = [v, V.int 20] ∧ Not K H v "str" ∧ Q .non H
theorem ok_niE {f : Addr} {fd : FuncData} (F : Fun K "names_in" "names_in" s_names_in f fd) (T : Top K mg) : FnOk P w K mg base CX0 4 f fd ["text", "most"] (spNIE K) := by
  refine F.ok sc_names_in (fun vs H Q E h => ?_) (fun cdv A outer s H vs Q E hr h => ?_)
  · obtain ⟨v, rfl, _⟩ := h
    rfl
  · obtain ⟨v, rfl, ⟨t, ht, hk⟩, q⟩ := h
    refine ⟨_, pss_cons (ps_if (pt_not (pt_val (pe_callB call_isi (by rfl) T.b_isinstance (by decide +kernel) (pa_cons (pv 0) (pa_cons (pe_bltn (v := .ty "str") (by rfl) T.b_str (by decide +kernel) rfl) pa_nil))))) (pss_one (ps_ret pe_non)) pss_nil) pss_nv, ?_⟩
    refine ⟨_, rfl, _, .ty "str", t, .type "str", false, rfl, .ty _, ht, hk, false, rfl, ?_⟩
    show (if (!false) = true then _ else _)
    rw [if_pos (by decide)]
    exact q
def spRDE (K : PySem.W.Frag) (CP : Addr) : Sp := fun vs H Q E => ∃ v : V, vs = [v] ∧ Not K H v "str" ∧ ∀ dd H', Same H H' → H' dd = some (.xd [("number", .non)]) → E (.ref CP) (some dd) H'
theorem ok_rdE {CP fI f : Addr} {fd fdI : FuncData} (F : Fun K "read_digit" "read_digit" s_read_digit f fd) (T : Top K mg) (TX : XT_ParseError K mg CP fI) (FX : Fun K "__init__" "ParseError.__init__" s_ParseError_init fI fdI) :
    FnOk P w K mg base (L2.CX P w) 5 f fd ["text"] (spRDE K CP) := by
  obtain ⟨tm, gm⟩ := T.g_LOOSE_DIGIT
  have cn : CalO P w K mg base 4 "names_in" ["text", "most"] 1 ["most"] (fun vs zs => vs ++ zs) (spNIE K) := T.d_names_in.calO fun f fd F => ok_niE F T
  refine F.okX sc_read_digit (fun vs H Q E h => ?_) (fun cdv A outer s H vs Q E hr h => ?_)
  · obtain ⟨v, rfl, _⟩ := h
    rfl
  · obtain ⟨v, rfl, hv, q⟩ := h
    refine ⟨_, pss_cons (ps_set (i := 1) sc_read_digit.nd rfl (.inl rfl) (pe_calO cn hr (by rfl) (pa_cons (pv 0) pa_nil) (pk_cons (pe_glob (v := .int 20) (by rfl) gm ⟨_, rfl⟩) pk_nil)))
      (pss_cons (ps_if (pt_cmpR op_isN (pv 1) pe_non (nomark _)) (pss_one (ps_raiseX rfl PySem.F.excBase_ValueError TX (init_ParseError TX FX) hr (takes_of rfl rfl rfl rfl) (pa_cons pe_non pa_nil) (by rfl))) pss_nil)
      pss_nv), ?_⟩
    refine ⟨_, rfl, rfl, rfl, v, rfl, hv, ?_⟩
    refine ⟨_, rfl, rfl, _, rfl, ?_⟩
    show (if decide (V.non = V.non) = true then _ else _)
    rw [decide_eq_true rfl, if_pos rfl]
    exact ⟨.non, rfl, fun dd nd => q dd _ (same_new (Same.refl H) nd) upd_same⟩
/-- a value beside "-" -/
def TxtNo (K : PySem.W.Frag) (C : Addr) (H : Hp) (v : V) : Prop := Not K H v "str" ∧ ((∃ d, Dp K H v d ∧ SeqAt.shaped d = true ∧ ∀ z : Str, PyData.eqv d (.str z) = false) ∨ (∃ a kvs, v = .ref a ∧ H a = some (.dK kvs)) ∨ ∃ (x md : Addr) (leaf : Str) (M : Mak) (ns : List Str), v = .ref x ∧ KindsAt C H x md leaf M ns ∧ Vld leaf M)
def spWoE (K : PySem.W.Frag) : Sp := fun vs H Q _ => ∃ v : V, vs = [v] ∧ Not K H v "str" ∧ ∀ p H', Same H H' → H' p = some (.lst []) → Q (.ref p) H'
theorem ok_woE {f : Addr} {fd : FuncData} (F : Fun K "words_of" "words_of" s_words_of f fd) (T : Top K mg) : FnOk P w K mg base CX0 1 f fd ["line"] (spWoE K) := by
  refine F.ok sc_words_of (fun vs H Q E h => ?_) (fun cdv A outer s H vs Q E hr h => ?_)
  · obtain ⟨v, rfl, _⟩ := h
    rfl
  · obtain ⟨v, rfl, ⟨t, ht, hk⟩, q⟩ := h
    refine ⟨_, pss_one (ps_ret (pe_ifExp (pt_val (pe_callB call_isi (by rfl) T.b_isinstance (by decide +kernel) (pa_cons (pv 0) (pa_cons (pe_bltn (v := .ty "str") (by rfl) T.b_str (by decide +kernel) rfl) pa_nil)))) (pe_split (pv 0) pe_str) (pe_lst pa_nil))), ?_⟩
    refine ⟨_, rfl, _, .ty "str", t, .type "str", false, rfl, .ty _, ht, hk, false, rfl, ?_⟩
    show (if false = true then _ else _)
    rw [if_neg (by decide)]
    exact ⟨Nat.zero_le _, fun p np => q p _ (same_new (Same.refl H) np) upd_same⟩
def spRRE (K : PySem.W.Frag) (C CP : Addr) : Sp := fun vs H Q E => ∃ v : V, vs = [v] ∧ TxtNo K C H v ∧ ∀ dd H', Same H H' → H' dd = some (.xd [("number", .non)]) → E (.ref CP) (some dd) H'
theorem ok_rrE {C CP fI f : Addr} {fd fdI : FuncData} (F : Fun K "read_row" "read_row" s_read_row f fd) (T : Top K mg) (TC : Cl_Kinds K mg C) (TX : XT_ParseError K mg CP fI) (FX : Fun K "__init__" "ParseError.__init__" s_ParseError_init fI fdI) :
    FnOk P w K mg base (L2.CX P w) 7 f fd ["text"] (spRRE K C CP) := by
  obtain ⟨tm, gm⟩ := T.g_LOOSE_DIGIT
  have cn : CalO P w K mg base 6 "names_in" ["text", "most"] 1 ["most"] (fun vs zs => vs ++ zs) (spNIE K) := (T.d_names_in.calO fun f fd F => ok_niE F T).mono (by decide)
  have cw : Cal P w K mg base 6 "words_of" ["line"] (spWoE K) := (T.d_words_of.cal fun f fd F => ok_woE F T).mono (by decide)
  have cl : Cal P w K mg base 6 "is_loose" ["value"] (spLooseA K) := T.d_is_loose.cal fun f fd F => ok_looseA F T
  have kEq : CalM P w K mg base C "__eq__" 6 ["self", "other"] (spKEq K C) := (TC.m_eq.cal fun f fd F => ok_keq F T TC).mono (by decide)
  refine F.okX sc_read_row (fun vs H Q E h => ?_) (fun cdv A outer s H vs Q E hr h => ?_)
  · obtain ⟨v, rfl, _⟩ := h
    rfl
  · obtain ⟨v, rfl, ⟨hv, hv2⟩, q⟩ := h
    refine ⟨_, pss_cut (ps_if (pt_cmpR (op_two (op_eqD hr.units) (op_two (op_eqDS hr.units) (op_eqMS kEq hr))) (pv 0) pe_str (by rfl)) (pss_one (ps_ret (pe_tup pa_nil))) pss_nil)
      (pss_cons (ps_set (i := 1) sc_read_row.nd rfl (.inl rfl) (pe_callTy call_tuple_of (by rfl) T.b_tuple (by decide +kernel) (pa_cons
        (pe_lc (own := [("word", 2)]) (g := gName 2) (tt := tYes) rfl sc_read_row.nd (pi_list (pe_cal cw hr (by rfl) (pa_cons (pv 0) pa_nil)))
          (blkOk_by (N := NRR) (sc := defScope s_read_row) (by decide +kernel)) (fun _ _ _ _ _ => pg_name (i := 2) sc_read_row.nd rfl (.inl rfl)) (fun _ _ _ _ _ => pts_nil)
          (fun _ _ _ _ _ => pe_calO cn hr (by rfl) (pa_cons (pv 2) pa_nil) (pk_cons (pe_glob (v := .int 20) (by rfl) gm ⟨_, rfl⟩) pk_nil))) pa_nil)))
      (pss_cons (ps_if (PW.pt (pw_or (pt_not (pt_truth (pv 1) (fun _ => rfl))) (pw_or1 (pt_not (pt_val (pe_cal cl hr (by rfl) (pa_cons (pv 1) pa_nil))))))) (pss_one (ps_raiseX rfl PySem.F.excBase_ValueError TX (init_ParseError TX FX) hr (takes_of rfl rfl rfl rfl) (pa_cons pe_non pa_nil) (by rfl))) pss_nil)
      pss_nv)), ?_⟩
    refine ⟨fun σ' G => σ' = [some v, none, none] ∧ G = H, ?_, ?_⟩
    · rcases hv2 with ⟨d, hd, hs, he⟩ | ⟨a, kvs, rfl, ea⟩ | ⟨x, md, leaf, M, ns, rfl, hK, hV⟩
      · refine ⟨_, rfl, .inl ⟨d, .str "-", hd, .str "-", hs, by decide +kernel, ?_⟩⟩
        rw [he]
        exact ⟨_, rfl, rfl, rfl⟩
      · exact ⟨_, rfl, .inr (.inl ⟨a, kvs, "-", rfl, rfl, ea, _, rfl, rfl, rfl⟩)⟩
      · obtain ⟨dx, nt, kvs, hx, _⟩ := id hK
        exact ⟨_, rfl, .inr (.inr ⟨x, dx, _, "-", rfl, rfl, hx, x, md, leaf, M, ns, _, rfl, hK, hV, .inr ⟨_, .base (.str "-"), TC.kit_str, _, rfl, _, rfl, rfl, rfl⟩⟩)⟩
    rintro σ' G ⟨rfl, eG⟩
    have eG' := eG.symm
    subst eG'
    refine ⟨_, rfl, v, rfl, hv, fun l H1 s1 el => ?_⟩
    refine ⟨l, rfl, ⟨[], .inl (.inl el)⟩, fun D hD => ?_⟩
    refine lc_it (g := gName 2) (tt := tYes) (vs := [2]) (walk_list (K := K) (a := l) (xs := [])) (fun j G' => G' D = some (.lst []) ∧ Same H1 G')
      ⟨upd_same, same_new (Same.refl H1) hD⟩ (fun j G' _ h => .inl (.inl (h.2 _ _ el))) (fun j u Gx G' hj h hy => absurd hj (Nat.not_lt_zero _)) (fun G' h => ?_)
    obtain ⟨eD, sm⟩ := h
    refine ⟨D, [], rfl, .inl ⟨.inl (.inl eD), fun t nt => ?_⟩⟩
    have s2 := same_new (o := .tup []) (Same.refl G') nt
    refine ⟨_, rfl, false, .inr (.inl ⟨[], .inl (.inl upd_same), rfl⟩), ?_⟩
    show (if (!false) = true then _ else _)
    rw [if_pos (by decide)]
    show (if true = true then _ else _)
    rw [if_pos rfl]
    exact ⟨.non, rfl, fun dd nd => q dd _ (same_new (fun b o e => s2 _ _ (sm _ _ (s1 _ _ e))) nd) upd_same⟩
/-! ### added: what it refuses -/
def spAddE (K : PySem.W.Frag) (Co : Addr) : Sp := fun vs H Q E => ∃ v u : V, vs = [v, u] ∧ (∀ H', Same H H' → E (.ref Co) none H') ∧ (BadL K H v ∨ ∃ (p : Addr) (LL : List (Addr × List Str)), v = .ref p ∧ RowAt K H p LL ∧ Few (LL.map (·.2)) ∧ looseB (LL.map (·.2)) = true ∧ BadL K H u)
theorem ok_addE {Co f : Addr} {fd : FuncData} (F : Fun K "added" "added" s_added f fd) (T : Top K mg) (XO : XPR K mg Co) (XC : XCls K Co) : FnOk P w K mg base (L2.CX P w) 8 f fd ["one", "other"] (spAddE K Co) := by
  have cc : CalY P w K mg base 7 "_check_loose" ["row"] (spChkLX K Co) := T.d_check_loose.calY fun f fd F => ok_chkLX F T XO XC
  refine F.okX sc_added (fun vs H Q E h => ?_) (fun cdv A outer s H vs Q E hr h => ?_)
  · obtain ⟨v, u, rfl, _⟩ := h
    rfl
  · obtain ⟨v, u, rfl, q, h⟩ := h
    refine ⟨_, pss_cons (ps_expr (pe_calY cc hr (by rfl) (fun σ => passAt (takes_of rfl rfl rfl rfl) σ) (pa_cons (pv 0) pa_nil))) (pss_cons (ps_expr (pe_calY cc hr (by rfl) (fun σ => passAt (takes_of rfl rfl rfl rfl) σ) (pa_cons (pv 1) pa_nil))) pss_nv), ?_⟩
    rcases h with hv | ⟨p, LL, rfl, hR, hF, hL, hu⟩
    · exact ⟨_, rfl, .inl ⟨v, rfl, hv, q⟩⟩
    · exact ⟨_, rfl, .inr ⟨p, LL, rfl, hR, hF, hL, fun H1 s1 => ⟨_, rfl, .inl ⟨u, rfl, hu.same s1, fun H' s => q H' fun b o e => s _ _ (s1 _ _ e)⟩⟩⟩⟩
/-- a digit would have too many names -/
def spAddM (K : PySem.W.Frag) (Co : Addr) : Sp := fun vs H Q E => ∃ (p1 p2 : Addr) (L1 L2 : List (Addr × List Str)) (i0 : Nat), vs = [V.ref p1, V.ref p2] ∧ RowAt K H p1 L1 ∧ RowAt K H p2 L2 ∧ Few (L1.map (·.2)) ∧ Few (L2.map (·.2)) ∧ looseB (L1.map (·.2)) = true ∧ looseB (L2.map (·.2)) = true ∧
  20 < (dg (L1.map (·.2)) i0).length + (dg (L2.map (·.2)) i0).length ∧ ∀ H', Same H H' → E (.ref Co) none H'
theorem ok_addM {Co f : Addr} {fd : FuncData} (F : Fun K "added" "added" s_added f fd) (T : Top K mg) (XO : XPR K mg Co) (XC : XCls K Co) : FnOk P w K mg base (L2.CX P w) 8 f fd ["one", "other"] (spAddM K Co) := by
  have cc : Cal P w K mg base 7 "_check_loose" ["row"] (spChkL K) := T.d_check_loose.cal fun f fd F => ok_chkL F T
  have cl : Cal P w K mg base 7 "is_loose" ["value"] (spLoose K) := (T.d_is_loose.cal fun f fd F => ok_loose F T).mono (by decide)
  have cm : Cal P w K mg base 7 "merged" ["one", "other"] (spMerged K) := (T.d_merged.cal fun f fd F => ok_merged F T).mono (by decide)
  have cd : Cal P w K mg base 7 "digit_at" ["digits", "rank"] (spDigAt K) := (T.d_digit_at.cal fun f fd F => ok_digat F T).mono (by decide)
  refine F.okX sc_added (fun vs H Q E h => ?_) (fun cdv A outer s H vs Q E hr h => ?_)
  · obtain ⟨p1, p2, L1, L2, i0, rfl, _⟩ := h
    rfl
  · obtain ⟨p1, p2, L1, L2, i0, rfl, hR1, hR2, hF1, hF2, hL1, hL2, h21, q⟩ := h
    refine ⟨_, pss_cons (ps_expr (pe_cal cc hr (by rfl) (pa_cons (pv 0) pa_nil))) (pss_cons (ps_expr (pe_cal cc hr (by rfl) (pa_cons (pv 1) pa_nil)))
      (pss_cut (ps_set (i := 2) sc_added.nd rfl (.inl rfl) (pe_callB (call_max2 rfl) (by rfl) T.b_max (by decide +kernel) (pa_cons (pe_callB call_len_seq (by rfl) T.b_len PySem.boot_len (pa_cons (pv 0) pa_nil)) (pa_cons (pe_callB call_len_seq (by rfl) T.b_len PySem.boot_len (pa_cons (pv 1) pa_nil)) pa_nil))))
      (pss_cut (ps_set (i := 3) sc_added.nd rfl (.inl rfl) (pe_callTy call_tuple_of (by rfl) T.b_tuple (by decide +kernel) (pa_cons (pe_lc (own := [("rank", 4)]) (g := gName 4) (tt := tYes) rfl sc_added.nd (pi_range1 (by rfl) T.b_range (pa_cons (pv 2) pa_nil))
          (blkOk_by (N := NAD) (sc := defScope s_added) (by decide +kernel)) (fun _ _ _ _ _ => pg_name (i := 4) sc_added.nd rfl (.inl rfl)) (fun _ _ _ _ _ => pts_nil)
          (fun _ _ _ _ _ => pe_cal cm hr (by rfl) (pa_cons (pe_cal cd hr (by rfl) (pa_cons (pv 0) (pa_cons (pv 4) pa_nil))) (pa_cons (pe_cal cd hr (by rfl) (pa_cons (pv 1) (pa_cons (pv 4) pa_nil))) pa_nil)))) pa_nil)))
      (pss_cons (ps_if (pt_not (pt_val (pe_cal cl hr (by rfl) (pa_cons (pv 3) pa_nil)))) (pss_one (ps_raise rfl (takes_of rfl rfl rfl rfl) (pmk_P PySem.F.excBase_ValueError XO XC (pa_cons pe_str pa_nil) (by rfl)))) pss_nil)
      pss_nv)))), ?_⟩
    obtain ⟨m1, g1, t1⟩ := loose_facts hL1
    obtain ⟨m2, g2, t2⟩ := loose_facts hL2
    rw [List.length_map] at m1 m2
    have big : 100000 ≤ sizeLine := by decide
    have few2 : ∀ j, (dg (L1.map (·.2)) j).length + (dg (L2.map (·.2)) j).length ≤ 40 := fun j => by
      have h1 : (dg (L1.map (·.2)) j).length ≤ 20 := dg_few g1 j
      have h2 : (dg (L2.map (·.2)) j).length ≤ 20 := dg_few g2 j
      omega
    refine ⟨_, rfl, p1, L1, rfl, hR1, hF1, hL1, fun H1 s1 => ⟨_, rfl, p2, L2, rfl, hR2.same s1, hF2, hL2, fun H2 s2 => ?_⟩⟩
    have s02 : Same H H2 := fun b o e => s2 _ _ (s1 _ _ e)
    have hA := hR1.same s02
    have hB := hR2.same s02
    refine ⟨fun σ' G => σ' = [some (.ref p1), some (.ref p2), some (.int (max L1.length L2.length : Nat)), none, none] ∧ G = H2, ?_, ?_⟩
    · refine ⟨_, rfl, p1, _, rfl, .inr hA.e, _, rfl, p2, _, rfl, .inr hB.e, _, _, rfl, ?_, rfl⟩
      rw [List.length_map, List.length_map]
      exact congrArg (fun v => [some (V.ref p1), some (V.ref p2), some (V.int v), none, none]) (by split <;> omega)
    rintro σ' G ⟨rfl, eG⟩
    have eG' := eG.symm
    subst eG'
    refine ⟨fun σ' G => ∃ (p : Addr) (LL : List (Addr × List Str)), σ' = [some (.ref p1), some (.ref p2), some (.int (max L1.length L2.length : Nat)), some (.ref p), none] ∧ Same H2 G ∧ RowAt K G p LL ∧ IsSum (L1.map (·.2)) (L2.map (·.2)) (LL.map (·.2)), ?_, ?_⟩
    · refine ⟨_, rfl, _, rfl, by omega, by omega, fun D hD => ?_⟩
      rw [Int.toNat_natCast]
      refine lc_range (lo := 0) (fun j G => ∃ LL : List (Addr × List Str), G D = some (.lst (LL.map fun q => V.ref q.1)) ∧ TxtsAt K G LL ∧ LL.length = j ∧ (∀ i, i < j → (dg (LL.map (·.2)) i).Perm (dg (L1.map (·.2)) i ++ dg (L2.map (·.2)) i) ∧ sortedS (dg (LL.map (·.2)) i) = true) ∧ Same H2 G)
        ⟨[], upd_same, nofun, rfl, fun i hi => absurd hi (Nat.not_lt_zero _), same_new (Same.refl H2) hD⟩ (fun j G hj hP => ?_) (fun G hP => ?_)
      · obtain ⟨LL, eD, hT, lL, hP, sm⟩ := hP
        rw [show (0 : Int) + (j : Nat) = ((j : Nat) : Int) from Int.zero_add _]
        refine ⟨rfl, _, rfl, _, rfl, p1, L1, j, rfl, hA.same sm, fun a1 G1 u1 h1 => ⟨_, rfl, _, rfl, p2, L2, j, rfl, (hB.same sm).same u1, fun a2 G2 u2 h2 => ?_⟩⟩
        rw [dg_map] at h1 h2
        refine ⟨a1, a2, _, _, rfl, sqT_sm u2 h1, h2, by have := few2 j; omega, fun p zs G3 u3 hperm hs ep => ?_⟩
        have eD3 := u3 _ _ (u2 _ _ (u1 _ _ eD))
        refine ⟨_, eD3, ?_, LL ++ [(p, zs)], ?_, fun q hq => ?_, by rw [List.length_append, lL]; rfl, fun i hi => ?_, fun b o e => ?_⟩
        · rw [List.length_map]
          omega
        · rw [upd_same, List.map_append]
          rfl
        · rcases List.mem_append.mp hq with h | h
          · exact sqT_lst eD3 (sqT_sm u3 (sqT_sm u2 (sqT_sm u1 (hT q h))))
          · rw [List.mem_singleton.mp h]
            exact sqT_lst eD3 (.inl (.inl ep))
        · rw [List.map_append]
          by_cases c : i < j
          · have e : dg (LL.map (·.2) ++ [(p, zs)].map (·.2)) i = dg (LL.map (·.2)) i := by
              unfold dg
              rw [List.getElem?_append_left (by rw [List.length_map]; omega)]
            rw [e]
            exact hP i c
          · have ei : i = j := by omega
            subst ei
            have e : dg (LL.map (·.2) ++ [(p, zs)].map (·.2)) i = zs := by
              unfold dg
              rw [List.getElem?_append_right (by rw [List.length_map]; omega), List.length_map, lL, Nat.sub_self]
              rfl
            rw [e]
            exact ⟨hperm, hs⟩
        · rw [upd_ne (ne_of_none e hD)]
          exact u3 _ _ (u2 _ _ (u1 _ _ (sm _ _ e)))
      · obtain ⟨LL, eD, hT, lL, hP, sm⟩ := hP
        refine ⟨D, _, rfl, .inl ⟨.inl (.inl eD), fun tq ntq => ?_⟩⟩
        have u := same_new (o := .tup (LL.map fun q => V.ref q.1)) (Same.refl G) ntq
        refine ⟨tq, LL, rfl, fun b o e => u _ _ (sm _ _ e), ⟨.inl (.inl upd_same), fun q hq => sqT_sm u (hT q hq)⟩, ?_, fun i hi => ?_⟩
        · rw [List.length_map, List.length_map, List.length_map, lL]
        · rw [List.length_map, lL] at hi
          exact hP i hi
    rintro σ' G ⟨p, LL, rfl, sG, hR, hS⟩
    have hS1 := hS.1
    rw [List.length_map, List.length_map, List.length_map] at hS1
    have hi0 : i0 < (LL.map (·.2)).length := by
      rw [List.length_map]
      refine Nat.lt_of_not_le fun c => ?_
      have e1 : dg (L1.map (·.2)) i0 = [] := by
        unfold dg
        rw [List.getElem?_eq_none (by rw [List.length_map]; omega)]
        rfl
      have e2 : dg (L2.map (·.2)) i0 = [] := by
        unfold dg
        rw [List.getElem?_eq_none (by rw [List.length_map]; omega)]
        rfl
      rw [e1, e2] at h21
      exact absurd h21 (by decide)
    have hl0 : (dg (LL.map (·.2)) i0).length > 20 := by
      rw [(hS.2 i0 hi0).1.length_eq, List.length_append]
      exact h21
    have hL : looseB (LL.map (·.2)) = false := by
      cases c : looseB (LL.map (·.2)) with
      | false => rfl
      | true =>
        have := dg_few (loose_facts c).2.1 i0
        omega
    have hF : Few (LL.map (·.2)) := by
      refine ⟨by rw [List.length_map]; omega, fun q hq => ?_⟩
      obtain ⟨i, hi⟩ := List.getElem?_of_mem hq
      have hil := (List.getElem?_eq_some_iff.mp hi).1
      have e : dg (LL.map (·.2)) i = q := by
        unfold dg
        rw [hi]
        rfl
      obtain ⟨hp, _⟩ := hS.2 i hil
      rw [e] at hp
      refine ⟨by rw [hp.length_eq, List.length_append]; have := few2 i; omega, fun z hz => ?_⟩
      rcases List.mem_append.mp (hp.mem_iff.mp hz) with h | h
      · exact Nat.le_trans (name_len (dg_good g1 i z h)) (by decide)
      · exact Nat.le_trans (name_len (dg_good g2 i z h)) (by decide)
    refine ⟨_, rfl, p, LL, rfl, hR, hF, fun G' u => ⟨_, rfl, ?_⟩⟩
    rw [hL]
    show (if (!false) = true then _ else _)
    rw [if_pos (by decide)]
    exact ⟨by show 1 ≤ 1000; omega, q G' fun b o e => u _ _ (sG _ _ (s02 _ _ e))⟩
end
end Kl

set_option maxRecDepth 100000
set_option maxHeartbeats 4000000
/-! several clauses, some with a name for the error (one name for all), some without -/
namespace Gx
open PySem PySem.Spec PyProof.Rows L2
/-- what the clauses (all of one name, slot i) wish of an error of the body -/
def wMX (K : PySem.W.Frag) (i : Nat) (Wo : WX) (D : Ends) : List (Value × Bool × (Addr → Value → Option Addr → TS)) → WX
  | [] => Wo
  | (c, true, ts) :: r => fun ec ed σ H => ∃ b, PySem.W.exmOne K ec c = some b ∧ (b = true → ∀ ea, H ea = none → ts ea ec ed { nx := fun σ1 H1 => D.nx (σ1.set i none) H1, rt := D.rt, bk := fun σ1 H1 => D.bk (σ1.set i none) H1, ct := fun σ1 H1 => D.ct (σ1.set i none) H1 } (σ.set i (some (.ref ea))) H) ∧ (b = false → wMX K i Wo D r ec ed σ H)
  | (c, false, ts) :: r => fun ec ed σ H => ∃ b, PySem.W.exmOne K ec c = some b ∧ (b = true → ∀ ea, H ea = none → ts ea ec ed D σ H) ∧ (b = false → wMX K i Wo D r ec ed σ H)
inductive HdsX (X : Cx) (n : Str) : List ExceptHandler → List (Value × Bool × (Addr → Value → Option Addr → TS)) → Prop
  | nil : HdsX X n [] []
  | asn {x : Str} {c : Value} {ts : Addr → Value → Option Addr → TS} {b₀ : Stmt} {bs : List Stmt} {np ps : Pos} {hds : List ExceptHandler} {l : List (Value × Bool × (Addr → Value → Option Addr → TS))} (nm : Names X x c)
      (su : ∀ (ea : Addr) (eo : Obj) (ec : Value) (ed : Option Addr) (pn : List (Addr × Obj)), Zc ec ed eo → (∃ vs, eo.data = .fields vs) → PSs (X.suite ea ((ea, eo) :: pn)) (b₀ :: bs) (ts ea ec ed)) (r : HdsX X n hds l) :
      HdsX X n (.ExceptHandler (some (.Name x np)) (some n) (b₀ :: bs) ps :: hds) ((c, true, ts) :: l)
  | bare {x : Str} {c : Value} {ts : Addr → Value → Option Addr → TS} {b₀ : Stmt} {bs : List Stmt} {np ps : Pos} {hds : List ExceptHandler} {l : List (Value × Bool × (Addr → Value → Option Addr → TS))} (nm : Names X x c)
      (su : ∀ (ea : Addr) (eo : Obj) (ec : Value) (ed : Option Addr) (pn : List (Addr × Obj)), Zc ec ed eo → (∃ vs, eo.data = .fields vs) → PSs (X.suite ea ((ea, eo) :: pn)) (b₀ :: bs) (ts ea ec ed)) (r : HdsX X n hds l) :
      HdsX X n (.ExceptHandler (some (.Name x np)) none (b₀ :: bs) ps :: hds) ((c, false, ts) :: l)
section
variable {X : Cx} {n : Str} {i : Nat} {body : List Stmt} {h0 : ExceptHandler} {hds : List ExceptHandler} {l : List (Value × Bool × (Addr → Value → Option Addr → TS))} {pos : Pos} {tb : WX → TS} {Wo : WX}
theorem ps_try_mx (st : X.stack = X.env :: X.outer) (fr : X.env.frame = some X.env.locals) (nd : X.N.Nodup) (at_ : X.N[i]? = some n) (kl : X.env.kindOf n = some .local) (tk : Takes X Wo)
    (hb : ∀ (W : WX) (pn : List (Addr × Obj)) (xe : Value → Shared → Prop), Takes (X.tr pn xe) W → PassesOwn (model X.prog X.w) X.A X.env xe → PSs (X.tr pn xe) body (tb W))
    (hh : HdsX X n (h0 :: hds) l) : PS X (.Try body (h0 :: hds) [] [] pos) (fun D σ H => tb (wMX X.K i Wo D l) D σ H) := by
  refine ⟨fun pn0 s σ H D I0 wish => ?_⟩
  have okX := I0.ok
  have frs0 : X.A.frames = some (X.env :: X.outer) := by rw [okX.frames, st]
  have lc : Loc X.env.scope n := .inl kl
  refine wpAny_Try_except ?_
  refine wpAny_mono ((hb (wMX X.K i Wo D l) (X.pn ++ pn0) (fun e sa => wpAny (model X.prog X.w) X.A (noteFrame e X.env) (fun _ sb => wpAny (model X.prog X.w) X.A (setFlight e none) (fun _ sc =>
    wpAny (model X.prog X.w) X.A (handleBy e X.env (h0 :: hds)) (SP X pn0 D) X.xe sc) X.xe sb) X.xe sa) (fun u sz fly => ?_) PassesOwn.looking).run [] s σ H D (I0.toTry _) wish) (fun fl sz got => ?_) (fun _ _ z => z)
  · obtain ⟨ea, gb, si, pn1, σ1, H1, ec, ed, rfl, J0, nb, up, sky, na, eos, bare, w⟩ := fly
    have J1 : Inv X pn0 σ1 H1 si := J0.ofTry okX
    have sky1 : Sky gb (X.env :: X.outer) ea (Zc ec ed) X.env.locals sz.heap := by rw [← st]; exact sky
    show wpAny (model X.prog X.w) X.A (noteFrame (.ref ea) X.env) _ _ _
    refine Sky.land Zc.steady frs0 fr sky1 fun ha fa upa => ?_
    have Ja : Inv X pn0 σ1 H1 { sz with heap := ha } := J1.landed nb fa.1 (up.trans upa) eos bare
    obtain ⟨eo, ev, there, ze, de⟩ := fa.there
    have noFrame : ∀ {h : Heap} {o : Obj} {vs : Array Value}, h.FunFrames gb (X.env :: X.outer) → h.get? ea = some o → o.data = .fields vs → ea ∉ frs (X.env :: X.outer) := fun {h o vs} ff e dd hm => by
      obtain ⟨_, o1, e1, z⟩ := ff.mem hm
      rw [e] at e1
      cases e1
      exact z _ dd
    have nf := noFrame fa.2.2.1 there de
    have nL : ea ≠ X.env.locals := fun z => nf (List.mem_filterMap.mpr ⟨X.env, List.mem_cons_self, by rw [fr, z]⟩)
    have nF : ea ∉ X.fs := fun hm => by
      obtain ⟨e1, m1, q1⟩ := List.mem_filterMap.mp hm
      exact nf (List.mem_filterMap.mpr ⟨e1, List.mem_cons_of_mem _ m1, q1⟩)
    have Sa := Ja.suite there de na nL nF
    have each : ∀ {hs1 : List ExceptHandler} {l1 : List (Value × Bool × (Addr → Value → Option Addr → TS))}, HdsX X n hs1 l1 → wMX X.K i Wo D l1 ec ed σ1 H1 →
        wpAny (model X.prog X.w) X.A (handleBy (.ref ea) X.env hs1) (SP X pn0 D) X.xe { sz with heap := ha } := by
      intro hs1 l1 hk
      induction hk with
      | nil =>
        intro w1
        refine wpAny_handleBy_nil ?_
        obtain ⟨_, _, _, oe, vs, T, oT, ts1, he, hz, hd, h1, hr⟩ := id fa
        unfold PySem.passOn
        refine wpAny_bind (wpAny_field he hd h1 ?_)
        rw [if_neg (by simp : ¬ ((Value.ref T == Value.none) = true))]
        have on : wpAny (model X.prog X.w) X.A (setFlight (.ref ea) X.env.frame) (fun _ sd => wpAny (model X.prog X.w) X.A (throw (.ref ea) : Sem Flow) (SP X pn0 D) X.xe sd) X.xe { sz with heap := ha } := by
          rw [fr]
          refine HandSPX.setFlight_upZ fa fun hc fc upc => wpAny_throw (tk _ _ ?_)
          exact ⟨ea, gb, si, pn0, σ1, H1, ec, ed, rfl, J1, nb, (up.trans upa).trans upc, .inr (.inr (by rw [st]; exact fc)), na, eos, bare, w1⟩
        first | exact wpAny_bind (wpAny_pure (wpAny_bind on)) | exact wpAny_bind on
      | @asn x c ts b₀ bs np ps hds2 l2 nm su r ih =>
        intro w1
        obtain ⟨b, eb, yes, no⟩ := w1
        refine wpAny_handleBy_cons (codeAny_handlers_test ?_) (by intro q; cases q)
        have ty : PySem.W.Looks (model X.prog X.w) ha (typeOf (.ref ea)) ec := fun A Q E s k q => wpAny_typeOf_ref (k _ _ there) (by rw [ze.1]; exact q)
        have fits := PySem.W.exm_one (M := model X.prog X.w) (Ja.kIn) ty eb
        have named : ∀ {Q : Value → Shared → Prop} {E : Value → Shared → Prop}, Q c { sz with heap := ha } → wpAny (model X.prog X.w) (X.A.mark (some (.ref ea))) (eval (.Name x np) X.env) Q E { sz with heap := ha } := fun {Q E} q => by
          obtain ⟨g1, g2, m1 | ⟨m1, m2, m3⟩⟩ := nm
          · exact ld_glob (X := X.suite ea ((ea, eo) :: (X.pn ++ pn0))) Sa g1 m1 q g2
          · exact ld_blt (X := X.suite ea ((ea, eo) :: (X.pn ++ pn0))) Sa g1 m1 m2 q m3 g2
        refine named (fits.here ?_)
        cases b with
        | false =>
          show wpAny _ X.A (handleBy (.ref ea) X.env hds2) _ _ _
          exact ih (no rfl)
        | true =>
          refine codeAny_handlers_suite_as ?_
          refine HandSPX.lands_againZ fa fun hc fc upc => ?_
          have Jc : Inv X pn0 σ1 H1 { sz with heap := hc } := J1.landed nb fc.1 ((up.trans upa).trans upc) eos bare
          obtain ⟨eo2, ev2, there2, ze2, de2⟩ := fc.there
          have Sc := Jc.suite there2 de2 na nL nF
          refine store_ok (X := X.suite ea ((ea, eo2) :: (X.pn ++ pn0))) (v := .ref ea) Sc nd at_ lc rfl (fun se Se => ?_) (.inr kl)
          refine wpAny_mono ((su ea eo2 ec ed (X.pn ++ pn0) ze2 ⟨_, de2⟩).run [] se _ H1 _ Se (yes rfl ea na)) (fun fl sg got => ?_) (fun _ _ z => False.elim z)
          have gone : ∀ {σ6 : L2.St} {H6 : Hp} {Q : Shared → Prop}, Inv (X.suite ea ((ea, eo2) :: (X.pn ++ pn0))) [] σ6 H6 sg → (∀ s7, Inv X pn0 (σ6.set i none) H6 s7 → Q s7) →
              wpAny (model X.prog X.w) X.A (do bindName X.env n .none; unbindBehindTheSuite X.env n ps) (fun _ s7 => Q s7) X.xe sg := fun {σ6 H6 Q} S6 hq => gone_ok (S6.unsuite okX) nd at_ kl hq
          cases fl with
          | ret u =>
            obtain ⟨v6, σ6, H6, S6, r6, q6⟩ := got
            exact gone S6 fun _ J7 => ⟨_, _, _, J7, r6, q6⟩
          | next =>
            obtain ⟨σ6, H6, S6, q6⟩ := got
            exact gone S6 fun _ J7 => ⟨_, _, J7, q6⟩
          | brk =>
            obtain ⟨σ6, H6, S6, q6⟩ := got
            exact gone S6 fun _ J7 => ⟨_, _, J7, q6⟩
          | cont =>
            obtain ⟨σ6, H6, S6, q6⟩ := got
            exact gone S6 fun _ J7 => ⟨_, _, J7, q6⟩
      | @bare x c ts b₀ bs np ps hds2 l2 nm su r ih =>
        intro w1
        obtain ⟨b, eb, yes, no⟩ := w1
        refine wpAny_handleBy_cons (codeAny_handlers_test ?_) (by intro q; cases q)
        have ty : PySem.W.Looks (model X.prog X.w) ha (typeOf (.ref ea)) ec := fun A Q E s k q => wpAny_typeOf_ref (k _ _ there) (by rw [ze.1]; exact q)
        have fits := PySem.W.exm_one (M := model X.prog X.w) (Ja.kIn) ty eb
        have named : ∀ {Q : Value → Shared → Prop} {E : Value → Shared → Prop}, Q c { sz with heap := ha } → wpAny (model X.prog X.w) (X.A.mark (some (.ref ea))) (eval (.Name x np) X.env) Q E { sz with heap := ha } := fun {Q E} q => by
          obtain ⟨g1, g2, m1 | ⟨m1, m2, m3⟩⟩ := nm
          · exact ld_glob (X := X.suite ea ((ea, eo) :: (X.pn ++ pn0))) Sa g1 m1 q g2
          · exact ld_blt (X := X.suite ea ((ea, eo) :: (X.pn ++ pn0))) Sa g1 m1 m2 q m3 g2
        refine named (fits.here ?_)
        cases b with
        | false =>
          show wpAny _ X.A (handleBy (.ref ea) X.env hds2) _ _ _
          exact ih (no rfl)
        | true =>
          refine codeAny_handlers_suite ?_
          refine HandSPX.lands_againZ fa fun hc fc upc => ?_
          have Jc : Inv X pn0 σ1 H1 { sz with heap := hc } := J1.landed nb fc.1 ((up.trans upa).trans upc) eos bare
          obtain ⟨eo2, ev2, there2, ze2, de2⟩ := fc.there
          have Sc := Jc.suite there2 de2 na nL nF
          refine wpAny_mono ((su ea eo2 ec ed (X.pn ++ pn0) ze2 ⟨_, de2⟩).run [] _ _ H1 _ Sc (yes rfl ea na)) (fun fl sg got => ?_) (fun _ _ z => False.elim z)
          cases fl with
          | ret u =>
            obtain ⟨v6, σ6, H6, S6, r6, q6⟩ := got
            exact ⟨_, _, _, S6.unsuite okX, r6, q6⟩
          | next =>
            obtain ⟨σ6, H6, S6, q6⟩ := got
            exact ⟨_, _, S6.unsuite okX, q6⟩
          | brk =>
            obtain ⟨σ6, H6, S6, q6⟩ := got
            exact ⟨_, _, S6.unsuite okX, q6⟩
          | cont =>
            obtain ⟨σ6, H6, S6, q6⟩ := got
            exact ⟨_, _, S6.unsuite okX, q6⟩
    exact each hh w
  · cases fl with
    | ret u =>
      obtain ⟨v, σ1, H1, J1, r, q⟩ := got
      exact ⟨v, σ1, H1, J1.ofTry okX, r, q⟩
    | next =>
      obtain ⟨σ1, H1, J1, q⟩ := got
      exact wpAny_execs_nil ⟨σ1, H1, J1.ofTry okX, q⟩
    | brk =>
      obtain ⟨σ1, H1, J1, q⟩ := got
      exact ⟨σ1, H1, J1.ofTry okX, q⟩
    | cont =>
      obtain ⟨σ1, H1, J1, q⟩ := got
      exact ⟨σ1, H1, J1.ofTry okX, q⟩
end
end Gx

set_option maxRecDepth 100000
set_option maxHeartbeats 4000000
/-! ### repr of data, the text named: no two long texts are ever compared -/
namespace Gx
open PySem PySem.Spec PyProof.Rows L2
section
variable {X : Cx}
def rReprE (K : PySem.W.Frag) : List V → Hp → VK → Prop := fun xs H Q => ∃ (x : V) (d : PyData) (S : Str), xs = [x] ∧ Dp K H x d ∧ (d.showable = true ∧ d.hasDict = false ∧ d.depth ≤ 60 ∧ d.shown.length ≤ sizeLine) ∧ d.shown = S ∧ Q (.str S) H
theorem call_reprE (g : Gd X.A) (hu : X.A.units + 64 < cLine) : CallR X (.builtin "repr") (rReprE X.K) := by
  intro pins s σ H xs us Q I r h
  obtain ⟨x, d, S, e, hd, ⟨h1, h2, h3, h4⟩, rfl, q⟩ := h
  exact call_reprD g hu pins s σ H xs us Q I r ⟨x, d, e, hd, h1, h2, h3, h4, q⟩
end
end Gx

set_option maxRecDepth 100000
set_option maxHeartbeats 4000000
/-! ### what stays while lambdas are made -/
namespace Gx
open PySem PySem.Spec PyProof.Rows L2
/-- all but the object at d and the tables stay -/
def ExtX (d : Addr) (H H' : Hp) : Prop := ∀ b o, b ≠ d → H b = some o → (∀ ps, o ≠ .tbl ps) → H' b = some o
theorem ExtX.refl (d : Addr) (H : Hp) : ExtX d H H := fun _ _ _ e _ => e
theorem ExtX.trans {d : Addr} {H H1 H2 : Hp} (a : ExtX d H H1) (b : ExtX d H1 H2) : ExtX d H H2 := fun c o n e t => b c o n (a c o n e t) t
theorem ExtX.ofN {d : Addr} {H H' : Hp} (s : LamX.ExtN H H') : ExtX d H H' := fun b o _ e t => s b o e t
theorem ExtX.of {d : Addr} {H H' : Hp} (s : Same H H') : ExtX d H H' := fun b o _ e _ => s b o e
end Gx
namespace Kl
open PySem PySem.Spec PyProof.Rows L2 Gx Mx LamX
theorem dice_exN {H H' : Hp} {d : Addr} (s : ExtN H H') (h : DiceAt H d) : DiceAt H' d := by
  obtain ⟨a, b, c, e⟩ := h
  exact ⟨a, b, c, s _ _ e fun _ => nofun⟩
theorem tabs_dice {Tb : List (Addr × Str)} {H H' : Hp} {d : Addr} (t : Tabs Tb H) (hd : DiceAt H d) (s : SameX d H H') : Tabs Tb H' := fun p hp => by
  obtain ⟨ps, h1, h2, h3⟩ := t p hp
  obtain ⟨a, b, c, e⟩ := hd
  refine ⟨ps, s _ _ (fun w => by rw [w, e] at h1; cases h1) h1, h2, fun pos cv hc => ?_⟩
  obtain ⟨c1, e1, e2⟩ := h3 pos cv hc
  exact ⟨c1, e1, s _ _ (fun w => by rw [w, e] at e2; cases (Option.some.inj e2)) e2⟩
theorem ext_ofX {d : Addr} {H H' : Hp} (s : SameX d H H') : ExtX d H H' := fun b o n e _ => s b o n e
/-- p is new since H (as far as what is no table tells) -/
def NewN (H : Hp) (p : Addr) : Prop := ∀ o, H p = some o → ¬ ∀ ps, o ≠ .tbl ps
theorem new_n {H H' : Hp} {p : Addr} (s : ExtN H H') (n : H' p = none) : NewN H p := fun o e t => by
  rw [s _ _ e t] at n
  cases n
theorem ext_lst {H G : Hp} {p : Addr} {o : HO} (s : ExtN H G) (n : NewN H p) : ExtN H (upd G p o) := fun b u e t => by
  by_cases c : b = p
  · rw [c] at e
    exact (n u e t).elim
  · rw [upd_ne c]
    exact s b u e t
theorem tabs_lst {Tb : List (Addr × Str)} {G : Hp} {p : Addr} {xs : List V} {o : HO} (t : Tabs Tb G) (e : G p = some (.lst xs)) : Tabs Tb (upd G p o) := fun q hq => by
  obtain ⟨ps, h1, h2, h3⟩ := t q hq
  refine ⟨ps, by rw [upd_ne (fun w => by rw [w, e] at h1; cases h1)]; exact h1, h2, fun pos cv hc => ?_⟩
  obtain ⟨c1, e1, e2⟩ := h3 pos cv hc
  exact ⟨c1, e1, by rw [upd_ne (fun w => by rw [w, e] at e2; cases (Option.some.inj e2))]; exact e2⟩
theorem ext_sm {H G G' : Hp} (a : ExtN H G) (s : Same G G') : ExtN H G' := a.trans (.of s)
theorem sqT_exN {K : PySem.W.Frag} {G G' : Hp} {a : Addr} {xs : List V} (s : ExtN G G') (h : SqT K G a xs) : SqT K G' a xs := by
  rcases h with (h | ⟨o, h⟩) | h
  · exact .inl (.inl (s _ _ h fun _ => nofun))
  · exact .inl (.inr ⟨o, s _ _ h fun _ => nofun⟩)
  · exact .inr h
theorem sqT_exX {K : PySem.W.Frag} {G G' : Hp} {d a : Addr} {xs : List V} (hd : DiceAt G d) (s : ExtX d G G') (h : SqT K G a xs) : SqT K G' a xs := by
  obtain ⟨p, q, r, e⟩ := hd
  rcases h with (h | ⟨o, h⟩) | h
  · exact .inl (.inl (s _ _ (fun z => by rw [z, e] at h; cases h) h fun _ => nofun))
  · exact .inl (.inr ⟨o, s _ _ (fun z => by rw [z, e] at h; cases h) h fun _ => nofun⟩)
  · exact .inr h
end Kl

set_option maxRecDepth 100000
set_option maxHeartbeats 4000000
namespace Gx
open PySem PySem.Spec PyProof.Rows L2
theorem call_reprEK {X : Cx} {K : PySem.W.Frag} (hk : X.K = K) (g : Gd X.A) (hu : X.A.units + 64 < cLine) : CallR X (.builtin "repr") (rReprE K) := by
  subst hk
  exact call_reprE g hu
end Gx
namespace Kl
open PySem PySem.Spec PyProof.Rows L2 Gx Mx LamX
/-- what all lambdas of k16 ask of the errors -/
structure Ers (K : PySem.W.Frag) (mg : Str → Option Value) (Ck Co CP fI : Addr) : Prop where
  XK : XPK K mg Ck
  CK : XCls K Ck
  ek : PySem.W.exmOne K (.ref Ck) (.ref Ck) = some true
  XO : XPR K mg Co
  CO : XCls K Co
  eo : PySem.W.exmOne K (.ref Co) (.ref Co) = some true
  TX : XT_ParseError K mg CP fI
  ok : PySem.W.exmOne K (.ref Co) (.ref Ck) = some false
  pk : PySem.W.exmOne K (.ref CP) (.ref Ck) = some false
  po : PySem.W.exmOne K (.ref CP) (.ref Co) = some false
section
variable {K : PySem.W.Frag}
/-! ### _law_word_of -/
/-- an error is caught with as many slots as there are names -/
theorem takes_len {X : Cx} {W : WX} (tk : Takes X W) : Takes X (fun cls d σ H => σ.length = X.N.length → W cls d σ H) := fun u s' h => by
  obtain ⟨a, B, si, p1, σ1, H1, ec, ed, e, J, nb, up, sky, na, os, bare, w⟩ := h
  exact tk u s' ⟨a, B, si, p1, σ1, H1, ec, ed, e, J, nb, up, sky, na, os, bare, w J.len⟩
/-- what it makes of the reading of the lambda -/
def TWord (Ck Co CP : Addr) : (XK → Hp → VK → Prop) → Hp → VK → Prop := fun tl H Q =>
  tl (fun cls d H' => (cls = .ref Ck ∧ Q (.str "kinds") H') ∨ (cls = .ref Co ∧ Q (.str "row") H') ∨ (cls = .ref CP ∧ ∃ dd : Addr, d = some dd ∧ H' dd = some (.xd [("number", .non)]) ∧ Q (.str "parse None") H')) H fun _ H' => Q (.str "fine") H'
theorem non_rp : PyData.none.showable = true ∧ PyData.none.hasDict = false ∧ PyData.none.depth ≤ 60 ∧ PyData.none.shown.length ≤ sizeLine := ⟨by decide +kernel, by decide +kernel, by decide +kernel, by decide +kernel⟩
theorem word_gives {X : Cx} {Ck Co CP fI g : Addr} {cdg : Value} {q : Str} {k : Nat} (T : Top X.K X.mg) (R : Ers X.K X.mg Ck Co CP fI) (hg : Gd X.A) (hr : Room (k + 1) X.A) :
    GivesTo X ["_law_call", "e"] "_law_word_of" (defScope s_law_word_of) g cdg (defBody s_law_word_of) "_law_call" q (TWord Ck Co CP) := by
  intro f c' s H Q tl act hc h
  have hr' := hr.deeper (envOfC "_law_word_of" (defScope s_law_word_of) s.heap.objs.size g cdg)
  refine ⟨_, pss_cons (ps_try_mx (X := (cxOf C8.CX0 X.prog X.w X.K X.mg X.base ["_law_call", "e"] "_law_word_of" (defScope s_law_word_of) g cdg X.A X.stack s H C8.E0).nox) (i := 1) (n := "e")
      (tb := fun W D σ H => ∃ Ech : XK, (∀ cls d σ' H', Ech cls d H' → σ'.length = 2 → W cls d σ' H') ∧ σ[0]? = some (some (.ref f)) ∧ H c' = some (CodeO c' q) ∧ tl Ech H fun _ H' => D.nx σ H')
      rfl rfl sc_law_word_of.nd rfl rfl takes_none5 (fun W pn xe tk _ => ?_)
      (.bare (c := .ref Ck) ⟨by rfl, by decide, .inl R.XK.gC⟩ (fun a oe cls d pn hz hf => pss_one (ps_ret pe_str))
        (.bare (c := .ref Co) ⟨by rfl, by decide, .inl R.XO.gC⟩ (fun a oe cls d pn hz hf => pss_one (ps_ret pe_str))
          (.asn (c := .ref CP) ⟨by rfl, by decide, .inl R.TX.gC⟩ (fun a oe cls d pn hz hf => pss_one (ps_ret (pe_op op_add_str pe_str (pe_callB (call_reprEK (K := X.K) (by rfl) (by exact hg) (by exact hr'.units)) (by rfl) T.b_repr (by decide +kernel) (pa_cons (pe_byX R.TX hz hf (pv 1)) pa_nil))))) .nil)))) (pss_one (ps_ret pe_str)), ?_⟩
  · refine ⟨fun pins s' σ H' D I h' => ?_⟩
    obtain ⟨Ech, hW, h1, h2, h3⟩ := h'
    exact (pss_one (ps_expr (act _ pn xe Ech _ _ (takes_len tk) hW))).run pins s' σ H' D I ⟨h1, h2, h3⟩
  · refine ⟨_, fun cls d σ' H' he hl => ?_, rfl, hc, h⟩
    obtain ⟨v0, v1, rfl⟩ : ∃ v0 v1, σ' = [v0, v1] := by
      match σ', hl with
      | [v0, v1], _ => exact ⟨v0, v1, rfl⟩
    rcases he with ⟨rfl, hq⟩ | ⟨rfl, hq⟩ | ⟨rfl, dd, rfl, e1, hq⟩
    · exact ⟨true, R.ek, fun _ ea na => hq, fun h => by cases h⟩
    · exact ⟨false, R.ok, (fun h => by cases h), fun _ => ⟨true, R.eo, fun _ ea na => hq, fun h => by cases h⟩⟩
    · refine ⟨false, R.pk, (fun h => by cases h), fun _ => ⟨false, R.po, (fun h => by cases h), fun _ => ⟨true, R.TX.te, fun _ ea na => ?_, fun h => by cases h⟩⟩⟩
      refine ⟨_, rfl, rfl, rfl, dd, .non, rfl, e1, .non, .none, _, rfl, .non, non_rp, rfl, _, _, rfl, rfl, by decide +kernel, ?_⟩
      exact hq
end
section
variable {X : Cx}
/-- _law_word_of(lambda: body) -/
theorem pe_w16 {Tb : List (Addr × Str)} {c P Ck Co CP fI : Addr} {k : Nat} {params : Arguments} {body : Expr} {scope : Scope} {t : XK → TE} {p lpos pos : Pos} (T : Top X.K X.mg) (R : Ers X.K X.mg Ck Co CP fI) (hgl : Gl X "_law_word_of") (hg : Gd X.A) (hr : Room (k + 2) X.A)
    (TB : TabB X.base X.mg c P) (hcode : X.env.code = .ref c) (hmT : (P, X.env.qual ++ "<lambda>") ∈ Tb) (hu : ∀ p ∈ Tb, p.1 = P → p.2 = X.env.qual ++ "<lambda>") (L : LamS X.env.scope scope) (hdef : defaultsOf params X.env = ([], []))
    (hbind : ∀ (q : Str) (cl : List (Str × Addr)) (pm cv ctv : Value), bindArgs (PySem.W.kla_fn "<lambda>" q params body scope cl pm cv ctv) ⟨[], []⟩ = pure [])
    (hbody : ∀ (A : Around) (outer : List Env) (s : Shared) (H : Hp) (E : XK) (f c' : Addr), Room k (A.deeper (lamEnv X scope s.heap.objs.size f c')) → PE (lamCx X A outer s H E scope f c') body (t E)) :
    PE X (.Call (.Name "_law_word_of" p) [.Lambda params body scope lpos] [] pos) (tLam Tb (TWord Ck Co CP) t) := by
  obtain ⟨g, fd, F, b, hm⟩ := T.d_law_word_of
  have kp := F.kp
  obtain ⟨oc, od, kV, doc, pm, an, cdv, ct, osl, rfl, lk, hcd⟩ := F.ex
  exact pe_lamcall (Ng := ["_law_call", "e"]) hgl hm kp lk hcd b sc_law_word_of rfl (.inl rfl) (word_gives T R hg hr) TB hcode hmT hu hr L hdef hbind hbody
end
end Kl

set_option maxRecDepth 100000
set_option maxHeartbeats 4000000
/-! the part of a heap that stays while lambdas are made and the dice are rolled; lists of values with one property -/
namespace Gx
open PySem PySem.Spec PyProof.Rows L2 LamX Kl
/-- all but the dice and the tables -/
def sub (d : Addr) (H : Hp) : Hp := fun b => if b = d then none else match H b with
  | some (.tbl _) => none
  | o => o
theorem sub_at {d b : Addr} {H : Hp} {o : HO} (n : b ≠ d) (e : H b = some o) (t : ∀ ps, o ≠ .tbl ps) : sub d H b = some o := by
  unfold sub
  rw [if_neg n, e]
  cases o with
  | tbl ps => exact absurd rfl (t ps)
  | _ => rfl
theorem sub_of {d b : Addr} {H : Hp} {o : HO} (e : sub d H b = some o) : b ≠ d ∧ H b = some o ∧ ∀ ps, o ≠ .tbl ps := by
  unfold sub at e
  split at e
  · cases e
  · rename_i n
    refine ⟨n, ?_⟩
    cases h : H b with
    | none => rw [h] at e; cases e
    | some u =>
      rw [h] at e
      cases u with
      | tbl ps => cases e
      | _ => cases e; exact ⟨rfl, nofun⟩
theorem sub_in {d : Addr} {H : Hp} : Same (sub d H) H := fun b o e => (sub_of e).2.1
theorem sub_exX {d : Addr} {H H' : Hp} (x : ExtX d H H') : Same (sub d H) (sub d H') := fun b o e => by
  obtain ⟨n, h, t⟩ := sub_of e
  exact sub_at n (x b o n h t) t
theorem sub_sm {d : Addr} {H H' : Hp} (s : Same H H') : Same (sub d H) (sub d H') := sub_exX (.of s)
theorem sub_keep {d : Addr} {H G G' : Hp} (s : Same (sub d H) G) (x : ExtX d G G') : Same (sub d H) G' := fun b o e => by
  obtain ⟨n, _, t⟩ := sub_of e
  exact x b o n (s b o e) t
theorem to_sub {d : Addr} {H : Hp} : ExtX d H (sub d H) := fun b o n e t => sub_at n e t
/-- a value with P comes of it, whatever is new -/
def Giv (N0 : Hp) (d : Addr) (P : Hp → V → Prop) (te : TE) (σ : L2.St) : Prop := ∀ (G : Hp) (Q : VK), Same N0 G → DiceAt G d → (∀ v G', Same G G' → P (sub d G') v → Q v G') → te σ G Q
def GivA (N0 : Hp) (d : Addr) (P : Hp → V → Prop) (n : Nat) (ta : TA) (σ : L2.St) : Prop := ∀ (G : Hp) (Q : List V → Hp → Prop), Same N0 G → DiceAt G d → (∀ vs G', Same G G' → vs.length = n → (∀ v ∈ vs, P (sub d G') v) → Q vs G') → ta σ G Q
theorem giv_nil {N0 : Hp} {d : Addr} {P : Hp → V → Prop} {σ : L2.St} : GivA N0 d P 0 tNil σ := fun G Q s hd k => k [] G (Same.refl G) rfl (fun v hv => nomatch hv)
theorem giv_cons {N0 : Hp} {d : Addr} {P : Hp → V → Prop} {σ : L2.St} {n : Nat} {te : TE} {ta : TA} (mono : ∀ {A B : Hp} {v : V}, Same A B → P A v → P B v) (h : Giv N0 d P te σ) (r : GivA N0 d P n ta σ) : GivA N0 d P (n + 1) (tCons te ta) σ := fun G Q s hd k => by
  refine h G _ s hd fun v G1 s1 p1 => r G1 _ (fun b o e => s1 _ _ (s b o e)) (dice_exN (.of s1) hd) fun vs G2 s2 l2 p2 => ?_
  refine k (v :: vs) G2 (fun b o e => s2 _ _ (s1 _ _ e)) (by rw [List.length_cons, l2]) fun u hu => ?_
  rcases List.mem_cons.mp hu with rfl | hu
  · exact mono (sub_sm s2) p1
  · exact p2 u hu
theorem giv_c {N0 : Hp} {d : Addr} {P : Hp → V → Prop} {σ : L2.St} {v : V} (h : ∀ A, P A v) : Giv N0 d P (tC v) σ := fun G Q s hd k => k v G (Same.refl G) (h _)
theorem giv_var {N0 : Hp} {d : Addr} {P : Hp → V → Prop} {σ : L2.St} {i : Nat} {v : V} (e : σ[i]? = some (some v)) (h : ∀ A, Same N0 A → P (sub d A) v) : Giv N0 d P (tVar i) σ := fun G Q s hd k => ⟨v, e, k v G (Same.refl G) (h G s)⟩
/-- one new object -/
theorem giv_one {N0 : Hp} {d : Addr} {P : Hp → V → Prop} {σ : L2.St} {te : TE} (o : HO) (ho : ∀ ps, o ≠ .tbl ps) (hte : ∀ (G : Hp) (Q : VK), (∀ p, G p = none → Q (.ref p) (upd G p o)) → te σ G Q) (hP : ∀ (A : Hp) (p : Addr), A p = some o → P A (.ref p)) : Giv N0 d P te σ := fun G Q s hd k => by
  refine hte G Q fun p np => k _ _ (same_new (Same.refl G) np) (hP _ p (sub_at (dice_ne hd np) upd_same ho))
/-- two -/
theorem giv_two {N0 : Hp} {d : Addr} {P : Hp → V → Prop} {σ : L2.St} {te : TE} (o : HO) (o2 : Addr → HO) (ho : ∀ ps, o ≠ .tbl ps) (ho2 : ∀ p ps, o2 p ≠ .tbl ps) (hte : ∀ (G : Hp) (Q : VK), (∀ p p2, G p = none → (upd G p o) p2 = none → Q (.ref p2) (upd (upd G p o) p2 (o2 p))) → te σ G Q)
    (hP : ∀ (A : Hp) (p p2 : Addr), A p = some o → A p2 = some (o2 p) → P A (.ref p2)) : Giv N0 d P te σ := fun G Q s hd k => by
  refine hte G Q fun p p2 np np2 => k _ _ (same_new (same_new (Same.refl G) np) np2) ?_
  have s2 := same_new (o := o2 p) (Same.refl (upd G p o)) np2
  have hd1 := dice_upd (o := o) hd (dice_ne hd np)
  exact hP _ p p2 (sub_at (dice_ne hd np) (s2 _ _ upd_same) ho) (sub_at (dice_ne hd1 np2) upd_same (ho2 p))
/-- three -/
theorem giv_three {N0 : Hp} {d : Addr} {P : Hp → V → Prop} {σ : L2.St} {te : TE} (o : HO) (o2 : Addr → HO) (o3 : Addr → Addr → HO) (ho : ∀ ps, o ≠ .tbl ps) (ho2 : ∀ p ps, o2 p ≠ .tbl ps) (ho3 : ∀ p q ps, o3 p q ≠ .tbl ps)
    (hte : ∀ (G : Hp) (Q : VK), (∀ p p2 p3, G p = none → (upd G p o) p2 = none → (upd (upd G p o) p2 (o2 p)) p3 = none → Q (.ref p3) (upd (upd (upd G p o) p2 (o2 p)) p3 (o3 p p2))) → te σ G Q)
    (hP : ∀ (A : Hp) (p p2 p3 : Addr), A p = some o → A p2 = some (o2 p) → A p3 = some (o3 p p2) → P A (.ref p3)) : Giv N0 d P te σ := fun G Q s hd k => by
  refine hte G Q fun p p2 p3 np np2 np3 => k _ _ (same_new (same_new (same_new (Same.refl G) np) np2) np3) ?_
  have hd1 := dice_upd (o := o) hd (dice_ne hd np)
  have n2 := dice_ne hd1 np2
  have hd2 := dice_upd (o := o2 p) hd1 n2
  have s2 := same_new (o := o2 p) (Same.refl (upd G p o)) np2
  have s3 := same_new (o := o3 p p2) (Same.refl (upd (upd G p o) p2 (o2 p))) np3
  exact hP _ p p2 p3 (sub_at (dice_ne hd np) (s3 _ _ (s2 _ _ upd_same)) ho) (sub_at n2 (s3 _ _ upd_same) (ho2 p)) (sub_at (dice_ne hd2 np3) upd_same (ho3 p p2))
/-- four -/
theorem giv_four {N0 : Hp} {d : Addr} {P : Hp → V → Prop} {σ : L2.St} {te : TE} (o : HO) (o2 : Addr → HO) (o3 : Addr → Addr → HO) (o4 : Addr → Addr → Addr → HO) (ho : ∀ ps, o ≠ .tbl ps) (ho2 : ∀ p ps, o2 p ≠ .tbl ps) (ho3 : ∀ p q ps, o3 p q ≠ .tbl ps) (ho4 : ∀ p q r ps, o4 p q r ≠ .tbl ps)
    (hte : ∀ (G : Hp) (Q : VK), (∀ p p2 p3 p4, G p = none → (upd G p o) p2 = none → (upd (upd G p o) p2 (o2 p)) p3 = none → (upd (upd (upd G p o) p2 (o2 p)) p3 (o3 p p2)) p4 = none → Q (.ref p4) (upd (upd (upd (upd G p o) p2 (o2 p)) p3 (o3 p p2)) p4 (o4 p p2 p3))) → te σ G Q)
    (hP : ∀ (A : Hp) (p p2 p3 p4 : Addr), A p = some o → A p2 = some (o2 p) → A p3 = some (o3 p p2) → A p4 = some (o4 p p2 p3) → P A (.ref p4)) : Giv N0 d P te σ := fun G Q s hd k => by
  refine hte G Q fun p p2 p3 p4 np np2 np3 np4 => k _ _ (same_new (same_new (same_new (same_new (Same.refl G) np) np2) np3) np4) ?_
  have hd1 := dice_upd (o := o) hd (dice_ne hd np)
  have n2 := dice_ne hd1 np2
  have hd2 := dice_upd (o := o2 p) hd1 n2
  have n3 := dice_ne hd2 np3
  have hd3 := dice_upd (o := o3 p p2) hd2 n3
  have s2 := same_new (o := o2 p) (Same.refl (upd G p o)) np2
  have s3 := same_new (o := o3 p p2) (Same.refl (upd (upd G p o) p2 (o2 p))) np3
  have s4 := same_new (o := o4 p p2 p3) (Same.refl (upd (upd (upd G p o) p2 (o2 p)) p3 (o3 p p2))) np4
  exact hP _ p p2 p3 p4 (sub_at (dice_ne hd np) (s4 _ _ (s3 _ _ (s2 _ _ upd_same))) ho) (sub_at n2 (s4 _ _ (s3 _ _ upd_same)) (ho2 p)) (sub_at n3 (s4 _ _ upd_same) (ho3 p p2)) (sub_at (dice_ne hd3 np4) upd_same (ho4 p p2 p3))
end Gx

set_option maxRecDepth 100000
set_option maxHeartbeats 4000000
namespace Gx
open PySem PySem.Spec PyProof.Rows L2
/-! data stay while nothing is changed -/
theorem sqT_st {K : PySem.W.Frag} {H H' : Hp} {a : Addr} {xs : List V} (s : ∀ b o, H b = some o → H' b = some o) (h : SqT K H a xs) : SqT K H' a xs := by
  rcases h with (h | ⟨o, h⟩) | h
  · exact .inl (.inl (s _ _ h))
  · exact .inl (.inr ⟨o, s _ _ h⟩)
  · exact .inr h
theorem sqL_st {K : PySem.W.Frag} {H H' : Hp} {a : Addr} {xs : List V} (s : ∀ b o, H b = some o → H' b = some o) (h : SqL K H a xs) : SqL K H' a xs := by
  rcases h with (h | ⟨o, h⟩) | h
  · exact .inl (.inl (s _ _ h))
  · exact .inl (.inr ⟨o, s _ _ h⟩)
  · exact .inr h
mutual
theorem dp_st {K : PySem.W.Frag} {H H' : Hp} (s : ∀ b o, H b = some o → H' b = some o) : ∀ (d : PyData) (v : V), Dp K H v d → Dp K H' v d
  | .none, _, h => by cases h; exact .non
  | .bool _, _, h => by cases h; exact .bl _
  | .int _, _, h => by cases h; exact .int _
  | .str _, _, h => by cases h; exact .str _
  | .list ds, _, h => by
    cases h with
    | lst e r => exact .lst (sqL_st s e) (dpAll_st s ds _ r)
  | .tuple ds, _, h => by
    cases h with
    | tup e r => exact .tup (sqT_st s e) (dpAll_st s ds _ r)
  | .dict _, _, h => by cases h
theorem dpAll_st {K : PySem.W.Frag} {H H' : Hp} (s : ∀ b o, H b = some o → H' b = some o) : ∀ (ds : List PyData) (vs : List V), DpAll K H vs ds → DpAll K H' vs ds
  | [], _, h => by cases h; exact .nil
  | d :: ds, _, h => by
    cases h with
    | cons a r => exact .cons (dp_st s d _ a) (dpAll_st s ds _ r)
end
theorem _root_.L2.Dp.st {K : PySem.W.Frag} {H H' : Hp} {v : V} {d : PyData} (h : Dp K H v d) (s : ∀ b o, H b = some o → H' b = some o) : Dp K H' v d := dp_st s d v h
theorem _root_.L2.DpAll.st {K : PySem.W.Frag} {H H' : Hp} {vs : List V} {ds : List PyData} (h : DpAll K H vs ds) (s : ∀ b o, H b = some o → H' b = some o) : DpAll K H' vs ds := dpAll_st s ds vs h
end Gx

set_option maxRecDepth 100000
/-! ### own rule: t * n, t a tuple that is not empty, n from 0 on, whichever object comes -/
namespace L2
open PySem PySem.Spec PyProof.Rows
set_option maxHeartbeats 4000000
theorem tuple_mul1 (l : Addr) (items : Array Value) (n : Nat) (dd : Option Addr) (sl : Array (Option Value)) (u : Tok) :
    Meets (Builtin.«tuple.__mul__» ⟨[.ref l, .int 1 u], []⟩) (fun _ R s => s.heap.get? l = some { cls := .type "tuple", dict := dd, data := .seq items n, slots := sl } ∧ R (.ok (.ret (.ref l))) s) :=
  .of_wp fun prog w A R s h => by
    obtain ⟨hp, g, d, tk, os⟩ := s
    obtain ⟨hl, h⟩ := h
    have f1 := AutoSeq1.idx_int
    wp_walk using wpAny_loadPart' hl
    repeat (first
      | (refine wpAny_ite_false (decide_eq_false (by decide)) ?_; wp_walk using wpAny_loadPart' hl)
      | (refine wpAny_ite_true (decide_eq_true (by simp)) ?_; wp_walk using wpAny_loadPart' hl))
    exact ⟨_, rfl, h⟩
theorem tuple_mul0 (l : Addr) (items : Array Value) (n : Nat) (dd : Option Addr) (sl : Array (Option Value)) (u : Tok) (c1 : items.isEmpty = false) :
    Meets (Builtin.«tuple.__mul__» ⟨[.ref l, .int 0 u], []⟩) (fun _ R s => s.heap.get? l = some { cls := .type "tuple", dict := dd, data := .seq items n, slots := sl } ∧
      R (.ok (.ret (.ref s.heap.objs.size))) { s with heap := s.heap.push { cls := .type "tuple", data := .seq #[] } }) :=
  .of_wp fun prog w A R s h => by
    obtain ⟨hp, g, d, tk, os⟩ := s
    obtain ⟨hl, h⟩ := h
    have f1 := AutoSeq1.idx_int
    wp_walk using wpAny_loadPart' hl
    repeat (first
      | (refine wpAny_ite_false (decide_eq_false (by decide)) ?_; wp_walk using wpAny_loadPart' hl)
      | (refine wpAny_ite_false (decide_eq_false (by rw [c1]; decide)) ?_; wp_walk using wpAny_loadPart' hl)
      | (refine wpAny_ite_true (decide_eq_true (by decide)) ?_; wp_walk using wpAny_loadPart' hl)
      | (refine wpAny_ite_true (decide_eq_true (by simp)) ?_; wp_walk using wpAny_loadPart' hl))
    exact ⟨_, rfl, h⟩
/-- t * k, 0 ≤ k: some object that holds t so many times -/
def rRepS (K : PySem.W.Frag) : R2 := fun x y H Q => ∃ (l : Addr) (k : Nat) (xs : List V), x = .ref l ∧ y = .int (k : Nat) ∧ SqT K H l xs ∧ xs ≠ [] ∧ k ≤ 1000 ∧ xs.length ≤ 1000 ∧ ∀ p G, Same H G → SqT K G p (List.replicate k xs).flatten → Q (.ref p) G
section
variable {X : Cx}
theorem op_repS : OpR X (binaryOp .Mult) (rRepS X.K) := by
  intro pins s σ H x y v u Q I rx ry h
  obtain ⟨l, k, xs, rfl, rfl, hT, hne, h1, hz, q⟩ := h
  by_cases c : 2 ≤ k
  · refine op_repT pins s σ H _ _ v u Q I rx ry ⟨l, _, xs, rfl, rfl, hT, hne, by omega, by omega, hz, fun p np => q p _ (fun b u e => by rw [upd_ne (fun z => by rw [z, np] at e; cases e)]; exact e) ?_⟩
    rw [Int.toNat_natCast]
    exact .inl (.inl upd_same)
  cases rx
  obtain ⟨t, rfl⟩ := ry
  obtain ⟨its, r, ⟨⟨cls, dd, data, sl⟩, ho, hc, n, hd⟩, hs⟩ := I.tuple hT
  simp only at hc hd
  subst hc hd
  have hn : its.toArray.isEmpty = false := by
    cases its with
    | nil => exact absurd (List.eq_nil_of_length_eq_zero (by rw [r.length]; rfl)) hne
    | cons a b => rfl
  by_cases c1 : k = 1
  · subst c1
    refine wpAny_binaryOp_repeat_ref (T := "tuple") (U := "int") (by decide) ⟨_, ho, rfl⟩ (fun s' => typeIs_int s' 1 t) noFill_tuple_mul F.fills_int_mul F.slot_int_rmul repeat_tuple F.slot_int_index.lookup
      (call_meets F.slot_int_rmul (typeIs_int s 1 t) F.entry_int_rmul (F.args_int_rmul_2 _ _) (int_rmul_tuple 1 t l its.toArray n dd sl)
        ⟨ho, rfl, ⟨_, ho, rfl⟩, call_meets F.slot_tuple_mul ⟨_, ho, rfl⟩ F.entry_tuple_mul (F.args_tuple_mul_2 _ _) (tuple_mul1 l its.toArray n dd sl t) ⟨ho, ?_⟩⟩)
    refine ⟨.ref l, H, I, rfl, q l H (Same.refl H) ?_⟩
    rw [List.replicate_one, List.flatten_singleton]
    exact hT
  · have c0 : k = 0 := by omega
    subst c0
    refine wpAny_binaryOp_repeat_ref (T := "tuple") (U := "int") (by decide) ⟨_, ho, rfl⟩ (fun s' => typeIs_int s' 0 t) noFill_tuple_mul F.fills_int_mul F.slot_int_rmul repeat_tuple F.slot_int_index.lookup
      (call_meets F.slot_int_rmul (typeIs_int s 0 t) F.entry_int_rmul (F.args_int_rmul_2 _ _) (int_rmul_tuple 0 t l its.toArray n dd sl)
        ⟨ho, rfl, ⟨_, ho, rfl⟩, call_meets F.slot_tuple_mul ⟨_, ho, rfl⟩ F.entry_tuple_mul (F.args_tuple_mul_2 _ _) (tuple_mul0 l its.toArray n dd sl t hn) ⟨ho, ?_⟩⟩)
    have hf := I.hok.fresh (Nat.le_refl s.heap.objs.size)
    refine ⟨.ref s.heap.objs.size, _, I.laid (t' := s.toks) (o := .tup []) (fun b ob e => Heap.get?_push_of_some _ e) (Nat.le_refl _) ?_, rfl, q _ _ (fun b u e => by rw [upd_ne (fun z => by rw [z, hf] at e; cases e)]; exact e) (.inl (.inl upd_same))⟩
    exact ⟨Nat.zero_le _, [], .nil, IsTup.new _ _⟩
end
end L2

set_option maxRecDepth 100000
set_option maxHeartbeats 4000000
namespace Kl
open PySem PySem.Spec PyProof.Rows L2 Gx Mx LamX
/-! ### the values that are refused -/
theorem KindsAt.exX {C : Addr} {H H' : Hp} {x md d : Addr} {leaf : Str} {M : Mak} {ns : List Str} (h : KindsAt C H x md leaf M ns) (s : ExtX d H H') (hd : DiceAt H d) : KindsAt C H' x md leaf M ns := by
  obtain ⟨dx, nt, kvs, h1, h2, h3, h4⟩ := h
  obtain ⟨a, b, c, e⟩ := hd
  have nd : ∀ {p : Addr} {o : HO}, H p = some o → (∀ xs, o ≠ .lst xs) → p ≠ d := fun h1 n w => by
    rw [w, e] at h1
    exact n _ (Option.some.inj h1).symm
  exact ⟨dx, nt, kvs, s _ _ (nd h1 fun _ => nofun) h1 (fun _ => nofun), s _ _ (nd h2 fun _ => nofun) h2 (fun _ => nofun), h3.same fun b xs q => q.at fun o e' => by
    obtain ⟨ob, dn, e2⟩ := q
    rw [e2] at e'
    cases e'
    exact s _ _ (nd e2 fun _ => nofun) e2 (fun _ => nofun), s _ _ (nd h4 fun _ => nofun) h4 (fun _ => nofun)⟩
section
variable {K : PySem.W.Frag} {A : Hp}
theorem notT_non : Not K A .non "tuple" := ⟨_, .base .non, kit_ty (by decide +kernel)⟩
theorem notT_int (i : Int) : Not K A (.int i) "tuple" := ⟨_, .base (.int i), kit_ty (by decide +kernel)⟩
theorem notT_bl (b : Bool) : Not K A (.bl b) "tuple" := ⟨_, .base (.bl b), kit_ty (by decide +kernel)⟩
theorem notT_str (z : Str) : Not K A (.str z) "tuple" := ⟨_, .base (.str z), kit_ty (by decide +kernel)⟩
theorem notT_lst {a : Addr} {xs : List V} (e : A a = some (.lst xs)) : Not K A (.ref a) "tuple" := ⟨_, .base (.lst e), kit_ty (by decide +kernel)⟩
theorem notT_dK {a : Addr} {kvs : List (Key × V)} (e : A a = some (.dK kvs)) : Not K A (.ref a) "tuple" := ⟨_, .base (.dK e), kit_ty (by decide +kernel)⟩
theorem notS_non : Not K A .non "str" := ⟨_, .base .non, kit_ty (by decide +kernel)⟩
theorem notS_int (i : Int) : Not K A (.int i) "str" := ⟨_, .base (.int i), kit_ty (by decide +kernel)⟩
theorem notS_bl (b : Bool) : Not K A (.bl b) "str" := ⟨_, .base (.bl b), kit_ty (by decide +kernel)⟩
theorem notS_lst {a : Addr} {xs : List V} (e : A a = some (.lst xs)) : Not K A (.ref a) "str" := ⟨_, .base (.lst e), kit_ty (by decide +kernel)⟩
theorem notS_tup {a : Addr} {xs : List V} (e : A a = some (.tup xs)) : Not K A (.ref a) "str" := ⟨_, .base (.tup e), kit_ty (by decide +kernel)⟩
theorem notS_dK {a : Addr} {kvs : List (Key × V)} (e : A a = some (.dK kvs)) : Not K A (.ref a) "str" := ⟨_, .base (.dK e), kit_ty (by decide +kernel)⟩
theorem na_no {v : V} (h : Not K A v "str") (n : ∀ z, v ≠ .str z) : NameArg K A v := .inr ⟨n, h⟩
theorem na_txt {z : Str} (h : z.length ≤ 1000) : NameArg K A (.str z) := .inl ⟨z, rfl, Nat.le_trans h (by decide)⟩
/-- a digit that is none, for every limit up to 20 -/
def BadD (K : PySem.W.Frag) (A : Hp) (v : V) : Prop := SortArg K A v 20 false ∧ SortArg K A v 3 false
theorem badD_not {v : V} (h : Not K A v "tuple") : BadD K A v := ⟨.inl ⟨h, rfl⟩, .inl ⟨h, rfl⟩⟩
theorem badD_tup {p : Addr} {xs : List V} (e : SqT K A p xs) (l : xs.length ≤ 1000) (hx : ∀ x ∈ xs, NameArg K A x) (hb : (decide ((xs.length : Int) ≤ 20) && sortB xs) = false) : BadD K A (.ref p) := by
  refine ⟨.inr ⟨p, xs, rfl, e, l, hx, hb.symm⟩, .inr ⟨p, xs, rfl, e, l, hx, ?_⟩⟩
  cases c : sortB xs with
  | false => rw [Bool.and_false]
  | true =>
    rw [c, Bool.and_true] at hb
    rw [Bool.and_true]
    have h : ¬ ((xs.length : Int) ≤ 20) := of_decide_eq_false hb
    exact (decide_eq_false (by omega)).symm
theorem BadD.same {A B : Hp} {v : V} (s : Same A B) (h : BadD K A v) : BadD K B v := ⟨h.1.same s, h.2.same s⟩
theorem badV_not {v : V} (h : Not K A v "tuple") : BadV K A v := .inl h
theorem badV_one {p : Addr} {x : V} (e : SqT K A p [x]) (h : SortArg K A x 20 false) : BadV K A (.ref p) := .inr ⟨p, [x], [false], rfl, ⟨e, by show 1 ≤ 1000; omega, rfl, fun i y c e1 e2 => by
  cases i with
  | zero => cases e1; cases e2; exact h
  | succ i => cases e1⟩, rfl⟩
theorem badV_two {p : Addr} {x y : V} {b : Bool} (e : SqT K A p [x, y]) (h : SortArg K A x 20 b) (h2 : SortArg K A y 20 false) : BadV K A (.ref p) := .inr ⟨p, [x, y], [b, false], rfl, ⟨e, by show 2 ≤ 1000; omega, rfl, fun i z c e1 e2 => by
  cases i with
  | zero => cases e1; cases e2; exact h
  | succ i =>
    cases i with
    | zero => cases e1; cases e2; exact h2
    | succ i => cases e1⟩, by cases b <;> rfl⟩
theorem BadV.sm {A B : Hp} {v : V} (s : Same A B) (h : BadV K A v) : BadV K B v := h.same s
theorem tup_in {p : Addr} {xs : List V} (e : A p = some (.tup xs)) : SqT K A p xs := .inl (.inl e)
theorem NoK.same {C : Addr} {A B : Hp} {v : V} (s : Same A B) (h : NoK K C A v) : NoK K C B v := by
  obtain ⟨t, a, b⟩ := h
  exact ⟨t, tyx_same s a, b⟩
theorem TxtNo.same {C : Addr} {A B : Hp} {v : V} (s : Same A B) (h : TxtNo K C A v) : TxtNo K C B v := by
  obtain ⟨h1, h2⟩ := h
  refine ⟨h1.same s, ?_⟩
  rcases h2 with ⟨d, a, b, c⟩ | ⟨a, kvs, e, b⟩ | ⟨x, md, leaf, M, ns, e, hK, hV⟩
  · exact .inl ⟨d, a.st s, b, c⟩
  · exact .inr (.inl ⟨a, kvs, e, s _ _ b⟩)
  · exact .inr (.inr ⟨x, md, leaf, M, ns, e, hK.same s, hV⟩)
theorem txt_dat {C : Addr} {v : V} {d : PyData} (h : Not K A v "str") (hd : Dp K A v d) (hs : SeqAt.shaped d = true) (n : ∀ z : Str, PyData.eqv d (.str z) = false) : TxtNo K C A v := ⟨h, .inl ⟨d, hd, hs, n⟩⟩
end
end Kl

set_option maxRecDepth 100000
set_option maxHeartbeats 4000000
namespace Kl
open PySem PySem.Spec PyProof.Rows L2 Gx Mx LamX
/-! ### what stands while the law's values are drawn -/
abbrev M1 : Mak := [("a", ["a", "a"])]
structure Hd (C : Addr) (Tb : List (Addr × Str)) (H : Hp) (d x md : Addr) (ns : List Str) (G : Hp) : Prop where
  k : KindsAt C (sub d G) x md "a" M1 ns
  t : Tabs Tb G
  e : ExtX d H G
  hd : DiceAt G d
section
variable {C : Addr} {Tb : List (Addr × Str)} {H : Hp} {d x md : Addr} {ns : List Str} {G G' : Hp}
theorem Hd.go (h : Hd C Tb H d x md ns G) (e : ExtX d G G') (t : Tabs Tb G') (hd : DiceAt G' d) : Hd C Tb H d x md ns G' := ⟨h.k.same (sub_exX e), t, h.e.trans e, hd⟩
theorem Hd.sm (h : Hd C Tb H d x md ns G) (s : Same G G') : Hd C Tb H d x md ns G' := h.go (.of s) (h.t.ext s) (dice_exN (.of s) h.hd)
theorem Hd.sx (h : Hd C Tb H d x md ns G) (s : SameX d G G') (hd : DiceAt G' d) : Hd C Tb H d x md ns G' := h.go (ext_ofX s) (tabs_dice h.t h.hd s) hd
theorem Hd.kk (h : Hd C Tb H d x md ns G) : KindsAt C G x md "a" M1 ns := h.k.same sub_in
end
theorem vldM : Vld "a" M1 := by
  have key : keysOf M1 = ([("a" : Str)] : List Str) := rfl
  refine ⟨by decide +kernel, fun z hz => ?_, by decide +kernel, fun m hm => ?_, fun ns nd hs => ?_⟩
  · rw [key] at hz
    rw [List.mem_singleton.mp hz]
    decide +kernel
  · rw [List.mem_singleton.mp hm]
    refine ⟨by decide +kernel, by show 2 ≤ 2; omega, by show 2 ≤ 3; omega, fun p hp => .inl ?_⟩
    simp only [List.mem_cons, List.not_mem_nil, or_false, or_self] at hp
    exact hp
  · have all : ∀ z ∈ ns, z = "a" := fun z hz => (hs z hz).elim id fun h => by
      rw [key] at h
      exact List.mem_singleton.mp h
    match ns, nd, all with
    | [], _, _ => exact Nat.zero_le _
    | [_], _, _ => show 1 ≤ 6; omega
    | u :: v :: r, nd, all =>
      have e1 := all u List.mem_cons_self
      have e2 := all v (List.mem_cons_of_mem _ List.mem_cons_self)
      rw [e1, e2] at nd
      exact absurd List.mem_cons_self (List.nodup_cons.mp nd).1
section
variable {K : PySem.W.Frag} {d : Addr} {P : Hp → V → Prop} {σ : L2.St}
/-- one of a written list is picked -/
theorem pick_giv {n : Nat} {ta : TA} {G : Hp} {Q : VK} (mono : ∀ {A B : Hp} {v : V}, Same A B → P A v → P B v) (hn : 0 < n ∧ n ≤ 100) (hd : DiceAt G d) (e0 : σ[0]? = some (some (.ref d))) (g : GivA G d P n ta σ)
    (k : ∀ v G', SameX d G G' → DiceAt G' d → P (sub d G') v → Q v G') : tCl (spPick K) (tCons (tVar 0) (tCons (tLst ta) tNil)) σ G Q := by
  refine ⟨_, e0, g G _ (Same.refl G) hd fun vs G1 s1 ln hP => ⟨Nat.le_trans (by omega) (show 100000 ≤ sizeLine by decide), fun p np => ?_⟩⟩
  have hd1 := dice_exN (.of s1) hd
  have npd := dice_ne hd1 np
  have hd2 := dice_upd (o := .lst vs) hd1 npd
  refine ⟨d, .ref p, vs, rfl, hd2, .inl ⟨p, rfl, npd, .inl (.inl (.inl upd_same))⟩, (fun h => by rw [h] at ln; exact absurd ln (by show ¬ 0 = n; omega)), by omega, fun v a b c hv => ?_⟩
  have sx : SameX d G1 (upd (upd G1 p (.lst vs)) d (.lst [.int a, .int b, .int c])) := ((SameX.refl d G1).new np).atd
  exact k v _ ((SameX.of s1).trans sx) (dice_new a b c) (mono (sub_exX (ext_ofX sx)) (hP v hv))
/-- a written list -/
theorem lst_giv {n : Nat} {ta : TA} {G : Hp} {Q : VK} (mono : ∀ {A B : Hp} {v : V}, Same A B → P A v → P B v) (hn : n ≤ 100) (hd : DiceAt G d) (g : GivA G d P n ta σ)
    (k : ∀ l vs G', G' l = some (.lst vs) → vs.length = n → (∀ v ∈ vs, P (sub d G') v) → Same G G' → l ≠ d → Q (.ref l) G') : tLst ta σ G Q := by
  refine g G _ (Same.refl G) hd fun vs G1 s1 ln hP => ⟨Nat.le_trans (by omega) (show 100000 ≤ sizeLine by decide), fun p np => ?_⟩
  have hd1 := dice_exN (.of s1) hd
  exact k p vs _ upd_same ln (fun v hv => mono (sub_sm (same_new (Same.refl G1) np)) (hP v hv)) (same_new s1 np) (dice_ne hd1 np)
/-- one of a list that stands -/
theorem pick_var {G : Hp} {Q : VK} {i : Nat} {p : Addr} {vs : List V} (mono : ∀ {A B : Hp} {v : V}, Same A B → P A v → P B v) (hd : DiceAt G d) (e0 : σ[0]? = some (some (.ref d))) (ei : σ[i]? = some (some (.ref p))) (ep : G p = some (.lst vs)) (npd : p ≠ d) (ne : vs ≠ []) (l : vs.length ≤ 100)
    (hP : ∀ v ∈ vs, P (sub d G) v) (k : ∀ v G', SameX d G G' → DiceAt G' d → P (sub d G') v → Q v G') : tCl (spPick K) (tCons (tVar 0) (tCons (tVar i) tNil)) σ G Q := by
  refine ⟨_, e0, _, ei, d, .ref p, vs, rfl, hd, .inl ⟨p, rfl, npd, .inl (.inl (.inl ep))⟩, ne, by omega, fun v a b c hv => ?_⟩
  have sx : SameX d G (upd G d (.lst [.int a, .int b, .int c])) := (SameX.refl d G).atd
  exact k v _ sx (dice_new a b c) (mono (sub_exX (ext_ofX sx)) (hP v hv))
end
theorem few13 {qs : List (List Str)} (h : looseB qs = true) : Few qs := by
  obtain ⟨h1, h2, _⟩ := loose_facts h
  exact ⟨by omega, fun x hx => ⟨Nat.le_trans (good20 (h2 x hx)) (by decide), fun z hz => Nat.le_trans (name_len (good_names (h2 x hx) z hz)) (by decide)⟩⟩
/-! elements of the lists -/
section
variable {K : PySem.W.Frag} {A : Hp} {mg : Str → Option Value} {C : Addr}
theorem na_1 {v : V} (h : NameArg K A v) : ∀ x ∈ [v], NameArg K A x := fun x hx => by
  rw [List.mem_singleton.mp hx]
  exact h
theorem na_a1 : ∀ x ∈ [V.str "a", V.int 1], NameArg K A x := fun x hx => by
  rcases List.mem_cons.mp hx with rfl | hx
  · exact na_txt (by decide +kernel)
  · rw [List.mem_singleton.mp hx]
    exact na_no (notS_int _) nofun
theorem na_ba : ∀ x ∈ [V.str "b", V.str "a"], NameArg K A x := fun x hx => by
  rcases List.mem_cons.mp hx with rfl | hx
  · exact na_txt (by decide +kernel)
  · rw [List.mem_singleton.mp hx]
    exact na_txt (by decide +kernel)
theorem na_rep {n : Nat} {z : Str} (h : z.length ≤ 1000) : ∀ x ∈ List.replicate n (V.str z), NameArg K A x := fun x hx => by
  rw [(List.mem_replicate.mp hx).2]
  exact na_txt h
theorem gKV {x md : Addr} {ns : List Str} (h : KindsAt C A x md "a" M1 ns) (TC : Cl_Kinds K mg C) : BadV K A (.ref x) := by
  obtain ⟨dx, nt, kvs, hx, _⟩ := h
  exact badV_not ⟨_, .base (.ins hx TC.cl TC.ca TC.cg TC.ct TC.ob), TC.kitR⟩
theorem gKX {x md : Addr} {ns : List Str} (h : KindsAt C A x md "a" M1 ns) (TC : Cl_Kinds K mg C) : TxtNo K C A (.ref x) := by
  obtain ⟨dx, nt, kvs, hx, _⟩ := id h
  exact ⟨⟨_, .base (.ins hx TC.cl TC.ca TC.cg TC.ct TC.ob), TC.kitS⟩, .inr (.inr ⟨x, md, "a", M1, ns, rfl, h, vldM⟩)⟩
theorem row_1 {p : Addr} {q : List Str} (h : SqT K A p (q.map V.str)) : ∀ y ∈ [(p, q)], SqT K A y.1 (y.2.map V.str) := fun y hy => by
  rw [List.mem_singleton.mp hy]
  exact h
theorem row_2 {p p2 : Addr} {q q2 : List Str} (h : SqT K A p (q.map V.str)) (h2 : SqT K A p2 (q2.map V.str)) : ∀ y ∈ [(p, q), (p2, q2)], SqT K A y.1 (y.2.map V.str) := fun y hy => by
  rcases List.mem_cons.mp hy with rfl | hy
  · exact h
  · exact row_1 h2 y hy
theorem row_3 {p p2 p3 : Addr} {q q2 q3 : List Str} (h : SqT K A p (q.map V.str)) (h2 : SqT K A p2 (q2.map V.str)) (h3 : SqT K A p3 (q3.map V.str)) : ∀ y ∈ [(p, q), (p2, q2), (p3, q3)], SqT K A y.1 (y.2.map V.str) := fun y hy => by
  rcases List.mem_cons.mp hy with rfl | hy
  · exact h
  · exact row_2 h2 h3 y hy
theorem few_top1 : Few [["a"], []] := by
  refine ⟨by decide, fun q hq => ?_⟩
  rcases List.mem_cons.mp hq with rfl | hq
  · exact ⟨by decide, fun z hz => by rw [List.mem_singleton.mp hz]; decide +kernel⟩
  · rw [List.mem_singleton.mp hq]
    exact ⟨by decide, nofun⟩
theorem few_top2 : Few [[]] := by
  refine ⟨by decide, fun q hq => ?_⟩
  rw [List.mem_singleton.mp hq]
  exact ⟨by decide, nofun⟩
variable {N0 : Hp} {d x md : Addr} {ns : List Str} {σ : L2.St} {j : Nat}
theorem gMak (kk : KindsAt C N0 x md "a" M1 ns) (TC : Cl_Kinds K mg C) (e : σ[j]? = some (some (.ref x))) : Giv N0 d (NoK K C) (tPropC C (spKMak C) (tVar j)) σ := fun G Q s hd k => by
  have hK := kk.same s
  obtain ⟨dx, nt, kvs, hx, _⟩ := id hK
  exact ⟨.ref x, e, x, dx, _, rfl, hx, x, md, "a", M1, ns, rfl, hK, fun p kvs' np hM => k _ _ (same_new (Same.refl G) np) ⟨_, .base (.dK (sub_at (dice_ne hd np) upd_same nofun)), TC.kitD⟩⟩
theorem gLin (kk : KindsAt C N0 x md "a" M1 ns) (TC : Cl_Kinds K mg C) (e : σ[j]? = some (some (.ref x))) : Giv N0 d (NoK K C) (tPropC C (spKLin C) (tVar j)) σ := fun G Q s hd k => by
  have hK := kk.same s
  obtain ⟨dx, nt, kvs, hx, _⟩ := id hK
  refine ⟨.ref x, e, x, dx, _, rfl, hx, x, md, "a", M1, ns, rfl, hK, vldM, fun p H' s' ep => k _ _ s' ⟨_, .base (.tup (sub_at (fun w => ?_) ep nofun)), TC.kitT⟩⟩
  obtain ⟨a, b, c, e'⟩ := dice_exN (.of s') hd
  rw [w, e'] at ep
  cases ep
theorem gRep0 : Giv N0 d (BadD K) (tOp (rRepS K) (tTup (tCons (tC (.str "a")) tNil)) (tC (.int 21))) σ := fun G Q s hd k => by
  refine ⟨by show 1 ≤ sizeLine; decide, fun p np => ⟨p, 21, [.str "a"], rfl, rfl, tup_in upd_same, by simp, by decide, by decide, fun p2 G2 s2 h2 => ?_⟩⟩
  have s02 : Same G G2 := fun b o e => s2 _ _ (same_new (o := .tup [.str "a"]) (Same.refl G) np _ _ e)
  have h3 : SqT K G2 p2 (List.replicate 21 (V.str "a")) := h2
  exact k _ _ s02 (badD_tup (sqT_exX (dice_exN (.of s02) hd) to_sub h3) (by decide) (na_rep (by decide +kernel)) (by decide +kernel))
theorem gRep1 : Giv N0 d (BadV K) (tTup (tCons (tOp (rRepS K) (tTup (tCons (tC (.str "a")) tNil)) (tC (.int 21))) tNil)) σ := fun G Q s hd k => by
  refine ⟨by show 1 ≤ sizeLine; decide, fun p np => ⟨p, 21, [.str "a"], rfl, rfl, tup_in upd_same, by simp, by decide, by decide, fun p2 G2 s2 h2 => ?_⟩⟩
  have s02 : Same G G2 := fun b o e => s2 _ _ (same_new (o := .tup [.str "a"]) (Same.refl G) np _ _ e)
  have h3 : SqT K G2 p2 (List.replicate 21 (V.str "a")) := h2
  refine ⟨by show 1 ≤ sizeLine; decide, fun p3 n3 => ?_⟩
  have s23 := same_new (o := .tup [V.ref p2]) (Same.refl G2) n3
  have hd2 := dice_exN (.of s02) hd
  have hd3 := dice_upd (o := .tup [V.ref p2]) hd2 (dice_ne hd2 n3)
  exact k _ _ (fun b o e => s23 _ _ (s02 _ _ e)) (badV_one (tup_in (sub_at (dice_ne hd2 n3) upd_same nofun)) (badD_tup (sqT_exX hd3 to_sub (sqT_sm s23 h3)) (by decide) (na_rep (by decide +kernel)) (by decide +kernel)).1)
end
/-- the words that were told so far -/
structure At (Tb : List (Addr × Str)) (H G8 : Hp) (d D : Addr) (ws : List Str) (G : Hp) : Prop where
  s : Same (sub d G8) G
  e : G D = some (.lst (ws.map V.str))
  t : Tabs Tb G
  x : ExtX d H G
  hd : DiceAt G d
  n : D ≠ d
  nN : sub d G8 D = none
  nH : NewN H D
section
variable {Tb : List (Addr × Str)} {H G8 : Hp} {d D : Addr} {ws : List Str} {G G1 G2 : Hp}
theorem At.go (h : At Tb H G8 d D ws G) (e : ExtN G G1) (t : Tabs Tb G1) (s : Same G1 G2) : At Tb H G8 d D ws G2 :=
  ⟨fun b o q => s _ _ (sub_keep h.s (.ofN e) b o q), s _ _ (e _ _ h.e fun _ => nofun), t.ext s, (h.x.trans (.ofN e)).trans (.of s), dice_exN (.of s) (dice_exN e h.hd), h.n, h.nN, h.nH⟩
theorem At.push (h : At Tb H G8 d D ws G) (w : Str) : At Tb H G8 d D (ws ++ [w]) (upd G D (.lst (ws.map V.str ++ [.str w]))) := by
  refine ⟨fun b o q => ?_, ?_, tabs_lst h.t h.e, fun b o nb q t => ?_, dice_upd h.hd h.n, h.n, h.nN, h.nH⟩
  · rw [upd_ne (fun z => by rw [z, h.nN] at q; cases q)]
    exact h.s b o q
  · rw [upd_same, List.map_append]
    rfl
  · rw [upd_ne (fun z => by rw [z] at q; exact h.nH o q t)]
    exact h.x b o nb q t
end
theorem few_good : Few [["a"], [], ["a", "a"]] := few13 (by decide +kernel)

theorem exist_good : Exist "a" M1 [["a"], [], ["a", "a"]] := fun i z hz => by
  match i with
  | 0 => 
    rw [List.mem_singleton.mp (show z ∈ [("a" : Str)] from hz)]
    decide +kernel
  | 1 => cases (show z ∈ ([] : List Str) from hz)
  | 2 =>
    have h : z ∈ [("a" : Str), "a"] := hz
    simp only [List.mem_cons, List.not_mem_nil, or_false, or_self] at h
    rw [h]
    decide +kernel
  | i + 3 => cases (show z ∈ ([] : List Str) from hz)
theorem loose_good : looseB [["a"], [], ["a", "a"]] = true := by decide +kernel
theorem rowOk_good : RowOk "a" M1 [["a"], [], ["a", "a"]] := by
  refine ⟨loose_good, by decide, fun q hq => ?_, exist_good⟩
  rcases List.mem_cons.mp hq with rfl | hq
  · decide
  rcases List.mem_cons.mp hq with rfl | hq
  · decide
  rw [List.mem_singleton.mp hq]
  decide
theorem keys_good : (keysL "a" M1 [["a"], [], ["a", "a"]] 3).sum = 9 := by decide +kernel
section
variable {K : PySem.W.Frag} {C : Addr} {G : Hp} {x md : Addr} {ns : List Str} {v : V} {Q : VK} {σ : L2.St} {i j : Nat}
theorem row_no (ei : σ[i]? = some (some (.ref x))) (ej : σ[j]? = some (some v)) (hK : KindsAt C G x md "a" M1 ns) (h : BadL K G v) (q : ∀ H', Same G H' → Q (.bl false) H') : tCl (spRow K C) (tCons (tVar i) (tCons (tVar j) tNil)) σ G Q := by
  refine ⟨_, ei, _, ej, ?_⟩
  rcases h with h | ⟨p, LL, rfl, hR, hF, hl⟩
  · exact ⟨x, md, v, "a", M1, ns, rfl, hK, vldM, .inl ⟨h, q⟩⟩
  · refine ⟨x, md, _, "a", M1, ns, rfl, hK, vldM, .inr ⟨p, LL, rfl, hR, hF, fun b H' hb s => ?_⟩⟩
    cases b with
    | false => exact q H' s
    | true =>
      have := (hb.mp rfl).1
      rw [hl] at this
      cases this
theorem loose_no (ei : σ[i]? = some (some v)) (h : BadL K G v) (q : ∀ H', Same G H' → Q (.bl false) H') : tCl (spLooseA K) (tCons (tVar i) tNil) σ G Q := by
  refine ⟨_, ei, ?_⟩
  rcases h with h | ⟨p, LL, rfl, hR, hF, hl⟩
  · exact .inl ⟨v, rfl, h, q⟩
  · exact .inr ⟨p, LL, rfl, hR, hF, fun H' s => by rw [hl]; exact q H' s⟩
theorem row_yes {p q1 q2 q3 : Addr} (ei : σ[i]? = some (some (.ref x))) (ej : σ[j]? = some (some (.ref p))) (hK : KindsAt C G x md "a" M1 ns) (h : RowAt K G p [(q1, ["a"]), (q2, []), (q3, ["a", "a"])]) (q : ∀ H', Same G H' → Q (.bl true) H') : tCl (spRow K C) (tCons (tVar i) (tCons (tVar j) tNil)) σ G Q := by
  refine ⟨_, ei, _, ej, ?_⟩
  refine ⟨x, md, _, "a", M1, ns, rfl, hK, vldM, .inr ⟨p, _, rfl, h, few_good, fun b H' hb s => ?_⟩⟩
  cases b with
  | true => exact q H' s
  | false =>
    have := hb.mpr rowOk_good
    cases this
theorem loose_yes {p q1 q2 q3 : Addr} (ei : σ[i]? = some (some (.ref p))) (h : RowAt K G p [(q1, ["a"]), (q2, []), (q3, ["a", "a"])]) (q : ∀ H', Same G H' → Q (.bl true) H') : tCl (spLooseA K) (tCons (tVar i) tNil) σ G Q :=
  ⟨_, ei, .inr ⟨p, _, rfl, h, few_good, fun H' s => by
    rw [show looseB ([(q1, [("a" : Str)]), (q2, []), (q3, ["a", "a"])].map (·.2)) = true from loose_good]
    exact q H' s⟩⟩
end
abbrev WORDS : List Str := ["kinds", "kinds", "kinds", "row", "row", "row", "row", "row", "row", "row", "parse None", "parse None"]
abbrev wordsD (ws : List Str) : PyData := .list (tD ws)
theorem words_shaped : SeqAt.shaped (wordsD WORDS) = true := by decide +kernel
theorem words_eqv : PyData.eqv (wordsD WORDS) (wordsD WORDS) = true := by decide +kernel
abbrev judD : PyData := .list [.bool false, .bool false, .bool false, .bool true, .bool true]
theorem jud_shaped : SeqAt.shaped judD = true := by decide +kernel
theorem jud_eqv : PyData.eqv judD judD = true := by decide +kernel
end Kl

set_option maxRecDepth 100000
set_option maxHeartbeats 4000000
namespace Kl
open PySem PySem.Spec PyProof.Rows L2 Gx Mx LamX
section
variable {P : Program} {w : World} {K : PySem.W.Frag} {mg : Str → Option Value} {base : Heap}
/-! ### _law_right -/
def spRt (K : PySem.W.Frag) (C : Addr) (Tb : List (Addr × Str)) : Sp := fun vs H Q _ => ∃ (d x md : Addr) (ns : List Str), vs = [V.ref d, V.ref x] ∧ DiceAt H d ∧ KindsAt C H x md "a" M1 ns ∧ Tabs Tb H ∧ ∀ H', ExtX d H H' → Tabs Tb H' → DiceAt H' d → Q (.bl true) H'
theorem ok_right {f c1 P1 C Ck Co CP fI : Addr} {fd fdI : FuncData} {Tb : List (Addr × Str)} (F : Fun K "_law_right" "_law_right" s_law_right f fd) (hc : fd.code = .ref c1) (Lx : Lam K mg base Tb "_law_right" c1 P1)
    (T : Top K mg) (TC : Cl_Kinds K mg C) (R : Ers K mg Ck Co CP fI) (FX : Fun K "__init__" "ParseError.__init__" s_ParseError_init fI fdI) : FnG P w K mg base CX0 11 f fd ["_law_dice_here", "_law_kinds"] (spRt K C Tb) := by
  have cp : Cal P w K mg base 10 "_law_pick" ["_law_dice_here", "_law_items"] (spPick K) := (T.d_law_pick.cal fun f fd F => ok_pick F T).mono (by decide)
  have kMak : CalP P w K mg base C "makings" 9 (spKMak C) := (TC.p_makings.cal fun f fd F => ok_kmak F T TC).mono (by decide)
  have kLin : CalP P w K mg base C "lines" 9 (spKLin C) := (TC.p_lines.cal fun f fd F => ok_klin F T TC).mono (by decide)
  have kRow : Cal P w K mg base 10 "is_row" ["kinds", "value"] (spRow K C) := (T.d_is_row.cal fun f fd F => ok_row F T TC).mono (by decide)
  have kLoose : Cal P w K mg base 10 "is_loose" ["value"] (spLooseA K) := (T.d_is_loose.cal fun f fd F => ok_looseA F T).mono (by decide)
  have kDigit : Cal P w K mg base 10 "is_digit" ["value"] (spDigitA K) := (T.d_is_digit.cal fun f fd F => ok_digitA F T).mono (by decide)
  have kKeys : Cal P w K mg base 10 "keys_of" ["kinds", "row"] (spKeys K C) := (T.d_keys_of.cal fun f fd F => ok_keys F T TC).mono (by decide)
  have yRowE : CalY P w K mg base 8 "is_row" ["kinds", "value"] (spNoK2 K C Ck) := (T.d_is_row.calY fun f fd F => ok_rowE F T TC R.XK R.CK).up (by decide)
  have yKeysE : CalY P w K mg base 8 "keys_of" ["kinds", "row"] (spNoK2 K C Ck) := (T.d_keys_of.calY fun f fd F => ok_keysE F T TC R.XK R.CK).up (by decide)
  have yKeysL : CalY P w K mg base 8 "keys_of" ["kinds", "row"] (spKeysE K C Co) := (T.d_keys_of.calY fun f fd F => ok_keysE2 F T TC R.XK R.CK R.XO R.CO).up (by decide)
  have yWR : CalY P w K mg base 8 "write_row" ["row"] (spChkLE K Co) := (T.d_write_row.calY fun f fd F => ok_wrE F T R.XO R.CO).up (by decide)
  have yTrees : CalY P w K mg base 8 "trees_of" ["row"] (spChkLE K Co) := (T.d_trees_of.calY fun f fd F => ok_treesE F T R.XO R.CO).up (by decide)
  have yTrim : CalY P w K mg base 8 "trimmed" ["digits"] (spTrimE K Co) := (T.d_trimmed.calY fun f fd F => ok_trimE F T R.XO R.CO).up (by decide)
  have yAdd : CalY P w K mg base 8 "added" ["one", "other"] (spAddE K Co) := (T.d_added.calY fun f fd F => ok_addE F T R.XO R.CO).up (by decide)
  have yWD : CalY P w K mg base 8 "write_digit" ["digit"] (spWDE K Co) := (T.d_write_digit.calY fun f fd F => ok_wdE F T R.XO R.CO).up (by decide)
  have yRD : CalY P w K mg base 8 "read_digit" ["text"] (spRDE K CP) := (T.d_read_digit.calY fun f fd F => ok_rdE F T R.TX FX).up (by decide)
  have yRR : CalY P w K mg base 8 "read_row" ["text"] (spRRE K C CP) := (T.d_read_row.calY fun f fd F => ok_rrE F T TC R.TX FX).up (by decide)
  refine okGL F hc sc_law_right (fun vs H Q E h => ?_) (fun A outer s H vs Q E hg hr h => ?_)
  · obtain ⟨d, x, md, ns, rfl, _⟩ := h
    rfl
  · obtain ⟨d, x, md, ns, rfl, hd, hK, hTb, q⟩ := h
    have hu := hu_of hr
    refine ⟨_, (pss_cut (ps_set (i := 2) sc_law_right.nd rfl (.inr rfl) (pe_cal cp hr (by rfl) (pa_cons (pv 0) (pa_cons (pe_lst (pa_cons pe_non (pa_cons pe_int (pa_cons pe_str (pa_cons pe_str (pa_cons (pe_tup pa_nil) (pa_cons (pe_lst pa_nil) (pa_cons pe_dnewK (pa_cons (pe_propC (pv 1) TC.cl kMak hr rfl) (pa_cons (pe_propC (pv 1) TC.cl kLin hr rfl) (pa_cons pe_bl pa_nil))))))))))) pa_nil))))
      (pss_cut (ps_set (i := 3) sc_law_right.nd rfl (.inr rfl) (pe_lst (pa_cons pe_non (pa_cons pe_int (pa_cons pe_bl (pa_cons pe_str (pa_cons pe_str (pa_cons (pe_lst pa_nil) (pa_cons pe_dnewK (pa_cons (pe_lst (pa_cons (pe_tup (pa_cons pe_str pa_nil)) pa_nil)) (pa_cons (pe_tup (pa_cons pe_str pa_nil)) (pa_cons (pe_tup (pa_cons pe_non pa_nil)) (pa_cons (pe_tup (pa_cons (pe_tup (pa_cons pe_str (pa_cons pe_int pa_nil))) pa_nil)) (pa_cons (pe_tup (pa_cons (pe_lst (pa_cons pe_str pa_nil)) pa_nil)) (pa_cons (pe_tup (pa_cons (pe_tup (pa_cons pe_str (pa_cons pe_str pa_nil))) pa_nil)) pa_nil)))))))))))))))
      (pss_cut (ps_set (i := 3) sc_law_right.nd rfl (.inr rfl) (pe_op op_cat (pv 3) (pe_lst (pa_cons (pe_tup (pa_cons (pe_op op_repS (pe_tup (pa_cons pe_str pa_nil)) pe_int) pa_nil)) (pa_cons (pe_tup (pa_cons (pe_tup (pa_cons pe_str pa_nil)) pa_nil)) (pa_cons (pe_tup (pa_cons (pe_tup (pa_cons pe_str pa_nil)) pa_nil)) (pa_cons (pe_tup (pa_cons (pe_tup (pa_cons pe_bl pa_nil)) pa_nil)) (pa_cons (pv 1) (pa_cons (pe_tup (pa_cons (pe_tup (pa_cons pe_str pa_nil)) (pa_cons pe_non pa_nil))) (pa_cons (pe_tup (pa_cons (pe_tup (pa_cons (pe_tup (pa_cons pe_str pa_nil)) pa_nil)) pa_nil)) pa_nil))))))))))
      (pss_cut (ps_set (i := 3) sc_law_right.nd rfl (.inr rfl) (pe_cal cp hr (by rfl) (pa_cons (pv 0) (pa_cons (pv 3) pa_nil))))
      (pss_cut (ps_set (i := 4) sc_law_right.nd rfl (.inr rfl) (pe_lst (pa_cons pe_non (pa_cons pe_int (pa_cons pe_bl (pa_cons pe_str (pa_cons pe_str (pa_cons (pe_lst pa_nil) (pa_cons pe_dnewK (pa_cons (pe_lst (pa_cons pe_str pa_nil)) (pa_cons (pe_tup (pa_cons pe_non pa_nil)) (pa_cons (pe_tup (pa_cons pe_int pa_nil)) (pa_cons (pe_tup (pa_cons pe_str (pa_cons pe_str pa_nil))) (pa_cons (pe_op op_repS (pe_tup (pa_cons pe_str pa_nil)) pe_int) (pa_cons (pe_tup (pa_cons pe_str pa_nil)) (pa_cons (pe_tup (pa_cons pe_str pa_nil)) (pa_cons (pe_tup (pa_cons (pe_tup (pa_cons pe_str pa_nil)) pa_nil)) pa_nil)))))))))))))))))
      (pss_cut (ps_set (i := 4) sc_law_right.nd rfl (.inr rfl) (pe_cal cp hr (by rfl) (pa_cons (pv 0) (pa_cons (pv 4) pa_nil))))
      (pss_cut (ps_set (i := 5) sc_law_right.nd rfl (.inr rfl) (pe_cal cp hr (by rfl) (pa_cons (pv 0) (pa_cons (pe_lst (pa_cons pe_non (pa_cons pe_int (pa_cons pe_bl (pa_cons (pe_tup pa_nil) (pa_cons (pe_lst pa_nil) (pa_cons pe_dnewK (pa_cons (pe_tup (pa_cons (pe_tup (pa_cons pe_str pa_nil)) pa_nil)) (pa_cons (pe_lst (pa_cons pe_str pa_nil)) (pa_cons (pv 1) (pa_cons (pe_tup (pa_cons pe_str pa_nil)) pa_nil))))))))))) pa_nil))))
      (pss_cut (ps_asg (pe_tup (pa_cons (pe_cal cp hr (by rfl) (pa_cons (pv 0) (pa_cons (pe_lst (pa_cons (pv 3) (pa_cons (pe_tup (pa_cons (pe_tup (pa_cons pe_str pa_nil)) (pa_cons (pe_tup pa_nil) pa_nil))) (pa_cons (pe_tup (pa_cons (pe_tup pa_nil) pa_nil)) pa_nil)))) pa_nil))) (pa_cons (pe_tup (pa_cons (pe_tup (pa_cons pe_str pa_nil)) (pa_cons (pe_tup pa_nil) (pa_cons (pe_tup (pa_cons pe_str (pa_cons pe_str pa_nil))) pa_nil)))) pa_nil))) (pg_tup (n := 2) rfl (pgs_cons (pg_name (i := 6) sc_law_right.nd rfl (.inr rfl)) (pgs_cons (pg_name (i := 7) sc_law_right.nd rfl (.inr rfl)) pgs_nil))))
      (pss_cut (ps_set (i := 8) sc_law_right.nd rfl (.inl rfl) (pe_lst (pa_cons (pe_w16 (k := 8) T R (by rfl) hg (hr.mono (by decide)) Lx.tb rfl Lx.mem Lx.one (lamS_by (sc := defScope s_law_right) (by decide +kernel)) rfl (fun _ _ _ _ _ => rfl) (fun A outer s H E f c' hr' => pe_calY yRowE (hr'.mono (by decide)) (by rfl) (fun σ => passAt (takes_of rfl rfl rfl rfl) σ) (pa_cons (pv 2) (pa_cons (pv 3) pa_nil)))) pa_nil)))
      (pss_cut (ps_expr (pe_bm PySem.F.plainAttrs_list PySem.F.slot_list_append PySem.F.type_list_append mt_append (pv 8) (pa_cons (pe_w16 (k := 8) T R (by rfl) hg (hr.mono (by decide)) Lx.tb rfl Lx.mem Lx.one (lamS_by (sc := defScope s_law_right) (by decide +kernel)) rfl (fun _ _ _ _ _ => rfl) (fun A outer s H E f c' hr' => pe_calY yKeysE (hr'.mono (by decide)) (by rfl) (fun σ => passAt (takes_of rfl rfl rfl rfl) σ) (pa_cons (pv 2) (pa_cons (pv 3) pa_nil)))) pa_nil)))
      (pss_cut (ps_expr (pe_bm PySem.F.plainAttrs_list PySem.F.slot_list_append PySem.F.type_list_append mt_append (pv 8) (pa_cons (pe_w16 (k := 8) T R (by rfl) hg (hr.mono (by decide)) Lx.tb rfl Lx.mem Lx.one (lamS_by (sc := defScope s_law_right) (by decide +kernel)) rfl (fun _ _ _ _ _ => rfl) (fun A outer s H E f c' hr' => pe_calY yRowE (hr'.mono (by decide)) (by rfl) (fun σ => passAt (takes_of rfl rfl rfl rfl) σ) (pa_cons (pv 2) (pa_cons (pv 7) pa_nil)))) pa_nil)))
      (pss_cut (ps_expr (pe_bm PySem.F.plainAttrs_list PySem.F.slot_list_append PySem.F.type_list_append mt_append (pv 8) (pa_cons (pe_w16 (k := 8) T R (by rfl) hg (hr.mono (by decide)) Lx.tb rfl Lx.mem Lx.one (lamS_by (sc := defScope s_law_right) (by decide +kernel)) rfl (fun _ _ _ _ _ => rfl) (fun A outer s H E f c' hr' => pe_calY yKeysL (hr'.mono (by decide)) (by rfl) (fun σ => passAt (takes_of rfl rfl rfl rfl) σ) (pa_cons (pv 1) (pa_cons (pv 6) pa_nil)))) pa_nil)))
      (pss_cut (ps_expr (pe_bm PySem.F.plainAttrs_list PySem.F.slot_list_append PySem.F.type_list_append mt_append (pv 8) (pa_cons (pe_w16 (k := 8) T R (by rfl) hg (hr.mono (by decide)) Lx.tb rfl Lx.mem Lx.one (lamS_by (sc := defScope s_law_right) (by decide +kernel)) rfl (fun _ _ _ _ _ => rfl) (fun A outer s H E f c' hr' => pe_calY yWR (hr'.mono (by decide)) (by rfl) (fun σ => passAt (takes_of rfl rfl rfl rfl) σ) (pa_cons (pv 6) pa_nil))) pa_nil)))
      (pss_cut (ps_expr (pe_bm PySem.F.plainAttrs_list PySem.F.slot_list_append PySem.F.type_list_append mt_append (pv 8) (pa_cons (pe_w16 (k := 8) T R (by rfl) hg (hr.mono (by decide)) Lx.tb rfl Lx.mem Lx.one (lamS_by (sc := defScope s_law_right) (by decide +kernel)) rfl (fun _ _ _ _ _ => rfl) (fun A outer s H E f c' hr' => pe_calY yTrees (hr'.mono (by decide)) (by rfl) (fun σ => passAt (takes_of rfl rfl rfl rfl) σ) (pa_cons (pv 6) pa_nil))) pa_nil)))
      (pss_cut (ps_expr (pe_bm PySem.F.plainAttrs_list PySem.F.slot_list_append PySem.F.type_list_append mt_append (pv 8) (pa_cons (pe_w16 (k := 8) T R (by rfl) hg (hr.mono (by decide)) Lx.tb rfl Lx.mem Lx.one (lamS_by (sc := defScope s_law_right) (by decide +kernel)) rfl (fun _ _ _ _ _ => rfl) (fun A outer s H E f c' hr' => pe_calY yTrim (hr'.mono (by decide)) (by rfl) (fun σ => passAt (takes_of rfl rfl rfl rfl) σ) (pa_cons (pv 3) pa_nil))) pa_nil)))
      (pss_cut (ps_expr (pe_bm PySem.F.plainAttrs_list PySem.F.slot_list_append PySem.F.type_list_append mt_append (pv 8) (pa_cons (pe_w16 (k := 8) T R (by rfl) hg (hr.mono (by decide)) Lx.tb rfl Lx.mem Lx.one (lamS_by (sc := defScope s_law_right) (by decide +kernel)) rfl (fun _ _ _ _ _ => rfl) (fun A outer s H E f c' hr' => pe_calY yAdd (hr'.mono (by decide)) (by rfl) (fun σ => passAt (takes_of rfl rfl rfl rfl) σ) (pa_cons (pv 6) (pa_cons (pv 7) pa_nil)))) pa_nil)))
      (pss_cut (ps_expr (pe_bm PySem.F.plainAttrs_list PySem.F.slot_list_append PySem.F.type_list_append mt_append (pv 8) (pa_cons (pe_w16 (k := 8) T R (by rfl) hg (hr.mono (by decide)) Lx.tb rfl Lx.mem Lx.one (lamS_by (sc := defScope s_law_right) (by decide +kernel)) rfl (fun _ _ _ _ _ => rfl) (fun A outer s H E f c' hr' => pe_calY yAdd (hr'.mono (by decide)) (by rfl) (fun σ => passAt (takes_of rfl rfl rfl rfl) σ) (pa_cons (pv 7) (pa_cons (pv 6) pa_nil)))) pa_nil)))
      (pss_cut (ps_expr (pe_bm PySem.F.plainAttrs_list PySem.F.slot_list_append PySem.F.type_list_append mt_append (pv 8) (pa_cons (pe_w16 (k := 8) T R (by rfl) hg (hr.mono (by decide)) Lx.tb rfl Lx.mem Lx.one (lamS_by (sc := defScope s_law_right) (by decide +kernel)) rfl (fun _ _ _ _ _ => rfl) (fun A outer s H E f c' hr' => pe_calY yWD (hr'.mono (by decide)) (by rfl) (fun σ => passAt (takes_of rfl rfl rfl rfl) σ) (pa_cons (pv 4) pa_nil))) pa_nil)))
      (pss_cut (ps_expr (pe_bm PySem.F.plainAttrs_list PySem.F.slot_list_append PySem.F.type_list_append mt_append (pv 8) (pa_cons (pe_w16 (k := 8) T R (by rfl) hg (hr.mono (by decide)) Lx.tb rfl Lx.mem Lx.one (lamS_by (sc := defScope s_law_right) (by decide +kernel)) rfl (fun _ _ _ _ _ => rfl) (fun A outer s H E f c' hr' => pe_calY yRD (hr'.mono (by decide)) (by rfl) (fun σ => passAt (takes_of rfl rfl rfl rfl) σ) (pa_cons (pv 5) pa_nil))) pa_nil)))
      (pss_cut (ps_expr (pe_bm PySem.F.plainAttrs_list PySem.F.slot_list_append PySem.F.type_list_append mt_append (pv 8) (pa_cons (pe_w16 (k := 8) T R (by rfl) hg (hr.mono (by decide)) Lx.tb rfl Lx.mem Lx.one (lamS_by (sc := defScope s_law_right) (by decide +kernel)) rfl (fun _ _ _ _ _ => rfl) (fun A outer s H E f c' hr' => pe_calY yRR (hr'.mono (by decide)) (by rfl) (fun σ => passAt (takes_of rfl rfl rfl rfl) σ) (pa_cons (pv 5) pa_nil))) pa_nil)))
      (pss_cut (ps_if (pt_cmpR (op_neD hr.units) (pv 8) (pe_op op_cat (pe_op op_cat (pe_op op_rep (pe_lst (pa_cons pe_str pa_nil)) pe_int) (pe_op op_rep (pe_lst (pa_cons pe_str pa_nil)) pe_int)) (pe_op op_rep (pe_lst (pa_cons pe_str pa_nil)) pe_int)) (by rfl)) (pss_one (ps_ret pe_bl)) pss_nil)
      (pss_cut (ps_set (i := 9) sc_law_right.nd rfl (.inl rfl) (pe_lst (pa_cons (pe_cal kRow hr (by rfl) (pa_cons (pv 1) (pa_cons (pv 6) pa_nil))) (pa_cons (pe_cal kLoose hr (by rfl) (pa_cons (pv 6) pa_nil)) (pa_cons (pe_cal kDigit hr (by rfl) (pa_cons (pv 4) pa_nil)) (pa_cons (pe_cal kRow hr (by rfl) (pa_cons (pv 1) (pa_cons (pv 7) pa_nil))) (pa_cons (pe_cal kLoose hr (by rfl) (pa_cons (pv 7) pa_nil)) pa_nil)))))))
      (pss_one (ps_ret (pe_and (pe_cmpR (op_eqD hr.units) (pv 9) (pe_lst (pa_cons pe_bl (pa_cons pe_bl (pa_cons pe_bl (pa_cons pe_bl (pa_cons pe_bl pa_nil)))))) (by rfl)) (pe_one (pe_cmpR op_eq (pe_cal kKeys hr (by rfl) (pa_cons (pv 1) (pa_cons (pv 7) pa_nil))) pe_int (by rfl)))))))))))))))))))))))))))), ?_⟩
    have big : 100000 ≤ sizeLine := by decide
    have l1 : 1 ≤ sizeLine := by omega
    have l2 : 2 ≤ sizeLine := by omega
    -- no kinds
    refine ⟨fun σ' G => ∃ no : V, σ' = [some (.ref d), some (.ref x), some no, none, none, none, none, none, none, none] ∧ NoK K C (sub d G) no ∧ Hd C Tb H d x md ns G, ?_, ?_⟩
    · have mono : ∀ {A B : Hp} {v : V}, Same A B → NoK K C A v → NoK K C B v := fun s h => h.same s
      have kk := hK
      refine pick_giv (P := NoK K C) (n := 10) mono (by decide) hd rfl ?_ fun v G' sx hd' hv => ⟨v, rfl, hv, (hK.exX (ext_ofX sx) hd).exX to_sub hd', tabs_dice hTb hd sx, ext_ofX sx, hd'⟩
      exact giv_cons mono (giv_c fun A => ⟨_, .base .non, TC.kit_NoneType⟩) (giv_cons mono (giv_c fun A => ⟨_, .base (.int _), TC.kit_int⟩) (giv_cons mono (giv_c fun A => ⟨_, .base (.str _), TC.kit_str⟩) (giv_cons mono (giv_c fun A => ⟨_, .base (.str _), TC.kit_str⟩) (giv_cons mono (giv_one (.tup []) nofun (fun G Q h => ⟨Nat.zero_le _, h⟩) (fun A p e => ⟨_, .base (.tup e), TC.kitT⟩)) (giv_cons mono (giv_one (.lst []) nofun (fun G Q h => ⟨Nat.zero_le _, h⟩) (fun A p e => ⟨_, .base (.lst e), TC.kit_list⟩)) (giv_cons mono (giv_one (.dK []) nofun (fun G Q h => h) (fun A p e => ⟨_, .base (.dK e), TC.kitD⟩)) (giv_cons mono (gMak kk TC rfl) (giv_cons mono (gLin kk TC rfl) (giv_cons mono (giv_c fun A => ⟨_, .base (.bl _), TC.kit_bool⟩) (giv_nil))))))))))
    rintro σ' G1 ⟨no, rfl, hno, s1G⟩
    -- no row: a first list
    have monoV : ∀ {A B : Hp} {v : V}, Same A B → BadV K A v → BadV K B v := fun s h => h.same s
    refine ⟨fun σ' G => ∃ (l : Addr) (vs : List V), σ' = [some (.ref d), some (.ref x), some no, some (.ref l), none, none, none, none, none, none] ∧ G l = some (.lst vs) ∧ vs.length = 13 ∧ (∀ v ∈ vs, BadV K (sub d G) v) ∧ Same G1 G ∧ l ≠ d, ?_, ?_⟩
    · have mono := @monoV
      refine lst_giv (P := BadV K) (n := 13) monoV (by decide) s1G.hd ?_ fun l vs G' el ln hP s' nl => ⟨l, vs, rfl, el, ln, hP, s', nl⟩
      exact giv_cons mono (giv_c fun A => badV_not notT_non) (giv_cons mono (giv_c fun A => badV_not (notT_int _)) (giv_cons mono (giv_c fun A => badV_not (notT_bl _)) (giv_cons mono (giv_c fun A => badV_not (notT_str _)) (giv_cons mono (giv_c fun A => badV_not (notT_str _)) (giv_cons mono (giv_one (.lst []) nofun (fun G Q h => ⟨Nat.zero_le _, h⟩) (fun A p e => badV_not (notT_lst e))) (giv_cons mono (giv_one (.dK []) nofun (fun G Q h => h) (fun A p e => badV_not (notT_dK e))) (giv_cons mono (giv_two (.tup [.str "a"]) (fun p => .lst [.ref p]) nofun (fun _ => nofun) (fun G Q h => ⟨l1, fun p np => ⟨l1, fun p2 np2 => h p p2 np np2⟩⟩) (fun A p p2 e e2 => badV_not (notT_lst e2))) (giv_cons mono (giv_one (.tup [.str "a"]) nofun (fun G Q h => ⟨l1, h⟩) (fun A p e => badV_one (tup_in e) (.inl ⟨notT_str _, rfl⟩))) (giv_cons mono (giv_one (.tup [.non]) nofun (fun G Q h => ⟨l1, h⟩) (fun A p e => badV_one (tup_in e) (.inl ⟨notT_non, rfl⟩))) (giv_cons mono (giv_two (.tup [.str "a", .int 1]) (fun p => .tup [.ref p]) nofun (fun _ => nofun) (fun G Q h => ⟨l2, fun p np => ⟨l1, fun p2 np2 => h p p2 np np2⟩⟩) (fun A p p2 e e2 => badV_one (tup_in e2) (badD_tup (tup_in e) (by show 2 ≤ 1000; omega) na_a1 rfl).1)) (giv_cons mono (giv_two (.lst [.str "a"]) (fun p => .tup [.ref p]) nofun (fun _ => nofun) (fun G Q h => ⟨l1, fun p np => ⟨l1, fun p2 np2 => h p p2 np np2⟩⟩) (fun A p p2 e e2 => badV_one (tup_in e2) (.inl ⟨notT_lst e, rfl⟩))) (giv_cons mono (giv_two (.tup [.str "b", .str "a"]) (fun p => .tup [.ref p]) nofun (fun _ => nofun) (fun G Q h => ⟨l2, fun p np => ⟨l1, fun p2 np2 => h p p2 np np2⟩⟩) (fun A p p2 e e2 => badV_one (tup_in e2) (badD_tup (tup_in e) (by show 2 ≤ 1000; omega) na_ba (by decide +kernel)).1)) (giv_nil)))))))))))))
    rintro σ' G2 ⟨l, vs, rfl, el, ln, hvs, s12, nld⟩
    -- and a second
    have s1G2 := s1G.sm s12
    refine ⟨fun σ' G => ∃ (l : Addr) (vs : List V), σ' = [some (.ref d), some (.ref x), some no, some (.ref l), none, none, none, none, none, none] ∧ G l = some (.lst vs) ∧ vs.length = 20 ∧ (∀ v ∈ vs, BadV K (sub d G) v) ∧ Same G2 G ∧ l ≠ d, ?_, ?_⟩
    · have mono := @monoV
      have s1G := s1G2
      refine ⟨_, rfl, lst_giv (P := BadV K) (n := 7) monoV (by decide) s1G2.hd ?_ fun lb ws G' elb lw hP s3 nbd => ?_⟩
      · exact giv_cons mono gRep1 (giv_cons mono (giv_two (.tup [.str "A"]) (fun p => .tup [.ref p]) nofun (fun _ => nofun) (fun G Q h => ⟨l1, fun p np => ⟨l1, fun p2 np2 => h p p2 np np2⟩⟩) (fun A p p2 e e2 => badV_one (tup_in e2) (badD_tup (tup_in e) (by show 1 ≤ 1000; omega) (na_1 (na_txt (by decide +kernel))) (by decide +kernel)).1)) (giv_cons mono (giv_two (.tup [.str "ninelette"]) (fun p => .tup [.ref p]) nofun (fun _ => nofun) (fun G Q h => ⟨l1, fun p np => ⟨l1, fun p2 np2 => h p p2 np np2⟩⟩) (fun A p p2 e e2 => badV_one (tup_in e2) (badD_tup (tup_in e) (by show 1 ≤ 1000; omega) (na_1 (na_txt (by decide +kernel))) (by decide +kernel)).1)) (giv_cons mono (giv_two (.tup [.bl true]) (fun p => .tup [.ref p]) nofun (fun _ => nofun) (fun G Q h => ⟨l1, fun p np => ⟨l1, fun p2 np2 => h p p2 np np2⟩⟩) (fun A p p2 e e2 => badV_one (tup_in e2) (badD_tup (tup_in e) (by show 1 ≤ 1000; omega) (na_1 (na_no (notS_bl _) nofun)) rfl).1)) (giv_cons mono (giv_var rfl fun A s => gKV (s1G.k.same (sub_sm s)) TC) (giv_cons mono (giv_two (.tup [.str "a"]) (fun p => .tup [.ref p, .non]) nofun (fun _ => nofun) (fun G Q h => ⟨l1, fun p np => ⟨l2, fun p2 np2 => h p p2 np np2⟩⟩) (fun A p p2 e e2 => badV_two (b := true) (tup_in e2) (.inr ⟨p, _, rfl, tup_in e, by show 1 ≤ 1000; omega, na_1 (na_txt (by decide +kernel)), by decide +kernel⟩) (.inl ⟨notT_non, rfl⟩))) (giv_cons mono (giv_three (.tup [.str "a"]) (fun p => .tup [.ref p]) (fun p q => .tup [.ref q]) nofun (fun _ => nofun) (fun _ _ => nofun) (fun G Q h => ⟨l1, fun p np => ⟨l1, fun p2 np2 => ⟨l1, fun p3 np3 => h p p2 p3 np np2 np3⟩⟩⟩) (fun A p p2 p3 e e2 e3 => badV_one (tup_in e3) (badD_tup (tup_in e2) (by show 1 ≤ 1000; omega) (na_1 (na_no (notS_tup e) nofun)) rfl).1)) (giv_nil)))))))
      have hd3 := dice_exN (.of s3) s1G2.hd
      refine ⟨l, lb, vs, ws, rfl, rfl, s3 _ _ el, elb, Nat.le_trans (by omega) big, fun l3 n3 => ?_⟩
      have s4 := same_new (o := .lst (vs ++ ws)) s3 n3
      refine ⟨l3, vs ++ ws, rfl, upd_same, by rw [List.length_append, ln, lw], fun v hv => ?_, s4, dice_ne hd3 n3⟩
      rcases List.mem_append.mp hv with h | h
      · exact mono (sub_sm s4) (hvs v h)
      · exact mono (sub_sm (same_new (Same.refl G') n3)) (hP v h)
    clear el hvs
    rintro σ' G3 ⟨l3, vs3, rfl, el, l20, hvs, s23, nl3⟩
    have s1G3 := s1G2.sm s23
    have hno3 := hno.same (sub_sm (fun b o e => s23 _ _ (s12 _ _ e) : Same G1 G3))
    clear s1G2 s23 s12 ln nld s1G hno
    refine ⟨fun σ' G => ∃ od : V, σ' = [some (.ref d), some (.ref x), some no, some od, none, none, none, none, none, none] ∧ NoK K C (sub d G) no ∧ BadV K (sub d G) od ∧ Hd C Tb H d x md ns G, ?_, ?_⟩
    · refine pick_var (P := BadV K) monoV s1G3.hd rfl rfl el nl3 (fun h => by rw [h] at l20; cases l20) (by omega) hvs fun v G' sx hd' hv => ⟨v, rfl, hno3.same (sub_exX (ext_ofX sx)), hv, s1G3.sx sx hd'⟩
    clear el hvs hno3 s1G3
    rintro σ' G4 ⟨od, rfl, hno, hod, s4⟩
    -- no digit
    have monoD : ∀ {A B : Hp} {v : V}, Same A B → BadD K A v → BadD K B v := fun s h => h.same s
    refine ⟨fun σ' G => ∃ (l : Addr) (vs : List V), σ' = [some (.ref d), some (.ref x), some no, some od, some (.ref l), none, none, none, none, none] ∧ G l = some (.lst vs) ∧ vs.length = 15 ∧ (∀ v ∈ vs, BadD K (sub d G) v) ∧ Same G4 G ∧ l ≠ d, ?_, ?_⟩
    · have mono := @monoD
      refine lst_giv (P := BadD K) (n := 15) monoD (by decide) s4.hd ?_ fun l vs G' el ln hP s' nl => ⟨l, vs, rfl, el, ln, hP, s', nl⟩
      exact giv_cons mono (giv_c fun A => badD_not notT_non) (giv_cons mono (giv_c fun A => badD_not (notT_int _)) (giv_cons mono (giv_c fun A => badD_not (notT_bl _)) (giv_cons mono (giv_c fun A => badD_not (notT_str _)) (giv_cons mono (giv_c fun A => badD_not (notT_str _)) (giv_cons mono (giv_one (.lst []) nofun (fun G Q h => ⟨Nat.zero_le _, h⟩) (fun A p e => badD_not (notT_lst e))) (giv_cons mono (giv_one (.dK []) nofun (fun G Q h => h) (fun A p e => badD_not (notT_dK e))) (giv_cons mono (giv_one (.lst [.str "a"]) nofun (fun G Q h => ⟨l1, h⟩) (fun A p e => badD_not (notT_lst e))) (giv_cons mono (giv_one (.tup [.non]) nofun (fun G Q h => ⟨l1, h⟩) (fun A p e => badD_tup (tup_in e) (by show 1 ≤ 1000; omega) (na_1 (na_no notS_non nofun)) rfl)) (giv_cons mono (giv_one (.tup [.int 1]) nofun (fun G Q h => ⟨l1, h⟩) (fun A p e => badD_tup (tup_in e) (by show 1 ≤ 1000; omega) (na_1 (na_no (notS_int _) nofun)) rfl)) (giv_cons mono (giv_one (.tup [.str "b", .str "a"]) nofun (fun G Q h => ⟨l2, h⟩) (fun A p e => badD_tup (tup_in e) (by show 2 ≤ 1000; omega) na_ba (by decide +kernel))) (giv_cons mono gRep0 (giv_cons mono (giv_one (.tup [.str ""]) nofun (fun G Q h => ⟨l1, h⟩) (fun A p e => badD_tup (tup_in e) (by show 1 ≤ 1000; omega) (na_1 (na_txt (by decide +kernel))) (by decide +kernel))) (giv_cons mono (giv_one (.tup [.str "A"]) nofun (fun G Q h => ⟨l1, h⟩) (fun A p e => badD_tup (tup_in e) (by show 1 ≤ 1000; omega) (na_1 (na_txt (by decide +kernel))) (by decide +kernel))) (giv_cons mono (giv_two (.tup [.str "a"]) (fun p => .tup [.ref p]) nofun (fun _ => nofun) (fun G Q h => ⟨l1, fun p np => ⟨l1, fun p2 np2 => h p p2 np np2⟩⟩) (fun A p p2 e e2 => badD_tup (tup_in e2) (by show 1 ≤ 1000; omega) (na_1 (na_no (notS_tup e) nofun)) rfl)) (giv_nil)))))))))))))))
    rintro σ' G5 ⟨l5, vs5, rfl, el, l15, hvs, s45, nl5⟩
    have s5G := s4.sm s45
    have hno5 := hno.same (sub_sm s45)
    have hod5 := hod.same (sub_sm s45)
    clear hno hod s45 s4
    refine ⟨fun σ' G => ∃ di : V, σ' = [some (.ref d), some (.ref x), some no, some od, some di, none, none, none, none, none] ∧ NoK K C (sub d G) no ∧ BadV K (sub d G) od ∧ BadD K (sub d G) di ∧ Hd C Tb H d x md ns G, ?_, ?_⟩
    · refine pick_var (P := BadD K) monoD s5G.hd rfl rfl el nl5 (fun h => by rw [h] at l15; cases l15) (by omega) hvs fun v G' sx hd' hv => ⟨v, rfl, hno5.same (sub_exX (ext_ofX sx)), hod5.same (sub_exX (ext_ofX sx)), hv, s5G.sx sx hd'⟩
    clear el hvs hno5 hod5 s5G
    rintro σ' G6 ⟨di, rfl, hno, hod, hdi, s5⟩
    -- no text
    have monoT : ∀ {A B : Hp} {v : V}, Same A B → TxtNo K C A v → TxtNo K C B v := fun s h => h.same s
    refine ⟨fun σ' G => ∃ tx : V, σ' = [some (.ref d), some (.ref x), some no, some od, some di, some tx, none, none, none, none] ∧ NoK K C (sub d G) no ∧ BadV K (sub d G) od ∧ BadD K (sub d G) di ∧ TxtNo K C (sub d G) tx ∧ Hd C Tb H d x md ns G, ?_, ?_⟩
    · have mono := @monoT
      refine pick_giv (P := TxtNo K C) (n := 10) mono (by decide) s5.hd rfl ?_ fun v G' sx hd' hv => ⟨v, rfl, hno.same (sub_exX (ext_ofX sx)), hod.same (sub_exX (ext_ofX sx)), hdi.same (sub_exX (ext_ofX sx)), hv, s5.sx sx hd'⟩
      exact giv_cons mono (giv_c fun A => txt_dat notS_non .non (by decide +kernel) (fun _ => rfl)) (giv_cons mono (giv_c fun A => txt_dat (notS_int _) (.int _) (by decide +kernel) (fun _ => rfl)) (giv_cons mono (giv_c fun A => txt_dat (notS_bl _) (.bl _) (by decide +kernel) (fun _ => rfl)) (giv_cons mono (giv_one (.tup []) nofun (fun G Q h => ⟨Nat.zero_le _, h⟩) (fun A p e => txt_dat (notS_tup e) (.tup (tup_in e) .nil) (by decide +kernel) (fun _ => rfl))) (giv_cons mono (giv_one (.lst []) nofun (fun G Q h => ⟨Nat.zero_le _, h⟩) (fun A p e => txt_dat (notS_lst e) (.lst (.inl (.inl e)) .nil) (by decide +kernel) (fun _ => rfl))) (giv_cons mono (giv_one (.dK []) nofun (fun G Q h => h) (fun A p e => ⟨notS_dK e, .inr (.inl ⟨p, [], rfl, e⟩)⟩)) (giv_cons mono (giv_two (.tup [.str "a"]) (fun p => .tup [.ref p]) nofun (fun _ => nofun) (fun G Q h => ⟨l1, fun p np => ⟨l1, fun p2 np2 => h p p2 np np2⟩⟩) (fun A p p2 e e2 => txt_dat (notS_tup e2) (.tup (tup_in e2) (.cons (.tup (tup_in e) (.cons (.str _) .nil)) .nil)) (by decide +kernel) (fun _ => rfl))) (giv_cons mono (giv_one (.lst [.str "a"]) nofun (fun G Q h => ⟨l1, h⟩) (fun A p e => txt_dat (notS_lst e) (.lst (.inl (.inl e)) (.cons (.str _) .nil)) (by decide +kernel) (fun _ => rfl))) (giv_cons mono (giv_var rfl fun A s => gKX (s5.k.same (sub_sm s)) TC) (giv_cons mono (giv_one (.tup [.str "a"]) nofun (fun G Q h => ⟨l1, h⟩) (fun A p e => txt_dat (notS_tup e) (.tup (tup_in e) (.cons (.str _) .nil)) (by decide +kernel) (fun _ => rfl))) (giv_nil))))))))))
    clear hno hod hdi s5
    rintro σ' G7 ⟨tx, rfl, hno, hod, hdi, htx, s7⟩
    -- no loose row, and one
    have monoL : ∀ {A B : Hp} {v : V}, Same A B → BadL K A v → BadL K B v := fun s h => h.same s
    refine ⟨fun σ' G => ∃ (to : V) (gd q1 q2 q3 : Addr), σ' = [some (.ref d), some (.ref x), some no, some od, some di, some tx, some to, some (.ref gd), none, none] ∧ NoK K C (sub d G) no ∧ BadV K (sub d G) od ∧ BadD K (sub d G) di ∧ TxtNo K C (sub d G) tx ∧ BadL K (sub d G) to ∧ RowAt K (sub d G) gd [(q1, ["a"]), (q2, []), (q3, ["a", "a"])] ∧ Hd C Tb H d x md ns G, ?_, ?_⟩
    · have mono := @monoL
      refine pick_giv (P := BadL K) (n := 3) mono (by decide) s7.hd rfl ?_ fun v G' sx hd' hv => ?_
      · exact giv_cons mono (giv_var rfl fun A s => .inl (hod.sm (sub_sm s))) (giv_cons mono (giv_three (.tup [.str "a"]) (fun p => .tup []) (fun p q => .tup [.ref p, .ref q]) nofun (fun _ => nofun) (fun _ _ => nofun) (fun G Q h => ⟨l1, fun p np => ⟨Nat.zero_le _, fun p2 np2 => ⟨l2, fun p3 np3 => h p p2 p3 np np2 np3⟩⟩⟩) (fun A p p2 p3 e e2 e3 => .inr ⟨p3, [(p, ["a"]), (p2, [])], rfl, ⟨tup_in e3, row_2 (tup_in e) (tup_in e2)⟩, few_top1, (by show looseB [["a"], []] = false; decide +kernel)⟩)) (giv_cons mono (giv_two (.tup []) (fun p => .tup [.ref p]) nofun (fun _ => nofun) (fun G Q h => ⟨Nat.zero_le _, fun p np => ⟨l1, fun p2 np2 => h p p2 np np2⟩⟩) (fun A p p2 e e2 => .inr ⟨p2, [(p, [])], rfl, ⟨tup_in e2, row_1 (tup_in e)⟩, few_top2, (by show looseB [[]] = false; decide +kernel)⟩)) (giv_nil)))
      have s8 := s7.sx sx hd'
      have x7 := ext_ofX sx
      refine ⟨l1, fun q1 m1 => ?_⟩
      have n1 := dice_ne s8.hd m1
      have u1 := same_new (o := .tup [.str "a"]) (Same.refl G') m1
      have f1 : (upd G' q1 (.tup [.str "a"])) q1 = some (.tup [.str "a"]) := upd_same
      have h1 := s8.sm u1
      generalize upd G' q1 (.tup [.str "a"]) = J1 at u1 f1 h1
      refine ⟨Nat.zero_le _, fun q2 m2 => ?_⟩
      have n2 := dice_ne h1.hd m2
      have u2 := same_new (o := .tup []) (Same.refl J1) m2
      have f2 : (upd J1 q2 (.tup [])) q2 = some (.tup []) := upd_same
      have h2 := h1.sm u2
      generalize upd J1 q2 (.tup []) = J2 at u2 f2 h2
      refine ⟨l2, fun q3 m3 => ?_⟩
      have n3 := dice_ne h2.hd m3
      have u3 := same_new (o := .tup [.str "a", .str "a"]) (Same.refl J2) m3
      have f3 : (upd J2 q3 (.tup [.str "a", .str "a"])) q3 = some (.tup [.str "a", .str "a"]) := upd_same
      have h3 := h2.sm u3
      generalize upd J2 q3 (.tup [.str "a", .str "a"]) = J3 at u3 f3 h3
      refine ⟨Nat.le_trans (show 3 ≤ 100000 by omega) big, fun gd m4 => ?_⟩
      have n4 := dice_ne h3.hd m4
      have u4 := same_new (o := .tup [.ref q1, .ref q2, .ref q3]) (Same.refl J3) m4
      have f4 : (upd J3 gd (.tup [.ref q1, .ref q2, .ref q3])) gd = some (.tup [.ref q1, .ref q2, .ref q3]) := upd_same
      have h4 := h3.sm u4
      generalize upd J3 gd (.tup [.ref q1, .ref q2, .ref q3]) = J4 at u4 f4 h4
      refine ⟨l2, fun pr m5 => ?_⟩
      have u5 := same_new (o := .tup [v, .ref gd]) (Same.refl J4) m5
      have f5 : (upd J4 pr (.tup [v, .ref gd])) pr = some (.tup [v, .ref gd]) := upd_same
      have h5 := h4.sm u5
      generalize upd J4 pr (.tup [v, .ref gd]) = J5 at u5 f5 h5
      have ss : Same G' J5 := fun b o e => u5 _ _ (u4 _ _ (u3 _ _ (u2 _ _ (u1 _ _ e))))
      have sx5 : Same (sub d G7) (sub d J5) := sub_exX (x7.trans (.of ss))
      refine ⟨pr, _, rfl, .inl (.inl f5), rfl, _, _, rfl, _, _, rfl, rfl, ?_⟩
      refine ⟨v, gd, q1, q2, q3, rfl, hno.same sx5, hod.same sx5, hdi.same sx5, htx.same sx5, hv.same (sub_sm ss), ⟨tup_in (sub_at n4 (u5 _ _ f4) nofun), ?_⟩, h5⟩
      exact row_3 (tup_in (sub_at n1 (u5 _ _ (u4 _ _ (u3 _ _ (u2 _ _ f1)))) nofun)) (tup_in (sub_at n2 (u5 _ _ (u4 _ _ (u3 _ _ f2))) nofun)) (tup_in (sub_at n3 (u5 _ _ (u4 _ _ f3)) nofun))
    clear hno hod hdi htx s7
    rintro σ' G8 ⟨to, gd, q1, q2, q3, rfl, hno, hod, hdi, htx, hto, hgd, s8⟩
    -- what is told of them
    refine ⟨fun σ' G => ∃ D : Addr, σ' = [some (.ref d), some (.ref x), some no, some od, some di, some tx, some to, some (.ref gd), some (.ref D), none] ∧ At Tb H G8 d D ["kinds"] G, ?_, ?_⟩
    · refine ⟨s8.t, fun G1 eN t1 => ?_⟩
      have u : Same (sub d G8) G1 := sub_keep sub_in (.ofN eN)
      refine ⟨_, rfl, _, rfl, no, od, rfl, hno.same u, .inl ⟨rfl, l1, fun D nD => ⟨D, rfl, ?_⟩⟩⟩
      have hd1 := dice_exN eN s8.hd
      have sD := same_new (o := .lst [V.str "kinds"]) (Same.refl G1) nD
      refine ⟨fun b o e => sD _ _ (u b o e), upd_same, t1.ext sD, (s8.e.trans (.ofN eN)).trans (.of sD), dice_upd hd1 (dice_ne hd1 nD), dice_ne hd1 nD, ?_, fun o e t => ?_⟩
      · cases c : sub d G8 D with
        | none => rfl
        | some o => rw [u D o c] at nD; cases nD
      · have := (s8.e.trans (.ofN eN)) D o (dice_ne hd1 nD) e t
        rw [nD] at this
        cases this
    rintro σ' G9 ⟨D, rfl, A⟩
    refine ⟨fun σ' G => σ' = [some (.ref d), some (.ref x), some no, some od, some di, some tx, some to, some (.ref gd), some (.ref D), none] ∧ At Tb H G8 d D ["kinds", "kinds"] G, ?_, ?_⟩
    · refine ⟨_, rfl, ⟨.inl ⟨rfl, _, .inl (.inl A.e)⟩, ⟨A.t, fun G1 eN t1 => ?_⟩⟩⟩
      have u : Same (sub d G8) G1 := sub_keep A.s (.ofN eN)
      exact ⟨_, rfl, _, rfl, no, od, rfl, hno.same u, .inl ⟨rfl, (by have A2 := A.go eN t1 (Same.refl G1); exact ⟨D, _, _, rfl, rfl, A2.e, by show 1 < sizeLine; omega, rfl, A2.push _⟩)⟩⟩
    clear A
    rintro σ' G10 ⟨rfl, A⟩
    refine ⟨fun σ' G => σ' = [some (.ref d), some (.ref x), some no, some od, some di, some tx, some to, some (.ref gd), some (.ref D), none] ∧ At Tb H G8 d D ["kinds", "kinds", "kinds"] G, ?_, ?_⟩
    · refine ⟨_, rfl, ⟨.inl ⟨rfl, _, .inl (.inl A.e)⟩, ⟨A.t, fun G1 eN t1 => ?_⟩⟩⟩
      have u : Same (sub d G8) G1 := sub_keep A.s (.ofN eN)
      exact ⟨_, rfl, _, rfl, no, .ref gd, rfl, hno.same u, .inl ⟨rfl, (by have A2 := A.go eN t1 (Same.refl G1); exact ⟨D, _, _, rfl, rfl, A2.e, by show 2 < sizeLine; omega, rfl, A2.push _⟩)⟩⟩
    clear A
    rintro σ' G11 ⟨rfl, A⟩
    refine ⟨fun σ' G => σ' = [some (.ref d), some (.ref x), some no, some od, some di, some tx, some to, some (.ref gd), some (.ref D), none] ∧ At Tb H G8 d D ["kinds", "kinds", "kinds", "row"] G, ?_, ?_⟩
    · refine ⟨_, rfl, ⟨.inl ⟨rfl, _, .inl (.inl A.e)⟩, ⟨A.t, fun G1 eN t1 => ?_⟩⟩⟩
      have u : Same (sub d G8) G1 := sub_keep A.s (.ofN eN)
      exact ⟨_, rfl, _, rfl, x, md, "a", M1, ns, to, rfl, s8.k.same u, hto.same u, fun H' s => .inr (.inl ⟨rfl, (by have A2 := A.go eN t1 s; exact ⟨D, _, _, rfl, rfl, A2.e, by show 3 < sizeLine; omega, rfl, A2.push _⟩)⟩)⟩
    clear A
    rintro σ' G12 ⟨rfl, A⟩
    refine ⟨fun σ' G => σ' = [some (.ref d), some (.ref x), some no, some od, some di, some tx, some to, some (.ref gd), some (.ref D), none] ∧ At Tb H G8 d D ["kinds", "kinds", "kinds", "row", "row"] G, ?_, ?_⟩
    · refine ⟨_, rfl, ⟨.inl ⟨rfl, _, .inl (.inl A.e)⟩, ⟨A.t, fun G1 eN t1 => ?_⟩⟩⟩
      have u : Same (sub d G8) G1 := sub_keep A.s (.ofN eN)
      exact ⟨_, rfl, to, rfl, hto.same u, fun H' s => .inr (.inl ⟨rfl, (by have A2 := A.go eN t1 s; exact ⟨D, _, _, rfl, rfl, A2.e, by show 4 < sizeLine; omega, rfl, A2.push _⟩)⟩)⟩
    clear A
    rintro σ' G13 ⟨rfl, A⟩
    refine ⟨fun σ' G => σ' = [some (.ref d), some (.ref x), some no, some od, some di, some tx, some to, some (.ref gd), some (.ref D), none] ∧ At Tb H G8 d D ["kinds", "kinds", "kinds", "row", "row", "row"] G, ?_, ?_⟩
    · refine ⟨_, rfl, ⟨.inl ⟨rfl, _, .inl (.inl A.e)⟩, ⟨A.t, fun G1 eN t1 => ?_⟩⟩⟩
      have u : Same (sub d G8) G1 := sub_keep A.s (.ofN eN)
      exact ⟨_, rfl, to, rfl, hto.same u, fun H' s => .inr (.inl ⟨rfl, (by have A2 := A.go eN t1 s; exact ⟨D, _, _, rfl, rfl, A2.e, by show 5 < sizeLine; omega, rfl, A2.push _⟩)⟩)⟩
    clear A
    rintro σ' G14 ⟨rfl, A⟩
    refine ⟨fun σ' G => σ' = [some (.ref d), some (.ref x), some no, some od, some di, some tx, some to, some (.ref gd), some (.ref D), none] ∧ At Tb H G8 d D ["kinds", "kinds", "kinds", "row", "row", "row", "row"] G, ?_, ?_⟩
    · refine ⟨_, rfl, ⟨.inl ⟨rfl, _, .inl (.inl A.e)⟩, ⟨A.t, fun G1 eN t1 => ?_⟩⟩⟩
      have u : Same (sub d G8) G1 := sub_keep A.s (.ofN eN)
      exact ⟨_, rfl, od, rfl, hod.same u, fun H' s => .inr (.inl ⟨rfl, (by have A2 := A.go eN t1 s; exact ⟨D, _, _, rfl, rfl, A2.e, by show 6 < sizeLine; omega, rfl, A2.push _⟩)⟩)⟩
    clear A
    rintro σ' G15 ⟨rfl, A⟩
    refine ⟨fun σ' G => σ' = [some (.ref d), some (.ref x), some no, some od, some di, some tx, some to, some (.ref gd), some (.ref D), none] ∧ At Tb H G8 d D ["kinds", "kinds", "kinds", "row", "row", "row", "row", "row"] G, ?_, ?_⟩
    · refine ⟨_, rfl, ⟨.inl ⟨rfl, _, .inl (.inl A.e)⟩, ⟨A.t, fun G1 eN t1 => ?_⟩⟩⟩
      have u : Same (sub d G8) G1 := sub_keep A.s (.ofN eN)
      exact ⟨_, rfl, _, rfl, to, .ref gd, rfl, fun H' s => .inr (.inl ⟨rfl, (by have A2 := A.go eN t1 s; exact ⟨D, _, _, rfl, rfl, A2.e, by show 7 < sizeLine; omega, rfl, A2.push _⟩)⟩), .inl (hto.same u)⟩
    clear A
    rintro σ' G16 ⟨rfl, A⟩
    refine ⟨fun σ' G => σ' = [some (.ref d), some (.ref x), some no, some od, some di, some tx, some to, some (.ref gd), some (.ref D), none] ∧ At Tb H G8 d D ["kinds", "kinds", "kinds", "row", "row", "row", "row", "row", "row"] G, ?_, ?_⟩
    · refine ⟨_, rfl, ⟨.inl ⟨rfl, _, .inl (.inl A.e)⟩, ⟨A.t, fun G1 eN t1 => ?_⟩⟩⟩
      have u : Same (sub d G8) G1 := sub_keep A.s (.ofN eN)
      exact ⟨_, rfl, _, rfl, .ref gd, to, rfl, fun H' s => .inr (.inl ⟨rfl, (by have A2 := A.go eN t1 s; exact ⟨D, _, _, rfl, rfl, A2.e, by show 8 < sizeLine; omega, rfl, A2.push _⟩)⟩), .inr ⟨gd, _, rfl, hgd.same u, few_good, (by show looseB [["a"], [], ["a", "a"]] = true; decide +kernel), hto.same u⟩⟩
    clear A
    rintro σ' G17 ⟨rfl, A⟩
    refine ⟨fun σ' G => σ' = [some (.ref d), some (.ref x), some no, some od, some di, some tx, some to, some (.ref gd), some (.ref D), none] ∧ At Tb H G8 d D ["kinds", "kinds", "kinds", "row", "row", "row", "row", "row", "row", "row"] G, ?_, ?_⟩
    · refine ⟨_, rfl, ⟨.inl ⟨rfl, _, .inl (.inl A.e)⟩, ⟨A.t, fun G1 eN t1 => ?_⟩⟩⟩
      have u : Same (sub d G8) G1 := sub_keep A.s (.ofN eN)
      exact ⟨_, rfl, di, rfl, (hdi.same u).1, fun H' s => .inr (.inl ⟨rfl, (by have A2 := A.go eN t1 s; exact ⟨D, _, _, rfl, rfl, A2.e, by show 9 < sizeLine; omega, rfl, A2.push _⟩)⟩)⟩
    clear A
    rintro σ' G18 ⟨rfl, A⟩
    refine ⟨fun σ' G => σ' = [some (.ref d), some (.ref x), some no, some od, some di, some tx, some to, some (.ref gd), some (.ref D), none] ∧ At Tb H G8 d D ["kinds", "kinds", "kinds", "row", "row", "row", "row", "row", "row", "row", "parse None"] G, ?_, ?_⟩
    · refine ⟨_, rfl, ⟨.inl ⟨rfl, _, .inl (.inl A.e)⟩, ⟨A.t, fun G1 eN t1 => ?_⟩⟩⟩
      have u : Same (sub d G8) G1 := sub_keep A.s (.ofN eN)
      exact ⟨_, rfl, tx, rfl, (htx.same u).1, fun dd H' s e => .inr (.inr ⟨rfl, dd, rfl, e, (by have A2 := A.go eN t1 s; exact ⟨D, _, _, rfl, rfl, A2.e, by show 10 < sizeLine; omega, rfl, A2.push _⟩)⟩)⟩
    clear A
    rintro σ' G19 ⟨rfl, A⟩
    refine ⟨fun σ' G => σ' = [some (.ref d), some (.ref x), some no, some od, some di, some tx, some to, some (.ref gd), some (.ref D), none] ∧ At Tb H G8 d D ["kinds", "kinds", "kinds", "row", "row", "row", "row", "row", "row", "row", "parse None", "parse None"] G, ?_, ?_⟩
    · refine ⟨_, rfl, ⟨.inl ⟨rfl, _, .inl (.inl A.e)⟩, ⟨A.t, fun G1 eN t1 => ?_⟩⟩⟩
      have u : Same (sub d G8) G1 := sub_keep A.s (.ofN eN)
      exact ⟨_, rfl, tx, rfl, htx.same u, fun dd H' s e => .inr (.inr ⟨rfl, dd, rfl, e, (by have A2 := A.go eN t1 s; exact ⟨D, _, _, rfl, rfl, A2.e, by show 11 < sizeLine; omega, rfl, A2.push _⟩)⟩)⟩
    clear A
    rintro σ' G20 ⟨rfl, A⟩
    have st : ∀ {G : Hp} {p : Addr} {o : HO}, G p = none → Same G (upd G p o) := fun {G p o} n => same_new (Same.refl G) n
    have big1000 : 1000 ≤ sizeLine := by omega
    -- as it is due
    refine ⟨fun σ' G => σ' = [some (.ref d), some (.ref x), some no, some od, some di, some tx, some to, some (.ref gd), some (.ref D), none] ∧ Same G20 G, ?_, ?_⟩
    · refine ⟨_, rfl, l1, fun p1 m1 => ?_⟩
      have s1 := st (o := .lst [.str "kinds"]) m1
      have e1 : (upd G20 p1 (.lst [.str "kinds"])) p1 = some (.lst [.str "kinds"]) := upd_same
      generalize upd G20 p1 (.lst [.str "kinds"]) = J1 at s1 e1
      refine ⟨p1, 3, _, rfl, rfl, e1, by decide, by decide, by show 1 * 3 ≤ sizeLine; omega, fun p2 m2 => ?_⟩
      have s2 := st (o := .lst [.str "kinds", .str "kinds", .str "kinds"]) m2
      have e2 : (upd J1 p2 (.lst [.str "kinds", .str "kinds", .str "kinds"])) p2 = some (.lst [.str "kinds", .str "kinds", .str "kinds"]) := upd_same
      have r2 : (List.replicate (3 : Int).toNat [V.str "kinds"]).flatten = [.str "kinds", .str "kinds", .str "kinds"] := rfl
      rw [r2]
      generalize upd J1 p2 (.lst [.str "kinds", .str "kinds", .str "kinds"]) = J2 at s2 e2
      refine ⟨l1, fun p3 m3 => ?_⟩
      have s3 := st (o := .lst [.str "row"]) m3
      have e3 : (upd J2 p3 (.lst [.str "row"])) p3 = some (.lst [.str "row"]) := upd_same
      generalize upd J2 p3 (.lst [.str "row"]) = J3 at s3 e3
      refine ⟨p3, 7, _, rfl, rfl, e3, by decide, by decide, by show 1 * 7 ≤ sizeLine; omega, fun p4 m4 => ?_⟩
      have r4 : (List.replicate (7 : Int).toNat [V.str "row"]).flatten = [.str "row", .str "row", .str "row", .str "row", .str "row", .str "row", .str "row"] := rfl
      rw [r4]
      have s4 := st (o := .lst [.str "row", .str "row", .str "row", .str "row", .str "row", .str "row", .str "row"]) m4
      have e4 : (upd J3 p4 (.lst [.str "row", .str "row", .str "row", .str "row", .str "row", .str "row", .str "row"])) p4 = some (.lst [.str "row", .str "row", .str "row", .str "row", .str "row", .str "row", .str "row"]) := upd_same
      generalize upd J3 p4 (.lst [.str "row", .str "row", .str "row", .str "row", .str "row", .str "row", .str "row"]) = J4 at s4 e4
      refine ⟨p2, p4, _, _, rfl, rfl, s4 _ _ (s3 _ _ e2), e4, by show 3 + 7 ≤ sizeLine; omega, fun p5 m5 => ?_⟩
      have r5 : ([.str "kinds", .str "kinds", .str "kinds"] ++ [.str "row", .str "row", .str "row", .str "row", .str "row", .str "row", .str "row"] : List V) = [.str "kinds", .str "kinds", .str "kinds", .str "row", .str "row", .str "row", .str "row", .str "row", .str "row", .str "row"] := rfl
      rw [r5]
      have s5 := st (o := .lst [.str "kinds", .str "kinds", .str "kinds", .str "row", .str "row", .str "row", .str "row", .str "row", .str "row", .str "row"]) m5
      have e5 : (upd J4 p5 (.lst [.str "kinds", .str "kinds", .str "kinds", .str "row", .str "row", .str "row", .str "row", .str "row", .str "row", .str "row"])) p5 = some (.lst [.str "kinds", .str "kinds", .str "kinds", .str "row", .str "row", .str "row", .str "row", .str "row", .str "row", .str "row"]) := upd_same
      generalize upd J4 p5 (.lst [.str "kinds", .str "kinds", .str "kinds", .str "row", .str "row", .str "row", .str "row", .str "row", .str "row", .str "row"]) = J5 at s5 e5
      refine ⟨l1, fun p6 m6 => ?_⟩
      have s6 := st (o := .lst [.str "parse None"]) m6
      have e6 : (upd J5 p6 (.lst [.str "parse None"])) p6 = some (.lst [.str "parse None"]) := upd_same
      generalize upd J5 p6 (.lst [.str "parse None"]) = J6 at s6 e6
      refine ⟨p6, 2, _, rfl, rfl, e6, by decide, by decide, by show 1 * 2 ≤ sizeLine; omega, fun p7 m7 => ?_⟩
      have r7 : (List.replicate (2 : Int).toNat [V.str "parse None"]).flatten = [.str "parse None", .str "parse None"] := rfl
      rw [r7]
      have s7 := st (o := .lst [.str "parse None", .str "parse None"]) m7
      have e7 : (upd J6 p7 (.lst [.str "parse None", .str "parse None"])) p7 = some (.lst [.str "parse None", .str "parse None"]) := upd_same
      generalize upd J6 p7 (.lst [.str "parse None", .str "parse None"]) = J7 at s7 e7
      refine ⟨p5, p7, _, _, rfl, rfl, s7 _ _ (s6 _ _ e5), e7, by show 10 + 2 ≤ sizeLine; omega, fun p8 m8 => ?_⟩
      have s8' := st (o := .lst (WORDS.map V.str)) m8
      have e8 : (upd J7 p8 (.lst (WORDS.map V.str))) p8 = some (.lst (WORDS.map V.str)) := upd_same
      have r8 : ([.str "kinds", .str "kinds", .str "kinds", .str "row", .str "row", .str "row", .str "row", .str "row", .str "row", .str "row"] ++ [.str "parse None", .str "parse None"] : List V) = WORDS.map V.str := rfl
      rw [r8]
      generalize upd J7 p8 (.lst (WORDS.map V.str)) = J8 at s8' e8
      have ss : Same G20 J8 := fun b o e => s8' _ _ (s7 _ _ (s6 _ _ (s5 _ _ (s4 _ _ (s3 _ _ (s2 _ _ (s1 _ _ e)))))))
      refine ⟨wordsD WORDS, wordsD WORDS, .lst (.inl (.inl (ss _ _ A.e))) (dp_texts WORDS), .lst (.inl (.inl e8)) (dp_texts WORDS), words_shaped, words_shaped, ?_⟩
      rw [words_eqv]
      refine ⟨_, rfl, ?_⟩
      show (if (!true) = true then _ else _)
      rw [if_neg (by decide)]
      exact ⟨rfl, ss⟩
    rintro σ' G21 ⟨rfl, s21⟩
    have u21 : Same (sub d G8) G21 := fun b o e => s21 _ _ (A.s b o e)
    have x21 : ExtX d H G21 := A.x.trans (.of s21)
    have t21 := A.t.ext s21
    have hd21 := dice_exN (.of s21) A.hd
    clear A s21
    -- judged
    refine ⟨fun σ' G => ∃ j : Addr, σ' = [some (.ref d), some (.ref x), some no, some od, some di, some tx, some to, some (.ref gd), some (.ref D), some (.ref j)] ∧ Same G21 G ∧ G j = some (.lst [.bl false, .bl false, .bl false, .bl true, .bl true]), ?_, ?_⟩
    · refine row_no rfl rfl (s8.k.same u21) (hto.same u21) fun A1 a1 => ?_
      have v1 : Same (sub d G8) A1 := fun b o e => a1 _ _ (u21 b o e)
      refine loose_no rfl (hto.same v1) fun A2 a2 => ?_
      have v2 : Same (sub d G8) A2 := fun b o e => a2 _ _ (v1 b o e)
      refine ⟨_, rfl, di, false, rfl, (hdi.same v2).2, fun A3 a3 => ?_⟩
      have v3 : Same (sub d G8) A3 := fun b o e => a3 _ _ (v2 b o e)
      refine row_yes rfl rfl (s8.k.same v3) (hgd.same v3) fun A4 a4 => ?_
      have v4 : Same (sub d G8) A4 := fun b o e => a4 _ _ (v3 b o e)
      refine loose_yes rfl (hgd.same v4) fun A5 a5 => ?_
      refine ⟨by show 5 ≤ sizeLine; omega, fun j nj => ⟨j, rfl, fun b o e => st nj _ _ (a5 _ _ (a4 _ _ (a3 _ _ (a2 _ _ (a1 _ _ e))))), upd_same⟩⟩
    rintro σ' G22 ⟨j, rfl, s22, ej⟩
    have u22 : Same (sub d G8) G22 := fun b o e => s22 _ _ (u21 b o e)
    refine ⟨_, rfl, by show 5 ≤ sizeLine; omega, fun j2 nj => ?_⟩
    have s23 := st (o := .lst [.bl false, .bl false, .bl false, .bl true, .bl true]) nj
    refine ⟨judD, judD, .lst (.inl (.inl (s23 _ _ ej))) (.cons (.bl _) (.cons (.bl _) (.cons (.bl _) (.cons (.bl _) (.cons (.bl _) .nil))))), .lst (.inl (.inl upd_same)) (.cons (.bl _) (.cons (.bl _) (.cons (.bl _) (.cons (.bl _) (.cons (.bl _) .nil))))), jud_shaped, jud_shaped, ?_⟩
    rw [jud_eqv]
    generalize upd G22 j2 (.lst [.bl false, .bl false, .bl false, .bl true, .bl true]) = G23 at s23
    have u23 : Same (sub d G8) G23 := fun b o e => s23 _ _ (u22 b o e)
    refine ⟨_, rfl, _, rfl, _, rfl, x, md, gd, "a", M1, ns, _, rfl, s8.k.same u23, vldM, hgd.same u23, loose_good, exist_good, fun G24 s24 => ?_⟩
    have s2 : Same G21 G24 := fun b o e => s24 _ _ (s23 _ _ (s22 _ _ e))
    refine ⟨rfl, ?_⟩
    rw [show (keysL "a" M1 ([(q1, [("a" : Str)]), (q2, []), (q3, ["a", "a"])].map (·.2)) [(q1, [("a" : Str)]), (q2, []), (q3, ["a", "a"])].length).sum = 9 from keys_good]
    exact q _ (x21.trans (.of s2)) (t21.ext s2) (dice_exN (.of s2) hd21)
end
end Kl

set_option maxRecDepth 100000
set_option maxHeartbeats 4000000
/-! ### a text so many times -/
namespace Gx
open PySem PySem.Spec PyProof.Rows L2
def repS (x : Str) (k : Nat) : Str := ⟨(List.replicate k x.cps).foldl (· ++ ·) #[]⟩
def rMulS : R2 := fun x y H Q => ∃ (z : Str) (k : Nat), x = .str z ∧ y = .int (k : Nat) ∧ 2 ≤ k ∧ 1 ≤ z.length ∧ z.length ≤ 1000 ∧ k ≤ 1000 ∧ Q (.str (repS z k)) H
section
variable {X : Cx}
theorem rep_size (a : Array Nat) : ∀ (k : Nat) (b : Array Nat), ((List.replicate k a).foldl (· ++ ·) b).size = b.size + k * a.size
  | 0, b => by simp
  | k + 1, b => by
    rw [List.replicate_succ, List.foldl_cons, rep_size a k, Array.size_append, Nat.succ_mul]
    omega
theorem op_mulS : OpR X (binaryOp .Mult) rMulS := by
  intro pins s σ H x y v u Q I rx ry h
  obtain ⟨z, k, rfl, rfl, h2, hz1, hz, hk, q⟩ := h
  obtain ⟨t, rfl⟩ := rx
  obtain ⟨t', rfl⟩ := ry
  have e1 : ¬ ((k : Nat) : Int) < 1 := by omega
  have e2 : ((((k : Nat) : Int) == 1 || z.length == 0)) = false := by
    rw [Bool.or_eq_false_iff]
    refine ⟨?_, ?_⟩
    · exact beq_false_of_ne (by omega)
    · exact beq_false_of_ne (by omega)
  have sz : z.length * k ≤ sizeLine := Nat.le_trans (Nat.mul_le_mul hz hk) (by decide)
  refine PySem.P.mul_str ?_ (fun _ _ => ?_) (fun _ _ => ?_) ?_
  · rw [decide_eq_false (show ¬ ((k : Nat) : Int) < -(2 ^ 63 : Int) by omega), decide_eq_false (show ¬ ((k : Nat) : Int) ≥ 2 ^ 63 by omega)]
    rfl
  · have h3 : (1000 : Int) ≤ (2 ^ 63 - 1) / ((k : Nat) : Int) := Int.le_ediv_of_mul_le (by omega) (by omega)
    omega
  · rw [Int.toNat_natCast]
    exact decide_eq_false (by omega)
  · rw [if_neg e1, e2, if_neg (by decide), Int.toNat_natCast]
    refine ⟨?_, .str (repS z k), H, I.tok _, ⟨_, rfl⟩, q⟩
    show _ ≤ sizeLine
    have h4 := rep_size z.cps k #[]
    have h5 : (repS z k).length = #[].size + k * z.cps.size := h4
    have h6 : z.cps.size = z.length := rfl
    have h7 : k * z.cps.size = z.length * k := by rw [h6, Nat.mul_comm]
    have h8 : (#[] : Array Nat).size = 0 := rfl
    show ((List.replicate k z.cps).foldl (· ++ ·) #[]).size ≤ sizeLine
    omega
end
end Gx

set_option maxRecDepth 100000
set_option maxHeartbeats 4000000
namespace Kl
open PySem PySem.Spec PyProof.Rows L2 Gx Mx LamX
/-! ### great texts -/
def Zn (n : Nat) : Str := repS "0 " n ++ "a"
def greatQ (n : Nat) : List (List Str) := List.replicate n ([] : List Str) ++ [[("a" : Str)]]
theorem great_good (n : Nat) : ∀ q ∈ greatQ n, goodB q = true := fun q hq => by
  rcases List.mem_append.mp hq with h | h
  · rw [(List.mem_replicate.mp h).2]
    decide +kernel
  · rw [List.mem_singleton.mp h]
    decide +kernel
theorem great_len (n : Nat) : (greatQ n).length = n + 1 := by
  unfold greatQ
  rw [List.length_append, List.length_replicate]
  rfl
theorem foldl_cps (a : Array Nat) : ∀ (k : Nat) (b : Array Nat), ((List.replicate k a).foldl (· ++ ·) b).toList = b.toList ++ (List.replicate k a.toList).flatten
  | 0, b => by simp
  | k + 1, b => by
    rw [List.replicate_succ, List.foldl_cons, foldl_cps a k, List.replicate_succ, List.flatten_cons, Array.toList_append, List.append_assoc]
theorem rep_cps (x : Str) (k : Nat) : (repS x k).cps.toList = (List.replicate k x.cps.toList).flatten := by
  have h := foldl_cps x.cps k #[]
  exact h.trans (List.nil_append _)
theorem great_cps : ∀ n, (Str.join " " ((greatQ n).map textD)).cps.toList = (List.replicate n ([48, 32] : List Nat)).flatten ++ [97]
  | 0 => by decide +kernel
  | n + 1 => by
    have e : (greatQ (n + 1)).map textD = ("0" : Str) :: (greatQ n).map textD := by
      unfold greatQ
      rw [List.replicate_succ, List.cons_append, List.map_cons]
      rfl
    obtain ⟨a, r, ea⟩ : ∃ a r, (greatQ n).map textD = a :: r := by
      cases c : (greatQ n).map textD with
      | nil =>
        have := congrArg List.length c
        rw [List.length_map, great_len] at this
        cases this
      | cons a r => exact ⟨a, r, rfl⟩
    have ih := great_cps n
    rw [e, ea]
    rw [ea] at ih
    show (("0" : Str) ++ " " ++ Str.join " " (a :: r)).cps.toList = _
    rw [cps_app', cps_app', ih, List.replicate_succ, List.flatten_cons]
    rfl
theorem Zn_cps (n : Nat) : (Zn n).cps.toList = (List.replicate n ([48, 32] : List Nat)).flatten ++ [97] := by
  unfold Zn
  rw [cps_app', rep_cps]
  rfl
theorem str_ext {a b : Str} (h : a.cps.toList = b.cps.toList) : a = b := by
  cases a with
  | mk x =>
    cases b with
    | mk y =>
      have : x = y := by
        cases x; cases y
        exact congrArg Array.mk h
      rw [this]
theorem Zn_join (n : Nat) : Zn n = Txt.join " " ((greatQ n).map textD) := by
  rw [TL.join_eq]
  exact str_ext ((Zn_cps n).trans (great_cps n).symm)
theorem Zn_split (n : Nat) : Txt.split (Zn n) " " = (greatQ n).map textD := by
  rw [Zn_join]
  exact split_digits (great_good n) (fun h => by have := congrArg List.length h; rw [great_len] at this; cases this)
theorem Zn_parse (n : Nat) : allSome ((Txt.split (Zn n) " ").map parseD) = some (greatQ n) := by
  rw [Zn_split, List.map_map]
  have h := allSome_map (f := parseD ∘ textD) (g := id) (xs := greatQ n) fun x hx => text_parse (great_good n x hx)
  rw [List.map_id] at h
  exact h
theorem Zn_len (n : Nat) : (Zn n).length = 2 * n + 1 := by
  have h := congrArg List.length (Zn_cps n)
  rw [List.length_append, List.length_flatten, List.map_replicate, List.sum_replicate_nat] at h
  have h2 : (Zn n).length = (Zn n).cps.toList.length := rfl
  rw [h2, h]
  show n * 2 + 1 = _
  omega
theorem Zn_ne (n : Nat) (h : 1 ≤ n) : Zn n ≠ "-" := fun e => by
  have := Zn_len n
  rw [e] at this
  have h1 : ("-" : Str).length = 1 := by decide +kernel
  omega
theorem great_l : looseB (greatQ 401) = true := by
  refine loose_of (by rw [great_len]; omega) (great_good _) fun j hj => ?_
  rw [great_len] at hj
  have : j = 401 := by omega
  subst this
  unfold dg greatQ
  rw [List.getElem?_append_right (by rw [List.length_replicate]; omega), List.length_replicate]
  exact List.cons_ne_nil _ _
theorem great_no : looseB (greatQ 402) = false := by
  unfold looseB
  rw [great_len, decide_eq_false (by omega), Bool.false_and, Bool.false_and]
def D20 (c : Str) (p : Str) (n : Nat) : Str := c ++ repS p n
theorem d20 : parseD (D20 "a" "+a" 19) = some (List.replicate 20 ("a" : Str)) := by decide +kernel
theorem d21 : parseD (D20 "a" "+a" 20) = none := by decide +kernel
theorem b20 : parseD (D20 "b" "+b" 19) = some (List.replicate 20 ("b" : Str)) := by decide +kernel
theorem d_len : (D20 "a" "+a" 19).length ≤ 4000 ∧ (D20 "a" "+a" 20).length ≤ 4000 ∧ (D20 "b" "+b" 19).length ≤ 4000 := by decide +kernel
section
variable {P : Program} {w : World} {K : PySem.W.Frag} {mg : Str → Option Value} {base : Heap}
/-! ### read_row of great texts -/
def spRR2 (K : PySem.W.Frag) (CP : Addr) : Sp := fun vs H Q E => ∃ (z : Str) (qs : List (List Str)), vs = [V.str z] ∧ z ≠ "-" ∧ z.length ≤ 4000 ∧ (Txt.split z " ").length ≤ 1000 ∧ allSome ((Txt.split z " ").map parseD) = some qs ∧
  (looseB qs = true → ∀ p LL H', LL.map (·.2) = qs → Same H H' → RowAt K H' p LL → Q (.ref p) H') ∧ (looseB qs = false → ∀ dd H', Same H H' → H' dd = some (.xd [("number", .non)]) → E (.ref CP) (some dd) H')
theorem ok_rr2 {CP fI f : Addr} {fd fdI : FuncData} (F : Fun K "read_row" "read_row" s_read_row f fd) (T : Top K mg) (TX : XT_ParseError K mg CP fI) (FX : Fun K "__init__" "ParseError.__init__" s_ParseError_init fI fdI) :
    FnOk P w K mg base (L2.CX P w) 7 f fd ["text"] (spRR2 K CP) := by
  obtain ⟨tm, gm⟩ := T.g_LOOSE_DIGIT
  have cn : CalO P w K mg base 6 "names_in" ["text", "most"] 1 ["most"] (fun vs zs => vs ++ zs) spNI := (T.d_names_in.calO fun f fd F => ok_ni F T).mono (by decide)
  have cw : Cal P w K mg base 6 "words_of" ["line"] spWords := (T.d_words_of.cal fun f fd F => ok_words F T).mono (by decide)
  have cl : Cal P w K mg base 6 "is_loose" ["value"] (spLooseA K) := T.d_is_loose.cal fun f fd F => ok_looseA F T
  refine F.okX sc_read_row (fun vs H Q E h => ?_) (fun cdv A outer s H vs Q E hr h => ?_)
  · obtain ⟨z, qs, rfl, _⟩ := h
    rfl
  · obtain ⟨z, qs, rfl, ez, hz4, lw, hpr, q1, q2⟩ := h
    refine ⟨_, pss_cons (ps_if (pt_cmpR op_eq (pv 0) pe_str (nomark _)) (pss_one (ps_ret (pe_tup pa_nil))) pss_nil)
      (pss_cut (ps_set (i := 1) sc_read_row.nd rfl (.inl rfl) (pe_callTy call_tuple_of (by rfl) T.b_tuple (by decide +kernel) (pa_cons
        (pe_lc (own := [("word", 2)]) (g := gName 2) (tt := tYes) rfl sc_read_row.nd (pi_list (pe_cal cw hr (by rfl) (pa_cons (pv 0) pa_nil)))
          (blkOk_by (N := NRR) (sc := defScope s_read_row) (by decide +kernel)) (fun _ _ _ _ _ => pg_name (i := 2) sc_read_row.nd rfl (.inl rfl)) (fun _ _ _ _ _ => pts_nil)
          (fun _ _ _ _ _ => pe_calO cn hr (by rfl) (pa_cons (pv 2) pa_nil) (pk_cons (pe_glob (v := .int 20) (by rfl) gm ⟨_, rfl⟩) pk_nil))) pa_nil)))
      (pss_cons (ps_if (PW.pt (pw_or (pt_not (pt_truth (pv 1) (fun _ => rfl))) (pw_or1 (pt_not (pt_val (pe_cal cl hr (by rfl) (pa_cons (pv 1) pa_nil))))))) (pss_one (ps_raiseX rfl PySem.F.excBase_ValueError TX (init_ParseError TX FX) hr (takes_of rfl rfl rfl rfl) (pa_cons pe_non pa_nil) (by rfl))) pss_nil)
      (pss_one (ps_ret (pv 1))))), ?_⟩
    have big : 100000 ≤ sizeLine := by decide
    refine ⟨_, rfl, rfl, _, rfl, ite2 (fun c => absurd (V.str.inj (of_decide_eq_true c)) ez) (fun c => ?_)⟩
    have wlen : ∀ y ∈ Txt.split z " ", y.length ≤ 4000 := fun y hy => Nat.le_trans (split_short (by decide +kernel) hy) hz4
    have wne := split_ne z " "
    refine ⟨fun σ' G => ∃ (p : Addr) (xs : List V), σ' = [some (.str z), some (.ref p), none] ∧ G p = some (.tup xs) ∧ Same H G ∧ xs.length = (Txt.split z " ").length ∧ DgA K G (Txt.split z " ") xs, ?_, ?_⟩
    · refine ⟨_, rfl, z, rfl, hz4, fun l H1 s1 el => ?_⟩
      refine ⟨l, rfl, ⟨_, .inl (.inl el)⟩, fun D hD => ?_⟩
      generalize Txt.split z " " = ws at lw wlen el
      have nlD : l ≠ D := fun h => by rw [h, hD] at el; cases el
      refine lc_it (g := gName 2) (tt := tYes) (vs := [2]) (walk_list (K := K) (a := l) (xs := ws.map V.str)) (fun j G' => ∃ xs : List V, G' D = some (.lst xs) ∧ xs.length = j ∧ Same H1 G' ∧ DgA K G' ws xs)
        ⟨[], upd_same, rfl, same_new (Same.refl H1) hD, fun i a b _ e => by cases e⟩ (fun j G' _ h => by obtain ⟨_, _, _, s, _⟩ := h; exact .inl (.inl (s _ _ el))) (fun j u Gx G' hj h hy => ?_) (fun G' h => ?_)
      · obtain ⟨xs, eD, lx, sm, hA⟩ := h
        obtain ⟨rfl, hu⟩ := hy
        have hu : (ws.map V.str)[j]? = some u := hu
        rw [List.getElem?_map] at hu
        obtain ⟨y, hy, rfl⟩ := Option.map_eq_some_iff.mp hu
        rw [List.length_map] at hj
        refine ⟨rfl, _, rfl, rfl, rfl, y, rfl, wlen y (List.mem_of_getElem? hy), fun p q H' hpa s ep => ?_, fun H' hpa s => ?_⟩
        · exact ⟨xs, s _ _ eD, by omega, dgA_snoc eD lx sm hA hy hD s (by unfold DgV; rw [hpa]; exact ⟨p, rfl, .inl (.inl ep)⟩)⟩
        · exact ⟨xs, s _ _ eD, by omega, dgA_snoc eD lx sm hA hy hD s (by unfold DgV; rw [hpa])⟩
      · obtain ⟨xs, eD, lx, sm, hA⟩ := h
        rw [List.length_map] at lx
        refine ⟨D, xs, rfl, .inl ⟨.inl (.inl eD), fun t nt => ?_⟩⟩
        exact ⟨t, xs, rfl, upd_same, fun b o e => same_new sm nt b o (s1 _ _ e), lx, fun i a b e1 e2 => (hA i a b e1 e2).same (same_new (Same.refl G') nt)⟩
    generalize Txt.split z " " = ws at lw hpr wlen wne
    rintro σ' G ⟨p, xs, rfl, ep, sm, lx, hA⟩
    have xne : xs ≠ [] := fun h => by
      rw [h] at lx
      exact wne (List.eq_nil_of_length_eq_zero lx.symm)
    obtain ⟨x0, xr, ex⟩ : ∃ x0 xr, xs = x0 :: xr := by
      cases xs with
      | nil => exact absurd rfl xne
      | cons a r => exact ⟨a, r, rfl⟩
    refine ⟨_, rfl, true, .inr (.inl ⟨xs, .inl (.inl ep), by rw [ex]; rfl⟩), ?_⟩
    show (if (!true) = true then _ else _)
    rw [if_neg (by decide)]
    obtain ⟨LL, e1, e2, e3⟩ := dgs_row lx hA hpr
    have hR : RowAt K G p LL := ⟨.inl (.inl (by rw [ep, e1])), e3⟩
    have hgq : ∀ q ∈ qs, goodB q = true := fun q hq => by
      have h1 := allSome_some hpr
      have h2 : some q ∈ ws.map parseD := by
        rw [h1]
        exact List.mem_map.mpr ⟨q, hq, rfl⟩
      obtain ⟨y, _, hy⟩ := List.mem_map.mp h2
      exact (parse_text hy).2
    have lq : qs.length ≤ 1000 := by
      have h1 := congrArg List.length (allSome_some hpr)
      rw [List.length_map, List.length_map] at h1
      omega
    have hF : Few (LL.map (·.2)) := by
      rw [e2]
      exact ⟨by omega, fun x hx => ⟨Nat.le_trans (good20 (hgq x hx)) (by decide), fun z hz => Nat.le_trans (name_len (good_names (hgq x hx) z hz)) (by decide)⟩⟩
    refine ⟨_, rfl, .inr ⟨p, LL, rfl, hR, hF, fun H' s => ⟨_, rfl, ?_⟩⟩⟩
    rw [e2]
    cases c2 : looseB qs with
    | true =>
      show (if (!true) = true then _ else _)
      rw [if_neg (by decide)]
      exact ⟨_, rfl, q1 c2 p LL H' e2 (fun b o e => s _ _ (sm b o e)) (hR.same s)⟩
    | false =>
      show (if (!false) = true then _ else _)
      rw [if_pos (by decide)]
      exact ⟨.non, rfl, fun dd nd => q2 c2 dd _ (same_new (fun b o e => s _ _ (sm b o e)) nd) upd_same⟩
end
end Kl

set_option maxRecDepth 100000
set_option maxHeartbeats 4000000
namespace Gx
open PySem PySem.Spec PyProof.Rows L2
theorem op_repSK {X : Cx} {K : PySem.W.Frag} (hk : X.K = K) : OpR X (binaryOp .Mult) (rRepS K) := by
  subst hk
  exact op_repS
end Gx
namespace Kl
open PySem PySem.Spec PyProof.Rows L2 Gx Mx LamX
theorem op_sub_nat {c m : Nat} (h : m ≤ c) : ((c : Nat) : Int) - ((m : Nat) : Int) = ((c - m : Nat) : Int) := by omega
def oneQ (r m : Nat) : List (List Str) := List.replicate r ([] : List Str) ++ [List.replicate m ("a" : Str)]
def othQ (r c : Nat) : List (List Str) := List.replicate r ([] : List Str) ++ [List.replicate c ("b" : Str), [("a" : Str)]]
theorem one_loose : ∀ r : Fin 3, ∀ m : Fin 21, 0 < m.val → looseB (oneQ r m) = true := by decide +kernel
theorem oth_loose : ∀ r : Fin 3, ∀ c : Fin 21, looseB (othQ r c) = true := by decide +kernel
theorem sum_small : ∀ r : Fin 3, ∀ m : Fin 21, ∀ i : Fin 6, (dg (oneQ r m) i).length + (dg (othQ r (20 - m.val)) i).length ≤ 20 := by decide +kernel
theorem sum_more : ∀ r : Fin 3, ∀ m : Fin 21, 20 < (dg (oneQ r m) r).length + (dg (othQ r (21 - m.val)) r).length := by decide +kernel
theorem dg_out {qs : List (List Str)} {i : Nat} (h : qs.length ≤ i) : dg qs i = [] := by
  unfold dg
  rw [List.getElem?_eq_none h]
  rfl
theorem one_len (r m : Nat) : (oneQ r m).length = r + 1 := by
  unfold oneQ
  rw [List.length_append, List.length_replicate]
  rfl
theorem oth_len (r c : Nat) : (othQ r c).length = r + 2 := by
  unfold othQ
  rw [List.length_append, List.length_replicate]
  rfl
theorem sum_all {r m : Nat} (hr : r ≤ 2) (hm : m ≤ 20) (i : Nat) : (dg (oneQ r m) i).length + (dg (othQ r (20 - m)) i).length ≤ 20 := by
  by_cases c : i < 6
  · exact sum_small ⟨r, by omega⟩ ⟨m, by omega⟩ ⟨i, c⟩
  · rw [dg_out (by rw [one_len]; omega), dg_out (by rw [oth_len]; omega)]
    decide
theorem great_dg {i : Nat} (h : i < 401) : dg (greatQ 401) i = [] := by
  unfold dg greatQ
  rw [List.getElem?_append_left (by rw [List.length_replicate]; exact h), List.getElem?_replicate, if_pos h]
  rfl
theorem sum_great {r m : Nat} (hr : r ≤ 2) (hm : m ≤ 20) (hL : looseB (oneQ r m) = true) (i : Nat) : (dg (greatQ 401) i).length + (dg (oneQ r m) i).length ≤ 20 := by
  have h1 := dg_few (loose_facts hL).2.1 i
  have h2 := dg_few (loose_facts great_l).2.1 i
  by_cases c : i < 401
  · rw [great_dg c]
    show 0 + _ ≤ 20
    omega
  · rw [dg_out (qs := oneQ r m) (by rw [one_len]; omega)]
    show _ + 0 ≤ 20
    omega
theorem few_great (n : Nat) (h : n ≤ 900) : Few (greatQ n) :=
  ⟨by rw [great_len]; omega, fun x hx => ⟨Nat.le_trans (good20 (great_good n x hx)) (by decide), fun z hz => Nat.le_trans (name_len (good_names (great_good n x hx) z hz)) (by decide)⟩⟩
section
variable {K : PySem.W.Frag} {G : Hp} {Q : VK} {σ : L2.St}
theorem rd_pad {te : TE} {r : Nat} (hr : r ≤ 1000) (hte : ∀ (G : Hp) (Q : VK), Q (.int (r : Nat)) G → te σ G Q) (k : ∀ e0 p G', Same G G' → G' e0 = some (.tup []) → SqT K G' p ((List.replicate r (e0, ([] : List Str))).map fun q => V.ref q.1) → Q (.ref p) G') :
    tOp (rRepS K) (tTup (tCons (tTup tNil) tNil)) te σ G Q := by
  refine ⟨Nat.zero_le _, fun e0 n0 => ⟨by show 1 ≤ sizeLine; decide, fun t0 m0 => hte _ _ ?_⟩⟩
  refine ⟨t0, r, [.ref e0], rfl, rfl, tup_in upd_same, by simp, hr, by show 1 ≤ 1000; omega, fun p G2 s2 hp => ?_⟩
  have s1 := same_new (o := .tup []) (Same.refl G) n0
  have s3 := same_new (o := .tup [V.ref e0]) (Same.refl (upd G e0 (.tup []))) m0
  refine k e0 p G2 (fun b o e => s2 _ _ (s3 _ _ (s1 _ _ e))) (s2 _ _ (s3 _ _ upd_same)) ?_
  rw [List.map_replicate]
  have ef : (List.replicate r [V.ref e0]).flatten = List.replicate r (V.ref e0) := by
    clear hp hr hte k
    induction r with
    | zero => rfl
    | succ r ih => rw [List.replicate_succ, List.flatten_cons, ih]; rfl
  rw [ef] at hp
  exact hp
theorem rd_rep {te : TE} {m : Nat} {z : Str} (hm : m ≤ 1000) (hte : ∀ (G : Hp) (Q : VK), Q (.int (m : Nat)) G → te σ G Q) (k : ∀ p G', Same G G' → SqT K G' p ((List.replicate m z).map V.str) → Q (.ref p) G') :
    tOp (rRepS K) (tTup (tCons (tC (.str z)) tNil)) te σ G Q := by
  refine ⟨by show 1 ≤ sizeLine; decide, fun t0 m0 => hte _ _ ?_⟩
  refine ⟨t0, m, [.str z], rfl, rfl, tup_in upd_same, by simp, hm, by show 1 ≤ 1000; omega, fun p G2 s2 hp => ?_⟩
  have s1 := same_new (o := .tup [V.str z]) (Same.refl G) m0
  refine k p G2 (fun b o e => s2 _ _ (s1 _ _ e)) ?_
  rw [List.map_replicate]
  have ef : (List.replicate m [V.str z]).flatten = List.replicate m (V.str z) := by
    clear hp hm hte k
    induction m with
    | zero => rfl
    | succ r ih => rw [List.replicate_succ, List.flatten_cons, ih]; rfl
  rw [ef] at hp
  exact hp
/-- a row put together -/
theorem row_cat {e0 : Addr} {r : Nat} {LL : List (Addr × List Str)} (h0 : G e0 = some (.tup [])) (hT : ∀ q ∈ LL, SqT K G q.1 (q.2.map V.str)) {q : Addr} (hq : SqT K G q (((List.replicate r (e0, ([] : List Str))).map fun q => V.ref q.1) ++ LL.map fun q => V.ref q.1)) :
    RowAt K G q (List.replicate r (e0, []) ++ LL) := by
  refine ⟨by rw [List.map_append]; exact hq, fun y hy => ?_⟩
  rcases List.mem_append.mp hy with h | h
  · rw [(List.mem_replicate.mp h).2]
    exact tup_in h0
  · exact hT y h
theorem rd_one {te te2 : TE} {r m : Nat} (hr : r ≤ 1000) (hm : m ≤ 1000) (hte : ∀ (G : Hp) (Q : VK), Q (.int (r : Nat)) G → te σ G Q) (hte2 : ∀ (G : Hp) (Q : VK), Q (.int (m : Nat)) G → te2 σ G Q)
    (k : ∀ p LL G', Same G G' → RowAt K G' p LL → LL.map (·.2) = oneQ r m → Q (.ref p) G') :
    tOp (rCatS K) (tOp (rRepS K) (tTup (tCons (tTup tNil) tNil)) te) (tTup (tCons (tOp (rRepS K) (tTup (tCons (tC (.str "a")) tNil)) te2) tNil)) σ G Q := by
  refine rd_pad hr hte fun e0 p G1 s1 h0 hp => ?_
  refine rd_rep hm hte2 fun pa G2 s2 ha => ⟨by show 1 ≤ sizeLine; decide, fun tp ntp => ?_⟩
  have s3 := same_new (o := .tup [V.ref pa]) (Same.refl G2) ntp
  refine ⟨p, tp, _, _, rfl, rfl, sqT_sm s3 (sqT_sm s2 hp), tup_in upd_same, ?_, fun q G4 s4 hq => ?_⟩
  · rw [List.length_map, List.length_replicate]
    exact Nat.le_trans (Nat.add_le_add hr (Nat.le_refl 1)) (by decide)
  · refine k q (List.replicate r (e0, []) ++ [(pa, List.replicate m ("a" : Str))]) G4 (fun b o e => s4 _ _ (s3 _ _ (s2 _ _ (s1 _ _ e)))) (row_cat (s4 _ _ (s3 _ _ (s2 _ _ h0))) (row_1 (sqT_sm s4 (sqT_sm s3 ha))) hq) ?_
    rw [List.map_append, List.map_replicate]
    rfl
theorem rd_oth {te te2 : TE} {r c : Nat} (hr : r ≤ 1000) (hc : c ≤ 1000) (hte : ∀ (G : Hp) (Q : VK), Q (.int (r : Nat)) G → te σ G Q) (hte2 : ∀ (G : Hp) (Q : VK), Q (.int (c : Nat)) G → te2 σ G Q)
    (k : ∀ p LL G', Same G G' → RowAt K G' p LL → LL.map (·.2) = othQ r c → Q (.ref p) G') :
    tOp (rCatS K) (tOp (rRepS K) (tTup (tCons (tTup tNil) tNil)) te) (tTup (tCons (tOp (rRepS K) (tTup (tCons (tC (.str "b")) tNil)) te2) (tCons (tTup (tCons (tC (.str "a")) tNil)) tNil))) σ G Q := by
  refine rd_pad hr hte fun e0 p G1 s1 h0 hp => ?_
  refine rd_rep hc hte2 fun pa G2 s2 ha => ⟨by show 1 ≤ sizeLine; decide, fun tz ntz => ⟨by show 2 ≤ sizeLine; decide, fun tp ntp => ?_⟩⟩
  have sz := same_new (o := .tup [V.str "a"]) (Same.refl G2) ntz
  have ez : (upd G2 tz (.tup [V.str "a"])) tz = some (.tup [V.str "a"]) := upd_same
  generalize upd G2 tz (.tup [V.str "a"]) = G3 at sz ez ntp
  have s3 := same_new (o := .tup [V.ref pa, V.ref tz]) (Same.refl G3) ntp
  refine ⟨p, tp, _, _, rfl, rfl, sqT_sm s3 (sqT_sm sz (sqT_sm s2 hp)), tup_in upd_same, ?_, fun q G4 s4 hq => ?_⟩
  · rw [List.length_map, List.length_replicate]
    exact Nat.le_trans (Nat.add_le_add hr (Nat.le_refl 2)) (by decide)
  · refine k q (List.replicate r (e0, []) ++ [(pa, List.replicate c ("b" : Str)), (tz, [("a" : Str)])]) G4 (fun b o e => s4 _ _ (s3 _ _ (sz _ _ (s2 _ _ (s1 _ _ e))))) (row_cat (s4 _ _ (s3 _ _ (sz _ _ (s2 _ _ h0)))) (row_2 (q2 := [("a" : Str)]) (sqT_sm s4 (sqT_sm s3 (sqT_sm sz ha))) (tup_in (s4 _ _ (s3 _ _ ez)))) hq) ?_
    rw [List.map_append, List.map_replicate]
    rfl
theorem rd_great {te : TE} {n : Nat} (hn : n ≤ 1000) (hte : ∀ (G : Hp) (Q : VK), Q (.int (n : Nat)) G → te σ G Q)
    (k : ∀ p LL G', Same G G' → RowAt K G' p LL → LL.map (·.2) = greatQ n → Q (.ref p) G') :
    tOp (rCatS K) (tOp (rRepS K) (tTup (tCons (tTup tNil) tNil)) te) (tTup (tCons (tTup (tCons (tC (.str "a")) tNil)) tNil)) σ G Q := by
  refine rd_pad hn hte fun e0 p G1 s1 h0 hp => ?_
  refine ⟨by show 1 ≤ sizeLine; decide, fun tz ntz => ⟨by show 1 ≤ sizeLine; decide, fun tp ntp => ?_⟩⟩
  have sz := same_new (o := .tup [V.str "a"]) (Same.refl G1) ntz
  have ez : (upd G1 tz (.tup [V.str "a"])) tz = some (.tup [V.str "a"]) := upd_same
  generalize upd G1 tz (.tup [V.str "a"]) = G3 at sz ez ntp
  have s3 := same_new (o := .tup [V.ref tz]) (Same.refl G3) ntp
  refine ⟨p, tp, _, _, rfl, rfl, sqT_sm s3 (sqT_sm sz hp), tup_in upd_same, ?_, fun q G4 s4 hq => ?_⟩
  · rw [List.length_map, List.length_replicate]
    exact Nat.le_trans (Nat.add_le_add hn (Nat.le_refl 1)) (by decide)
  · refine k q (List.replicate n (e0, []) ++ [(tz, [("a" : Str)])]) G4 (fun b o e => s4 _ _ (s3 _ _ (sz _ _ (s1 _ _ e)))) (row_cat (s4 _ _ (s3 _ _ (sz _ _ h0))) (row_1 (q := [("a" : Str)]) (tup_in (s4 _ _ (s3 _ _ ez)))) hq) ?_
    rw [List.map_append, List.map_replicate]
    rfl
end
theorem zlen1 : (repS "0 " 401).length + ("a" : Str).length ≤ sizeLine := by
  have h := rep_size ("0 " : Str).cps 401 #[]
  have h2 : (repS "0 " 401).length = (#[] : Array Nat).size + 401 * ("0 " : Str).cps.size := h
  have h3 : ("0 " : Str).cps.size = 2 := by decide +kernel
  have h4 : ("a" : Str).length = 1 := by decide +kernel
  rw [h2, h3, h4]
  decide
theorem zlen2 : (repS "0 " 402).length + ("a" : Str).length ≤ sizeLine := by
  have h := rep_size ("0 " : Str).cps 402 #[]
  have h2 : (repS "0 " 402).length = (#[] : Array Nat).size + 402 * ("0 " : Str).cps.size := h
  have h3 : ("0 " : Str).cps.size = 2 := by decide +kernel
  have h4 : ("a" : Str).length = 1 := by decide +kernel
  rw [h2, h3, h4]
  decide
theorem dlen1 : ("a" : Str).length + (repS "+a" 19).length ≤ sizeLine := by decide +kernel
theorem dlen2 : ("a" : Str).length + (repS "+a" 20).length ≤ sizeLine := by decide +kernel
theorem blen1 : ("b" : Str).length + (repS "+b" 19).length ≤ sizeLine := by decide +kernel
abbrev WLIM : List Str := ["fine", "row", "fine", "row", "fine", "row", "fine", "parse None", "fine", "parse None", "fine"]
theorem lim_shaped : SeqAt.shaped (wordsD WLIM) = true := by decide +kernel
theorem lim_eqv : PyData.eqv (wordsD WLIM) (wordsD WLIM) = true := by decide +kernel
abbrev lensD : PyData := .list [.int 20, .int 402]
theorem lens_shaped : SeqAt.shaped lensD = true := by decide +kernel
theorem lens_eqv : PyData.eqv lensD lensD = true := by decide +kernel
/-- the rows of the greatest sizes -/
structure Rw (K : PySem.W.Frag) (A : Hp) (p : Addr) (qs : List (List Str)) : Prop where
  h : ∃ LL, RowAt K A p LL ∧ LL.map (·.2) = qs
theorem Rw.same {K : PySem.W.Frag} {A B : Hp} {p : Addr} {qs : List (List Str)} (s : Same A B) (h : Rw K A p qs) : Rw K B p qs := by
  obtain ⟨LL, a, b⟩ := h.h
  exact ⟨LL, a.same s, b⟩
theorem Rw.ofs {K : PySem.W.Frag} {A : Hp} {d p : Addr} {LL : List (Addr × List Str)} {qs : List (List Str)} (h : RowAt K A p LL) (hd : DiceAt A d) (e : LL.map (·.2) = qs) : Rw K (sub d A) p qs := ⟨LL, ⟨sqT_exX hd to_sub h.e, fun q hq => sqT_exX hd to_sub (h.t q hq)⟩, e⟩
section
variable {P : Program} {w : World} {K : PySem.W.Frag} {mg : Str → Option Value} {base : Heap}
/-! ### _law_limits_right -/
def spLm (Tb : List (Addr × Str)) : Sp := fun vs H Q _ => ∃ (d : Addr), vs = [V.ref d] ∧ DiceAt H d ∧ Tabs Tb H ∧ ∀ H', ExtX d H H' → Tabs Tb H' → DiceAt H' d → Q (.bl true) H'
theorem ok_limits {f c1 P1 C Ck Co CP fI : Addr} {fd fdI : FuncData} {Tb : List (Addr × Str)} (F : Fun K "_law_limits_right" "_law_limits_right" s_law_limits_right f fd) (hc : fd.code = .ref c1) (Lx : Lam K mg base Tb "_law_limits_right" c1 P1)
    (T : Top K mg) (TC : Cl_Kinds K mg C) (R : Ers K mg Ck Co CP fI) (FX : Fun K "__init__" "ParseError.__init__" s_ParseError_init fI fdI) : FnG P w K mg base CX0 11 f fd ["_law_dice_here"] (spLm Tb) := by
  have cr : Cal P w K mg base 10 "_law_roll" ["_law_dice_here", "_law_total"] spRoll := (T.d_law_roll.cal fun f fd F => ok_roll F T).mono (by decide)
  have yAddF : CalY P w K mg base 8 "added" ["one", "other"] (spAdd K) := T.d_added.calY fun f fd F => fnOk_lift (ok_add F T)
  have yAddM : CalY P w K mg base 8 "added" ["one", "other"] (spAddM K Co) := T.d_added.calY fun f fd F => ok_addM F T R.XO R.CO
  have yAddE : CalY P w K mg base 8 "added" ["one", "other"] (spAddE K Co) := T.d_added.calY fun f fd F => ok_addE F T R.XO R.CO
  have yWRF : CalY P w K mg base 8 "write_row" ["row"] (spWR K) := T.d_write_row.calY fun f fd F => fnOk_lift (ok_wr F T)
  have yWRE : CalY P w K mg base 8 "write_row" ["row"] (spChkLE K Co) := T.d_write_row.calY fun f fd F => ok_wrE F T R.XO R.CO
  have yRR2 : CalY P w K mg base 8 "read_row" ["text"] (spRR2 K CP) := (T.d_read_row.calY fun f fd F => ok_rr2 F T R.TX FX).up (by decide)
  have yRD : CalY P w K mg base 8 "read_digit" ["text"] (spRD CP) := (T.d_read_digit.calY fun f fd F => ok_rd F T R.TX FX).up (by decide)
  have yWDF : CalY P w K mg base 8 "write_digit" ["digit"] (spWD K) := (T.d_write_digit.calY fun f fd F => fnOk_lift (ok_wd F T)).up (by decide)
  refine okGL F hc sc_law_limits_right (fun vs H Q E h => ?_) (fun A outer s H vs Q E hg hr h => ?_)
  · obtain ⟨d, rfl, _⟩ := h
    rfl
  · obtain ⟨d, rfl, hd, hTb, q⟩ := h
    refine ⟨_, (pss_cut (ps_par (i := 1) (j := 2) rfl sc_law_limits_right.nd rfl rfl (by decide) rfl rfl (pa_cons (pe_op op_add pe_int (pe_cal cr hr (by rfl) (pa_cons (pv 0) (pa_cons pe_int pa_nil)))) (pa_cons (pe_cal cr hr (by rfl) (pa_cons (pv 0) (pa_cons pe_int pa_nil))) pa_nil)) (by kernel_rfl))
      (pss_cut (ps_asg (pe_tup (pa_cons (pe_op op_catS (pe_op op_repS (pe_tup (pa_cons (pe_tup pa_nil) pa_nil)) (pv 2)) (pe_tup (pa_cons (pe_op op_repS (pe_tup (pa_cons pe_str pa_nil)) (pv 1)) pa_nil))) (pa_cons (pe_op op_catS (pe_op op_repS (pe_tup (pa_cons (pe_tup pa_nil) pa_nil)) (pv 2)) (pe_tup (pa_cons (pe_op op_repS (pe_tup (pa_cons pe_str pa_nil)) (pe_op op_sub pe_int (pv 1))) (pa_cons (pe_tup (pa_cons pe_str pa_nil)) pa_nil)))) pa_nil))) (pg_tup (n := 2) rfl (pgs_cons (pg_name (i := 3) sc_law_limits_right.nd rfl (.inr rfl)) (pgs_cons (pg_name (i := 4) sc_law_limits_right.nd rfl (.inr rfl)) pgs_nil))))
      (pss_cut (ps_set (i := 5) sc_law_limits_right.nd rfl (.inr rfl) (pe_op op_catS (pe_op op_repS (pe_tup (pa_cons (pe_tup pa_nil) pa_nil)) (pv 2)) (pe_tup (pa_cons (pe_op op_repS (pe_tup (pa_cons pe_str pa_nil)) (pe_op op_sub pe_int (pv 1))) (pa_cons (pe_tup (pa_cons pe_str pa_nil)) pa_nil)))))
      (pss_cut (ps_asg (pe_tup (pa_cons (pe_op op_catS (pe_op op_repS (pe_tup (pa_cons (pe_tup pa_nil) pa_nil)) pe_int) (pe_tup (pa_cons (pe_tup (pa_cons pe_str pa_nil)) pa_nil))) (pa_cons (pe_op op_catS (pe_op op_repS (pe_tup (pa_cons (pe_tup pa_nil) pa_nil)) pe_int) (pe_tup (pa_cons (pe_tup (pa_cons pe_str pa_nil)) pa_nil))) pa_nil))) (pg_tup (n := 2) rfl (pgs_cons (pg_name (i := 6) sc_law_limits_right.nd rfl (.inr rfl)) (pgs_cons (pg_name (i := 7) sc_law_limits_right.nd rfl (.inr rfl)) pgs_nil))))
      (pss_cut (ps_set (i := 8) sc_law_limits_right.nd rfl (.inl rfl) (pe_lst (pa_cons (pe_w16 (k := 8) T R (by rfl) hg (hr.mono (by decide)) Lx.tb rfl Lx.mem Lx.one (lamS_by (sc := defScope s_law_limits_right) (by decide +kernel)) rfl (fun _ _ _ _ _ => rfl) (fun A outer s H E f c' hr' => pe_calY yAddF (hr'.mono (by decide)) (by rfl) (fun σ => passAt (takes_of rfl rfl rfl rfl) σ) (pa_cons (pv 3) (pa_cons (pv 4) pa_nil)))) pa_nil)))
      (pss_cut (ps_expr (pe_bm PySem.F.plainAttrs_list PySem.F.slot_list_append PySem.F.type_list_append mt_append (pv 8) (pa_cons (pe_w16 (k := 8) T R (by rfl) hg (hr.mono (by decide)) Lx.tb rfl Lx.mem Lx.one (lamS_by (sc := defScope s_law_limits_right) (by decide +kernel)) rfl (fun _ _ _ _ _ => rfl) (fun A outer s H E f c' hr' => pe_calY yAddM (hr'.mono (by decide)) (by rfl) (fun σ => passAt (takes_of rfl rfl rfl rfl) σ) (pa_cons (pv 3) (pa_cons (pv 5) pa_nil)))) pa_nil)))
      (pss_cut (ps_expr (pe_bm PySem.F.plainAttrs_list PySem.F.slot_list_append PySem.F.type_list_append mt_append (pv 8) (pa_cons (pe_w16 (k := 8) T R (by rfl) hg (hr.mono (by decide)) Lx.tb rfl Lx.mem Lx.one (lamS_by (sc := defScope s_law_limits_right) (by decide +kernel)) rfl (fun _ _ _ _ _ => rfl) (fun A outer s H E f c' hr' => pe_calY yAddF (hr'.mono (by decide)) (by rfl) (fun σ => passAt (takes_of rfl rfl rfl rfl) σ) (pa_cons (pv 6) (pa_cons (pv 3) pa_nil)))) pa_nil)))
      (pss_cut (ps_expr (pe_bm PySem.F.plainAttrs_list PySem.F.slot_list_append PySem.F.type_list_append mt_append (pv 8) (pa_cons (pe_w16 (k := 8) T R (by rfl) hg (hr.mono (by decide)) Lx.tb rfl Lx.mem Lx.one (lamS_by (sc := defScope s_law_limits_right) (by decide +kernel)) rfl (fun _ _ _ _ _ => rfl) (fun A outer s H E f c' hr' => pe_calY yAddE (hr'.mono (by decide)) (by rfl) (fun σ => passAt (takes_of rfl rfl rfl rfl) σ) (pa_cons (pv 3) (pa_cons (pv 7) pa_nil)))) pa_nil)))
      (pss_cut (ps_expr (pe_bm PySem.F.plainAttrs_list PySem.F.slot_list_append PySem.F.type_list_append mt_append (pv 8) (pa_cons (pe_w16 (k := 8) T R (by rfl) hg (hr.mono (by decide)) Lx.tb rfl Lx.mem Lx.one (lamS_by (sc := defScope s_law_limits_right) (by decide +kernel)) rfl (fun _ _ _ _ _ => rfl) (fun A outer s H E f c' hr' => pe_calY yWRF (hr'.mono (by decide)) (by rfl) (fun σ => passAt (takes_of rfl rfl rfl rfl) σ) (pa_cons (pv 6) pa_nil))) pa_nil)))
      (pss_cut (ps_expr (pe_bm PySem.F.plainAttrs_list PySem.F.slot_list_append PySem.F.type_list_append mt_append (pv 8) (pa_cons (pe_w16 (k := 8) T R (by rfl) hg (hr.mono (by decide)) Lx.tb rfl Lx.mem Lx.one (lamS_by (sc := defScope s_law_limits_right) (by decide +kernel)) rfl (fun _ _ _ _ _ => rfl) (fun A outer s H E f c' hr' => pe_calY yWRE (hr'.mono (by decide)) (by rfl) (fun σ => passAt (takes_of rfl rfl rfl rfl) σ) (pa_cons (pv 7) pa_nil))) pa_nil)))
      (pss_cut (ps_expr (pe_bm PySem.F.plainAttrs_list PySem.F.slot_list_append PySem.F.type_list_append mt_append (pv 8) (pa_cons (pe_w16 (k := 8) T R (by rfl) hg (hr.mono (by decide)) Lx.tb rfl Lx.mem Lx.one (lamS_by (sc := defScope s_law_limits_right) (by decide +kernel)) rfl (fun _ _ _ _ _ => rfl) (fun A outer s H E f c' hr' => pe_calY yRR2 (hr'.mono (by decide)) (by rfl) (fun σ => passAt (takes_of rfl rfl rfl rfl) σ) (pa_cons (pe_op op_add_str (pe_op op_mulS pe_str pe_int) pe_str) pa_nil))) pa_nil)))
      (pss_cut (ps_expr (pe_bm PySem.F.plainAttrs_list PySem.F.slot_list_append PySem.F.type_list_append mt_append (pv 8) (pa_cons (pe_w16 (k := 8) T R (by rfl) hg (hr.mono (by decide)) Lx.tb rfl Lx.mem Lx.one (lamS_by (sc := defScope s_law_limits_right) (by decide +kernel)) rfl (fun _ _ _ _ _ => rfl) (fun A outer s H E f c' hr' => pe_calY yRR2 (hr'.mono (by decide)) (by rfl) (fun σ => passAt (takes_of rfl rfl rfl rfl) σ) (pa_cons (pe_op op_add_str (pe_op op_mulS pe_str pe_int) pe_str) pa_nil))) pa_nil)))
      (pss_cut (ps_expr (pe_bm PySem.F.plainAttrs_list PySem.F.slot_list_append PySem.F.type_list_append mt_append (pv 8) (pa_cons (pe_w16 (k := 8) T R (by rfl) hg (hr.mono (by decide)) Lx.tb rfl Lx.mem Lx.one (lamS_by (sc := defScope s_law_limits_right) (by decide +kernel)) rfl (fun _ _ _ _ _ => rfl) (fun A outer s H E f c' hr' => pe_calY yRD (hr'.mono (by decide)) (by rfl) (fun σ => passAt (takes_of rfl rfl rfl rfl) σ) (pa_cons (pe_op op_add_str pe_str (pe_op op_mulS pe_str pe_int)) pa_nil))) pa_nil)))
      (pss_cut (ps_expr (pe_bm PySem.F.plainAttrs_list PySem.F.slot_list_append PySem.F.type_list_append mt_append (pv 8) (pa_cons (pe_w16 (k := 8) T R (by rfl) hg (hr.mono (by decide)) Lx.tb rfl Lx.mem Lx.one (lamS_by (sc := defScope s_law_limits_right) (by decide +kernel)) rfl (fun _ _ _ _ _ => rfl) (fun A outer s H E f c' hr' => pe_calY yRD (hr'.mono (by decide)) (by rfl) (fun σ => passAt (takes_of rfl rfl rfl rfl) σ) (pa_cons (pe_op op_add_str pe_str (pe_op op_mulS pe_str pe_int)) pa_nil))) pa_nil)))
      (pss_cut (ps_expr (pe_bm PySem.F.plainAttrs_list PySem.F.slot_list_append PySem.F.type_list_append mt_append (pv 8) (pa_cons (pe_w16 (k := 8) T R (by rfl) hg (hr.mono (by decide)) Lx.tb rfl Lx.mem Lx.one (lamS_by (sc := defScope s_law_limits_right) (by decide +kernel)) rfl (fun _ _ _ _ _ => rfl) (fun A outer s H E f c' hr' => pe_calY yWDF (hr'.mono (by decide)) (by rfl) (fun σ => passAt (takes_of rfl rfl rfl rfl) σ) (pa_cons (pe_op (op_repSK (K := K) (by exact rfl)) (pe_tup (pa_cons pe_str pa_nil)) pe_int) pa_nil))) pa_nil)))
      (pss_cut (ps_set (i := 9) sc_law_limits_right.nd rfl (.inl rfl) (pe_lst (pa_cons pe_str (pa_cons pe_str (pa_cons pe_str (pa_cons pe_str (pa_cons pe_str (pa_cons pe_str (pa_cons pe_str (pa_cons pe_str (pa_cons pe_str (pa_cons pe_str (pa_cons pe_str pa_nil)))))))))))))
      (pss_one (ps_ret (pe_and (pe_cmpR (op_eqD hr.units) (pv 8) (pv 9) (by rfl)) (pe_one (pe_cmpR (op_eqD hr.units) (pe_lst (pa_cons (pe_callB call_len_seq (by rfl) T.b_len PySem.boot_len (pa_cons (pe_calY (E := fun _ => E0) (yRD.up (by decide : 8 ≤ 10)) hr (by rfl) (fun σ => neverAt σ) (pa_cons (pe_op op_add_str pe_str (pe_op op_mulS pe_str pe_int)) pa_nil)) pa_nil)) (pa_cons (pe_callB call_len_seq (by rfl) T.b_len PySem.boot_len (pa_cons (pe_calY (E := fun _ => E0) (yRR2.up (by decide : 8 ≤ 10)) hr (by rfl) (fun σ => neverAt σ) (pa_cons (pe_op op_add_str (pe_op op_mulS pe_str pe_int) pe_str) pa_nil)) pa_nil)) pa_nil))) (pe_lst (pa_cons pe_int (pa_cons pe_int pa_nil))) (by rfl)))))))))))))))))))))), ?_⟩
    have big : 100000 ≤ sizeLine := by decide
    have l1 : 1 ≤ sizeLine := by omega
    have l2 : 2 ≤ sizeLine := by omega
    -- two numbers
    refine ⟨fun σ' G => ∃ m r : Nat, σ' = [some (.ref d), some (.int (m : Nat)), some (.int (r : Nat)), none, none, none, none, none, none, none] ∧ 0 < m ∧ m ≤ 20 ∧ r ≤ 2 ∧ ExtX d H G ∧ Tabs Tb G ∧ DiceAt G d, ?_, ?_⟩
    · refine ⟨_, rfl, d, 20, rfl, hd, by decide, by decide, fun r1 a b c h0 h1 => ?_⟩
      have sx1 : SameX d H (upd H d (.lst [.int a, .int b, .int c])) := (SameX.refl d H).atd
      have hd1 : DiceAt (upd H d (.lst [.int a, .int b, .int c])) d := dice_new a b c
      have t1 := tabs_dice hTb hd sx1
      generalize upd H d (.lst [.int a, .int b, .int c]) = H1 at sx1 hd1 t1
      refine ⟨_, _, rfl, rfl, _, rfl, d, 3, rfl, hd1, by decide, by decide, fun r2 a2 b2 c2 k0 k1 => ?_⟩
      have sx2 : SameX d H1 (upd H1 d (.lst [.int a2, .int b2, .int c2])) := (SameX.refl d H1).atd
      obtain ⟨m, rfl⟩ := Int.eq_ofNat_of_zero_le h0
      obtain ⟨r, rfl⟩ := Int.eq_ofNat_of_zero_le k0
      refine ⟨_, _, rfl, m + 1, r, ?_, by omega, by omega, by omega, (ext_ofX sx1).trans (ext_ofX sx2), tabs_dice t1 hd1 sx2, dice_new a2 b2 c2⟩
      show [some (V.ref d), some (V.int (1 + ((m : Nat) : Int))), _, _, _, _, _, _, _, _] = _
      rw [show 1 + ((m : Nat) : Int) = ((m + 1 : Nat) : Int) by omega]
    clear hd hTb
    rintro σ' G1 ⟨m, r, rfl, m0, m20, r2, x1, t1, hd1⟩
    -- rows
    refine ⟨fun σ' G => ∃ p1 p2 : Addr, σ' = [some (.ref d), some (.int (m : Nat)), some (.int (r : Nat)), some (.ref p1), some (.ref p2), none, none, none, none, none] ∧ Rw K (sub d G) p1 (oneQ r m) ∧ Rw K (sub d G) p2 (othQ r (20 - m)) ∧ Same G1 G, ?_, ?_⟩
    · refine rd_one (by omega) (by omega) (fun G Q h => ⟨_, rfl, h⟩) (fun G Q h => ⟨_, rfl, h⟩) fun p1 L1 J1 s1 h1 e1 => ?_
      refine rd_oth (r := r) (c := 20 - m) (by omega) (by omega) (fun G Q h => ⟨_, rfl, h⟩) (fun G Q h => ⟨_, rfl, _, _, rfl, rfl, by show Q (.int ((20 : Int) - ((m : Nat) : Int))) G; rw [show (20 : Int) - ((m : Nat) : Int) = ((20 - m : Nat) : Int) by omega]; exact h⟩) fun p2 L2 J2 s2 h2 e2 => ?_
      refine ⟨l2, fun pr n => ?_⟩
      have s3 := same_new (o := .tup [V.ref p1, V.ref p2]) (Same.refl J2) n
      have ss : Same G1 (upd J2 pr (.tup [V.ref p1, V.ref p2])) := fun b o e => s3 _ _ (s2 _ _ (s1 _ _ e))
      refine ⟨pr, _, rfl, .inl (.inl upd_same), rfl, _, _, rfl, _, _, rfl, rfl, ?_⟩
      exact ⟨p1, p2, rfl, .ofs ((h1.same s2).same s3) (dice_exN (.of ss) hd1) e1, .ofs (h2.same s3) (dice_exN (.of ss) hd1) e2, ss⟩
    rintro σ' G2 ⟨p1, p2, rfl, hp1, hp2, s12⟩
    have hd2 := dice_exN (.of s12) hd1
    refine ⟨fun σ' G => ∃ p3 : Addr, σ' = [some (.ref d), some (.int (m : Nat)), some (.int (r : Nat)), some (.ref p1), some (.ref p2), some (.ref p3), none, none, none, none] ∧ Rw K (sub d G) p3 (othQ r (21 - m)) ∧ Same G2 G, ?_, ?_⟩
    · refine rd_oth (r := r) (c := 21 - m) (by omega) (by omega) (fun G Q h => ⟨_, rfl, h⟩) (fun G Q h => ⟨_, rfl, _, _, rfl, rfl, by show Q (.int ((21 : Int) - ((m : Nat) : Int))) G; rw [show (21 : Int) - ((m : Nat) : Int) = ((21 - m : Nat) : Int) by omega]; exact h⟩) fun p3 L3 J3 s3 h3 e3 => ?_
      exact ⟨p3, rfl, .ofs h3 (dice_exN (.of s3) hd2) e3, s3⟩
    rintro σ' G3 ⟨p3, rfl, hp3, s23⟩
    have hd3 := dice_exN (.of s23) hd2
    refine ⟨fun σ' G => ∃ p4 p5 : Addr, σ' = [some (.ref d), some (.int (m : Nat)), some (.int (r : Nat)), some (.ref p1), some (.ref p2), some (.ref p3), some (.ref p4), some (.ref p5), none, none] ∧ Rw K (sub d G) p4 (greatQ 401) ∧ Rw K (sub d G) p5 (greatQ 402) ∧ Same G3 G, ?_, ?_⟩
    · refine rd_great (n := 401) (by omega) (fun G Q h => h) fun p4 L4 J4 s4 h4 e4 => ?_
      refine rd_great (n := 402) (by omega) (fun G Q h => h) fun p5 L5 J5 s5 h5 e5 => ?_
      refine ⟨l2, fun pr n => ?_⟩
      have s6 := same_new (o := .tup [V.ref p4, V.ref p5]) (Same.refl J5) n
      have ss : Same G3 (upd J5 pr (.tup [V.ref p4, V.ref p5])) := fun b o e => s6 _ _ (s5 _ _ (s4 _ _ e))
      refine ⟨pr, _, rfl, .inl (.inl upd_same), rfl, _, _, rfl, _, _, rfl, rfl, ?_⟩
      exact ⟨p4, p5, rfl, .ofs ((h4.same s5).same s6) (dice_exN (.of ss) hd3) e4, .ofs (h5.same s6) (dice_exN (.of ss) hd3) e5, ss⟩
    rintro σ' G8 ⟨p4, p5, rfl, hp4, hp5, s38⟩
    have hd8 := dice_exN (.of s38) hd3
    have s18 : Same G1 G8 := fun b o e => s38 _ _ (s23 _ _ (s12 _ _ e))
    have x8 : ExtX d H G8 := x1.trans (.of s18)
    have t8 := t1.ext s18
    have hp1 := hp1.same (sub_sm (d := d) (fun b o e => s38 _ _ (s23 _ _ e) : Same G2 G8))
    have hp2 := hp2.same (sub_sm (d := d) (fun b o e => s38 _ _ (s23 _ _ e) : Same G2 G8))
    have hp3 := hp3.same (sub_sm (d := d) s38)
    clear s12 s23 s38 s18 hd1 hd2 hd3 x1 t1
    obtain ⟨L1, r1, e1⟩ := hp1.h
    obtain ⟨L2, r2', e2⟩ := hp2.h
    obtain ⟨L3, r3, e3⟩ := hp3.h
    obtain ⟨L4, r4, e4⟩ := hp4.h
    obtain ⟨L5, r5, e5⟩ := hp5.h
    have lo1 : looseB (L1.map (·.2)) = true := by rw [e1]; exact one_loose ⟨r, by omega⟩ ⟨m, by omega⟩ m0
    have lo2 : looseB (L2.map (·.2)) = true := by rw [e2]; exact oth_loose ⟨r, by omega⟩ ⟨20 - m, by omega⟩
    have lo3 : looseB (L3.map (·.2)) = true := by rw [e3]; exact oth_loose ⟨r, by omega⟩ ⟨21 - m, by omega⟩
    have lo4 : looseB (L4.map (·.2)) = true := by rw [e4]; exact great_l
    have lo5 : looseB (L5.map (·.2)) = false := by rw [e5]; exact great_no
    have fe5 : Few (L5.map (·.2)) := by rw [e5]; exact few_great 402 (by omega)
    -- what is told of them
    refine ⟨fun σ' G => ∃ D : Addr, σ' = [some (.ref d), some (.int (m : Nat)), some (.int (r : Nat)), some (.ref p1), some (.ref p2), some (.ref p3), some (.ref p4), some (.ref p5), some (.ref D), none] ∧ At Tb H G8 d D ["fine"] G, ?_, ?_⟩
    · refine ⟨t8, fun G1 eN t1 => ?_⟩
      have u : Same (sub d G8) G1 := sub_keep sub_in (.ofN eN)
      refine ⟨_, rfl, _, rfl, p1, p2, L1, L2, rfl, r1.same u, r2'.same u, few13 lo1, few13 lo2, lo1, lo2, (fun i => by rw [e1, e2]; exact sum_all r2 m20 i), fun p LL H' s _ _ _ => ⟨l1, fun D nD => ⟨D, rfl, ?_⟩⟩⟩
      have u' : Same (sub d G8) H' := fun b o e => s _ _ (u b o e)
      have hd1 := dice_exN (.of s) (dice_exN eN hd8)
      have sD := same_new (o := .lst [V.str "fine"]) (Same.refl H') nD
      have x1 : ExtX d H H' := (x8.trans (.ofN eN)).trans (.of s)
      refine ⟨fun b o e => sD _ _ (u' b o e), upd_same, (t1.ext s).ext sD, x1.trans (.of sD), dice_upd hd1 (dice_ne hd1 nD), dice_ne hd1 nD, ?_, fun o e t => ?_⟩
      · cases c : sub d G8 D with
        | none => rfl
        | some o => rw [u' D o c] at nD; cases nD
      · have := x1 D o (dice_ne hd1 nD) e t
        rw [nD] at this
        cases this
    rintro σ' G9 ⟨D, rfl, A⟩
    refine ⟨fun σ' G => σ' = [some (.ref d), some (.int (m : Nat)), some (.int (r : Nat)), some (.ref p1), some (.ref p2), some (.ref p3), some (.ref p4), some (.ref p5), some (.ref D), none] ∧ At Tb H G8 d D ["fine", "row"] G, ?_, ?_⟩
    · refine ⟨_, rfl, ⟨.inl ⟨rfl, _, .inl (.inl A.e)⟩, ⟨A.t, fun G1 eN t1 => ?_⟩⟩⟩
      have u : Same (sub d G8) G1 := sub_keep A.s (.ofN eN)
      exact ⟨_, rfl, _, rfl, p1, p3, L1, L3, r, rfl, r1.same u, r3.same u, few13 lo1, few13 lo3, lo1, lo3, by rw [e1, e3]; exact sum_more ⟨r, by omega⟩ ⟨m, by omega⟩, fun H' s => .inr (.inl ⟨rfl, (by have A2 := A.go eN t1 (s); exact ⟨D, _, _, rfl, rfl, A2.e, by show 1 < sizeLine; omega, rfl, A2.push _⟩)⟩)⟩
    clear A
    rintro σ' G10 ⟨rfl, A⟩
    refine ⟨fun σ' G => σ' = [some (.ref d), some (.int (m : Nat)), some (.int (r : Nat)), some (.ref p1), some (.ref p2), some (.ref p3), some (.ref p4), some (.ref p5), some (.ref D), none] ∧ At Tb H G8 d D ["fine", "row", "fine"] G, ?_, ?_⟩
    · refine ⟨_, rfl, ⟨.inl ⟨rfl, _, .inl (.inl A.e)⟩, ⟨A.t, fun G1 eN t1 => ?_⟩⟩⟩
      have u : Same (sub d G8) G1 := sub_keep A.s (.ofN eN)
      exact ⟨_, rfl, _, rfl, p4, p1, L4, L1, rfl, r4.same u, r1.same u, few13 lo4, few13 lo1, lo4, lo1, (fun i => by rw [e4, e1]; exact sum_great r2 m20 (e1 ▸ lo1) i), fun p LL H' s _ _ _ => (by have A2 := A.go eN t1 (s); exact ⟨D, _, _, rfl, rfl, A2.e, by show 2 < sizeLine; omega, rfl, A2.push _⟩)⟩
    clear A
    rintro σ' G11 ⟨rfl, A⟩
    refine ⟨fun σ' G => σ' = [some (.ref d), some (.int (m : Nat)), some (.int (r : Nat)), some (.ref p1), some (.ref p2), some (.ref p3), some (.ref p4), some (.ref p5), some (.ref D), none] ∧ At Tb H G8 d D ["fine", "row", "fine", "row"] G, ?_, ?_⟩
    · refine ⟨_, rfl, ⟨.inl ⟨rfl, _, .inl (.inl A.e)⟩, ⟨A.t, fun G1 eN t1 => ?_⟩⟩⟩
      have u : Same (sub d G8) G1 := sub_keep A.s (.ofN eN)
      exact ⟨_, rfl, _, rfl, .ref p1, .ref p5, rfl, fun H' s => .inr (.inl ⟨rfl, (by have A2 := A.go eN t1 (s); exact ⟨D, _, _, rfl, rfl, A2.e, by show 3 < sizeLine; omega, rfl, A2.push _⟩)⟩), .inr ⟨p1, L1, rfl, r1.same u, few13 lo1, lo1, .inr ⟨p5, L5, rfl, r5.same u, fe5, lo5⟩⟩⟩
    clear A
    rintro σ' G12 ⟨rfl, A⟩
    refine ⟨fun σ' G => σ' = [some (.ref d), some (.int (m : Nat)), some (.int (r : Nat)), some (.ref p1), some (.ref p2), some (.ref p3), some (.ref p4), some (.ref p5), some (.ref D), none] ∧ At Tb H G8 d D ["fine", "row", "fine", "row", "fine"] G, ?_, ?_⟩
    · refine ⟨_, rfl, ⟨.inl ⟨rfl, _, .inl (.inl A.e)⟩, ⟨A.t, fun G1 eN t1 => ?_⟩⟩⟩
      have u : Same (sub d G8) G1 := sub_keep A.s (.ofN eN)
      exact ⟨_, rfl, p4, L4, rfl, r4.same u, lo4, fun H' s => (by have A2 := A.go eN t1 (s); exact ⟨D, _, _, rfl, rfl, A2.e, by show 4 < sizeLine; omega, rfl, A2.push _⟩)⟩
    clear A
    rintro σ' G13 ⟨rfl, A⟩
    refine ⟨fun σ' G => σ' = [some (.ref d), some (.int (m : Nat)), some (.int (r : Nat)), some (.ref p1), some (.ref p2), some (.ref p3), some (.ref p4), some (.ref p5), some (.ref D), none] ∧ At Tb H G8 d D ["fine", "row", "fine", "row", "fine", "row"] G, ?_, ?_⟩
    · refine ⟨_, rfl, ⟨.inl ⟨rfl, _, .inl (.inl A.e)⟩, ⟨A.t, fun G1 eN t1 => ?_⟩⟩⟩
      have u : Same (sub d G8) G1 := sub_keep A.s (.ofN eN)
      exact ⟨_, rfl, .ref p5, rfl, .inr ⟨p5, L5, rfl, r5.same u, fe5, lo5⟩, fun H' s => .inr (.inl ⟨rfl, (by have A2 := A.go eN t1 (s); exact ⟨D, _, _, rfl, rfl, A2.e, by show 5 < sizeLine; omega, rfl, A2.push _⟩)⟩)⟩
    clear A
    rintro σ' G14 ⟨rfl, A⟩
    refine ⟨fun σ' G => σ' = [some (.ref d), some (.int (m : Nat)), some (.int (r : Nat)), some (.ref p1), some (.ref p2), some (.ref p3), some (.ref p4), some (.ref p5), some (.ref D), none] ∧ At Tb H G8 d D ["fine", "row", "fine", "row", "fine", "row", "fine"] G, ?_, ?_⟩
    · refine ⟨_, rfl, ⟨.inl ⟨rfl, _, .inl (.inl A.e)⟩, ⟨A.t, fun G1 eN t1 => ?_⟩⟩⟩
      have u : Same (sub d G8) G1 := sub_keep A.s (.ofN eN)
      exact ⟨"0 ", 401, rfl, rfl, by decide, by decide +kernel, by decide +kernel, by decide, ⟨_, _, rfl, rfl, zlen1, ⟨Zn 401, greatQ 401, rfl, Zn_ne _ (by decide), by rw [Zn_len]; omega, by rw [Zn_split, List.length_map, great_len]; omega, Zn_parse 401, (fun _ p LL H' _ s _ => (by have A2 := A.go eN t1 (s); exact ⟨D, _, _, rfl, rfl, A2.e, by show 6 < sizeLine; omega, rfl, A2.push _⟩)), (fun h => by rw [great_l] at h; cases h)⟩⟩⟩
    clear A
    rintro σ' G15 ⟨rfl, A⟩
    refine ⟨fun σ' G => σ' = [some (.ref d), some (.int (m : Nat)), some (.int (r : Nat)), some (.ref p1), some (.ref p2), some (.ref p3), some (.ref p4), some (.ref p5), some (.ref D), none] ∧ At Tb H G8 d D ["fine", "row", "fine", "row", "fine", "row", "fine", "parse None"] G, ?_, ?_⟩
    · refine ⟨_, rfl, ⟨.inl ⟨rfl, _, .inl (.inl A.e)⟩, ⟨A.t, fun G1 eN t1 => ?_⟩⟩⟩
      have u : Same (sub d G8) G1 := sub_keep A.s (.ofN eN)
      exact ⟨"0 ", 402, rfl, rfl, by decide, by decide +kernel, by decide +kernel, by decide, ⟨_, _, rfl, rfl, zlen2, ⟨Zn 402, greatQ 402, rfl, Zn_ne _ (by decide), by rw [Zn_len]; omega, by rw [Zn_split, List.length_map, great_len]; omega, Zn_parse 402, (fun h => by rw [great_no] at h; cases h), (fun _ => fun dd H' s e => .inr (.inr ⟨rfl, dd, rfl, e, (by have A2 := A.go eN t1 (s); exact ⟨D, _, _, rfl, rfl, A2.e, by show 7 < sizeLine; omega, rfl, A2.push _⟩)⟩))⟩⟩⟩
    clear A
    rintro σ' G16 ⟨rfl, A⟩
    refine ⟨fun σ' G => σ' = [some (.ref d), some (.int (m : Nat)), some (.int (r : Nat)), some (.ref p1), some (.ref p2), some (.ref p3), some (.ref p4), some (.ref p5), some (.ref D), none] ∧ At Tb H G8 d D ["fine", "row", "fine", "row", "fine", "row", "fine", "parse None", "fine"] G, ?_, ?_⟩
    · refine ⟨_, rfl, ⟨.inl ⟨rfl, _, .inl (.inl A.e)⟩, ⟨A.t, fun G1 eN t1 => ?_⟩⟩⟩
      have u : Same (sub d G8) G1 := sub_keep A.s (.ofN eN)
      exact ⟨"+a", 19, rfl, rfl, by decide, by decide +kernel, by decide +kernel, by decide, ⟨_, _, rfl, rfl, dlen1, ⟨D20 "a" "+a" 19, rfl, d_len.1, (fun p q H' _ s _ => (by have A2 := A.go eN t1 (s); exact ⟨D, _, _, rfl, rfl, A2.e, by show 8 < sizeLine; omega, rfl, A2.push _⟩)), (fun dd H' h => by rw [d20] at h; cases h)⟩⟩⟩
    clear A
    rintro σ' G17 ⟨rfl, A⟩
    refine ⟨fun σ' G => σ' = [some (.ref d), some (.int (m : Nat)), some (.int (r : Nat)), some (.ref p1), some (.ref p2), some (.ref p3), some (.ref p4), some (.ref p5), some (.ref D), none] ∧ At Tb H G8 d D ["fine", "row", "fine", "row", "fine", "row", "fine", "parse None", "fine", "parse None"] G, ?_, ?_⟩
    · refine ⟨_, rfl, ⟨.inl ⟨rfl, _, .inl (.inl A.e)⟩, ⟨A.t, fun G1 eN t1 => ?_⟩⟩⟩
      have u : Same (sub d G8) G1 := sub_keep A.s (.ofN eN)
      exact ⟨"+a", 20, rfl, rfl, by decide, by decide +kernel, by decide +kernel, by decide, ⟨_, _, rfl, rfl, dlen2, ⟨D20 "a" "+a" 20, rfl, d_len.2.1, (fun p q H' h => by rw [d21] at h; cases h), (fun dd H' _ s e => .inr (.inr ⟨rfl, dd, rfl, e, (by have A2 := A.go eN t1 (s); exact ⟨D, _, _, rfl, rfl, A2.e, by show 9 < sizeLine; omega, rfl, A2.push _⟩)⟩))⟩⟩⟩
    clear A
    rintro σ' G18 ⟨rfl, A⟩
    refine ⟨fun σ' G => σ' = [some (.ref d), some (.int (m : Nat)), some (.int (r : Nat)), some (.ref p1), some (.ref p2), some (.ref p3), some (.ref p4), some (.ref p5), some (.ref D), none] ∧ At Tb H G8 d D WLIM G, ?_, ?_⟩
    · refine ⟨_, rfl, ⟨.inl ⟨rfl, _, .inl (.inl A.e)⟩, ⟨A.t, fun G1 eN t1 => ?_⟩⟩⟩
      refine rd_rep (m := 20) (by omega) (fun G Q h => h) fun p G2 s2 h2 => ?_
      refine ⟨p, List.replicate 20 ("a" : Str), rfl, h2, by decide +kernel, fun H' s => ?_⟩
      have A2 := A.go eN t1 (fun b o e => s _ _ (s2 _ _ e) : Same G1 H')
      exact ⟨D, _, _, rfl, rfl, A2.e, by show 10 < sizeLine; omega, rfl, A2.push _⟩
    clear A
    rintro σ' G19 ⟨rfl, A⟩
    have st : ∀ {G : Hp} {p : Addr} {o : HO}, G p = none → Same G (upd G p o) := fun {G p o} n => same_new (Same.refl G) n
    refine ⟨fun σ' G => ∃ du : Addr, σ' = [some (.ref d), some (.int (m : Nat)), some (.int (r : Nat)), some (.ref p1), some (.ref p2), some (.ref p3), some (.ref p4), some (.ref p5), some (.ref D), some (.ref du)] ∧ G du = some (.lst (WLIM.map V.str)) ∧ Same G19 G, ?_, ?_⟩
    · exact ⟨by show 11 ≤ sizeLine; omega, fun du nd => ⟨du, rfl, upd_same, st nd⟩⟩
    rintro σ' G20 ⟨du, rfl, edu, s20⟩
    refine ⟨_, rfl, _, rfl, wordsD WLIM, wordsD WLIM, .lst (.inl (.inl (s20 _ _ A.e))) (dp_texts WLIM), .lst (.inl (.inl edu)) (dp_texts WLIM), lim_shaped, lim_shaped, ?_⟩
    rw [lim_eqv]
    refine ⟨_, rfl, ?_⟩
    show (if true = true then _ else _)
    rw [if_pos rfl]
    refine ⟨"+b", 19, rfl, rfl, by decide, by decide +kernel, by decide +kernel, by decide, ⟨_, _, rfl, rfl, blen1, ⟨D20 "b" "+b" 19, rfl, d_len.2.2, (fun p qb H' hq s ep => ?_), (fun dd H' h => by rw [b20] at h; cases h)⟩⟩⟩
    have eq := Option.some.inj (b20.symm.trans hq)
    rw [← eq] at ep
    refine ⟨p, _, rfl, .inr (tup_in ep), ?_⟩
    refine ⟨"0 ", 401, rfl, rfl, by decide, by decide +kernel, by decide +kernel, by decide, ⟨_, _, rfl, rfl, zlen1, ⟨Zn 401, greatQ 401, rfl, Zn_ne _ (by decide), by rw [Zn_len]; omega, by rw [Zn_split, List.length_map, great_len]; omega, Zn_parse 401, (fun _ p' LL' H2 eL s2 hR => ?_), (fun h => by rw [great_l] at h; cases h)⟩⟩⟩
    refine ⟨p', _, rfl, .inr hR.e, ?_⟩
    refine ⟨l2, fun j nj => ⟨l2, fun j2 nj2 => ?_⟩⟩
    have eln : (LL'.map fun q => V.ref q.1).length = 402 := by
      have := congrArg List.length eL
      rw [List.length_map, great_len] at this
      rw [List.length_map]
      exact this
    obtain ⟨O, hO, eO⟩ : ∃ O : HO, O = .lst [V.int (((List.replicate 20 ("b" : Str)).map V.str).length : Nat), V.int ((LL'.map fun q => V.ref q.1).length : Nat)] ∧ O = .lst [V.int 20, V.int 402] := ⟨_, rfl, by rw [eln]; rfl⟩
    rw [← hO] at nj2 ⊢
    have s3 := st (o := O) nj
    have ej : (upd H2 j O) j = some (.lst [.int 20, .int 402]) := by rw [upd_same, eO]
    generalize upd H2 j O = H3 at s3 ej nj2
    have s4 := st (o := .lst [V.int 20, V.int 402]) nj2
    refine ⟨lensD, lensD, .lst (.inl (.inl (s4 _ _ ej))) (.cons (.int 20) (.cons (.int 402) .nil)), .lst (.inl (.inl upd_same)) (.cons (.int 20) (.cons (.int 402) .nil)), lens_shaped, lens_shaped, ?_⟩
    rw [lens_eqv]
    have sE : Same G19 (upd H3 j2 (.lst [V.int 20, V.int 402])) := fun b o e => s4 _ _ (s3 _ _ (s2 _ _ (s _ _ (s20 _ _ e))))
    exact q _ (A.x.trans (.of sE)) (A.t.ext sE) (dice_exN (.of sE) A.hd)
end
end Kl

set_option maxRecDepth 100000
set_option maxHeartbeats 4000000
namespace Kl
open PySem PySem.Spec PyProof.Rows L2 Gx Mx LamX
section
variable {X : Cx}
/-! ### a tuple as it is written, whose object is known -/
def tTupZ (t : TA) : TE := fun σ H Q => t σ H fun xs H1 => xs.length ≤ sizeLine ∧ ∀ p H', TupZ H' p xs → H1 p = none → (∀ b, b ≠ p → H' b = H1 b) → Q (.ref p) H'
theorem pe_tupZ {es : List Expr} {t : TA} {x1 : Nat} {pos : Pos} (h : PA X es t) : PE X (.Tuple es x1 pos) (tTupZ t) := by
  refine ⟨fun pins s σ H Q I hq => ?_⟩
  refine wpAny_Tuple_spliced (thn (h.run pos pins s σ H _ I hq) fun us s1 ⟨xs, H1, I1, r, z, q⟩ => ⟨by rw [← r.length]; exact z, ?_⟩)
  have hf : H1 s1.heap.objs.size = none := I1.hok.fresh (Nat.le_refl _)
  refine ⟨.ref s1.heap.objs.size, upd H1 s1.heap.objs.size (.frz { cls := .type "tuple", data := .seq us.toArray } (.tup xs)), I1.laid (t' := s1.toks) (fun b u e => Heap.get?_push_of_some _ e) (Nat.le_refl _) ?_, rfl, q _ _ ⟨_, rfl, upd_same⟩ hf (fun b n => upd_ne n)⟩
  exact ⟨Heap.get?_push_size _ rfl, z, us, r, IsTup.new _ _⟩
end
theorem same_k {H H' : Hp} {p : Addr} (n : H p = none) (k : ∀ b, b ≠ p → H' b = H b) : Same H H' := fun b o e => by rw [k b (ne_of_none e n)]; exact e
theorem merge_new : ∀ (more kvs : List (Key × V)), (more.map (·.1)).Nodup → (∀ k ∈ more.map (·.1), valV kvs k = none) → mergeK kvs more = kvs ++ more
  | [], kvs, _, _ => by unfold mergeK; rw [List.foldl_nil, List.append_nil]
  | p :: r, kvs, nd, hn => by
    rw [List.map_cons, List.nodup_cons] at nd
    have e : mergeK kvs (p :: r) = mergeK (putK kvs p.1 p.2) r := rfl
    have e0 : valV kvs p.1 = none := hn _ (by rw [List.map_cons]; exact List.mem_cons_self)
    rw [e, putK_new _ e0, merge_new r _ nd.2 fun k hk => ?_, List.append_assoc]
    · rfl
    · have hk0 := hn k (by rw [List.map_cons]; exact List.mem_cons_of_mem _ hk)
      rw [valV_snoc _ _ _ _ e0, if_neg (fun (q : k = p.1) => nd.1 (by rw [← q]; exact hk)), hk0]
theorem merge_nil {more : List (Key × V)} (nd : (more.map (·.1)).Nodup) : mergeK [] more = more := merge_new more [] nd fun _ _ => rfl
/-- a dict of makings stands at m -/
def Mkd (H : Hp) (m : Addr) (M : Mak) : Prop := ∃ kvs, H m = some (.dK kvs) ∧ MakAt H kvs M
theorem Mkd.same {H H' : Hp} {m : Addr} {M : Mak} (h : Mkd H m M) (s : Same H H') : Mkd H' m M := by
  obtain ⟨kvs, e, hM⟩ := h
  exact ⟨kvs, s _ _ e, hM.same fun _ _ q => q.mono s⟩
/-- a dict that is being written is done -/
theorem disp_end {G Hk : Hp} {p : Addr} {kvs : List (Key × V)} {M : Mak} (np : G p = none) (s : Same (upd G p (.dK [])) Hk) (hM : MakAt Hk kvs M) : Same G (upd Hk p (.dK kvs)) ∧ Mkd (upd Hk p (.dK kvs)) p M := by
  have e := s _ _ (upd_same : (upd G p (.dK [])) p = _)
  refine ⟨fun b o h => ?_, kvs, upd_same, hM.same fun a xs q => q.at fun o h => ?_⟩
  · have nb := ne_of_none h np
    rw [upd_ne nb]
    exact s _ _ (by rw [upd_ne nb]; exact h)
  · rw [upd_ne (q.ne e fun ob z => by cases z)]
    exact h
theorem sqL_xnew {K : PySem.W.Frag} {G G' : Hp} {d a : Addr} {xs : List V} (nd : G d = none) (x : ExtX d G G') (h : SqL K G a xs) : SqL K G' a xs := by
  rcases h with (h | ⟨o, h⟩) | h
  · exact .inl (.inl (x _ _ (ne_of_none h nd) h (fun _ z => by cases z)))
  · exact .inl (.inr ⟨o, x _ _ (ne_of_none h nd) h (fun _ z => by cases z)⟩)
  · exact .inr h
abbrev maxD : PyData := .list [.int 3, .int 400]
theorem max_shaped : SeqAt.shaped maxD = true := by decide +kernel
theorem max_eqv : PyData.eqv maxD maxD = true := by decide +kernel
theorem ord_one {M : Mak} (h : OrdOf M1 M) : M = M1 := h.eq (ys := ["a"]) (by decide +kernel) (List.Perm.refl _) (by decide +kernel)
section
variable {P : Program} {w : World} {K : PySem.W.Frag} {mg : Str → Option Value} {base : Heap}
/-! ### the law -/
def spLaw (K : PySem.W.Frag) (Tb : List (Addr × Str)) : Sp := fun vs H Q _ => ∃ (a : Addr) (ns : List Int), vs = [.ref a] ∧ SqL K H a (ns.map V.int) ∧ ns.length ≤ 63 ∧ Tabs Tb H ∧ ∀ H', Q (.bl true) H'
theorem ok_law {f c1 P1 c2 P2 : Addr} {fd : FuncData} {Tb : List (Addr × Str)} (F : Fun K "law" "law" s_law f fd) (gl : mg "law" = some (.ref f)) (Lr : Lam K mg base Tb "_law_right" c1 P1) (Ll : Lam K mg base Tb "_law_limits_right" c2 P2)
    (T : Top K mg) (h1 : ∀ Ck Co : Addr, mg "InvalidKinds" = some (.ref Ck) → mg "InvalidRow" = some (.ref Co) → PySem.W.exmOne K (.ref Co) (.ref Ck) = some false)
    (h2 : ∀ Ck Co : Addr, mg "InvalidKinds" = some (.ref Ck) → mg "ParseError" = some (.ref Co) → PySem.W.exmOne K (.ref Co) (.ref Ck) = some false)
    (h3 : ∀ Ck Co : Addr, mg "InvalidRow" = some (.ref Ck) → mg "ParseError" = some (.ref Co) → PySem.W.exmOne K (.ref Co) (.ref Ck) = some false) : FnG P w K mg base CX0 12 f fd ["_law_script"] (spLaw K Tb) := by
  obtain ⟨C, TC⟩ := T.c_Kinds
  obtain ⟨CP, fI, fdI, TX, FX⟩ := T.x_ParseError
  obtain ⟨Co, XO, XCo, eo⟩ := T.p_InvalidRow
  obtain ⟨Ck, XK, XCk, ek⟩ := T.p_InvalidKinds
  have R : Ers K mg Ck Co CP fI := ⟨XK, XCk, ek, XO, XCo, eo, TX, h1 _ _ XK.gC XO.gC, h2 _ _ XK.gC TX.gC, h3 _ _ XO.gC TX.gC⟩
  obtain ⟨t3, g3⟩ := T.g_MAX_DIGIT
  obtain ⟨t4, g4⟩ := T.g_MAX_RANKS
  have kI : CalI P w K mg base C 10 ["self", "leaf", "makings"] (spInit C) := by
    obtain ⟨f, fd, m, F, b⟩ := TC.made
    exact ⟨f, fd, m, (ok_init F T TC).mono (by decide), b⟩
  have ci : Cal P w K mg base 11 "_law_dice" ["_law_script", "_law_spot"] (spDice K) := (T.d_law_dice.cal fun f fd F => ok_dice F T).mono (by decide)
  have crt : CalG P w K mg base 11 "_law_right" ["_law_dice_here", "_law_kinds"] (spRt K C Tb) := Def.calGL T.d_law_right fun f fd g F => ok_right F (Lr.of g F) Lr T TC R FX
  have cli : CalG P w K mg base 11 "_law_limits_right" ["_law_dice_here"] (spLm Tb) := Def.calGL T.d_law_limits_right fun f fd g F => ok_limits F (Ll.of g F) Ll T TC R FX
  refine okG F sc_law (fun vs H Q E h => ?_) (fun cdv A outer s H vs Q E hg hr h => ?_)
  · obtain ⟨a, ns, rfl, _⟩ := h
    rfl
  · obtain ⟨a, ns, rfl, hS, hlen, hTb, q⟩ := h
    refine ⟨_, pss_cut (ps_set (i := 1) sc_law.nd rfl (.inl rfl) (pe_makeC kI hr (by rfl) TC.gC (pa_cons pe_str (pa_cons (pe_disp (pps_cons pe_str (pe_tupZ (pa_cons pe_str (pa_cons pe_str pa_nil))) pps_nil) rfl rfl (by decide) (by decide)) pa_nil))))
      (pss_cut (ps_for PassesOwn.never rfl (pi_range1 (by rfl) T.b_range (pa_cons (pe_callB (call_max2 rfl) (by rfl) T.b_max (by decide +kernel) (pa_cons pe_int (pa_cons
          (pe_callB (call_min2 rfl) (by rfl) T.b_min (by decide +kernel) (pa_cons pe_int (pa_cons (pe_callB call_len_seq (by rfl) T.b_len PySem.boot_len (pa_cons (pv 0) pa_nil)) pa_nil))) pa_nil))) pa_nil))
          (pg_name (i := 2) sc_law.nd rfl (.inl rfl))
        (pss_cut (ps_set (i := 3) sc_law.nd rfl (.inl rfl) (pe_cal ci hr (by rfl) (pa_cons (pv 0) (pa_cons (pv 2) pa_nil))))
        (pss_cut (ps_for PassesOwn.never rfl (pi_range1 (by rfl) T.b_range (pa_cons pe_int pa_nil)) (pg_name (i := 4) sc_law.nd rfl (.inl rfl))
          (pss_one (ps_if (pt_not (pt_val (pe_calG crt hg hr (by rfl) (pa_cons (pv 3) (pa_cons (pv 1) pa_nil))))) (pss_one (ps_ret pe_bl)) pss_nil)))
        (pss_one (ps_if (pt_not (pt_val (pe_calG cli hg hr (by rfl) (pa_cons (pv 3) pa_nil)))) (pss_one (ps_ret pe_bl)) pss_nil)))))
      (pss_one (ps_ret (pe_cmpR (op_eqD hr.units) (pe_lst (pa_cons (pe_glob (v := .int 3) (by rfl) g3 ⟨_, rfl⟩) (pa_cons (pe_glob (v := .int 400) (by rfl) g4 ⟨_, rfl⟩) pa_nil))) (pe_lst (pa_cons pe_int (pa_cons pe_int pa_nil))) (by rfl))))), ?_⟩
    have big : 100000 ≤ sizeLine := by decide
    have l2 : 2 ≤ sizeLine := by omega
    -- kinds
    refine ⟨fun σ' G => ∃ (x md : Addr) (ks : List Str), σ' = [some (.ref a), some (.ref x), none, none, none] ∧ KindsAt C G x md "a" M1 ks ∧ Same H G, ?_, ?_⟩
    · refine fun p0 np0 => ⟨l2, fun t0 H0 z0 n0 k0 => ?_⟩
      refine ⟨same_k n0 k0 _ _ upd_same, [(Sum.inr "a", .ref t0)], rfl, by show 1 ≤ 15; omega, ?_⟩
      rw [merge_nil (more := [((Sum.inr "a" : Key), V.ref t0)]) (List.nodup_cons.mpr ⟨List.not_mem_nil, List.nodup_nil⟩)]
      obtain ⟨sA, kvs, em, hM⟩ := disp_end (kvs := [((Sum.inr "a" : Key), V.ref t0)]) (M := M1) np0 (same_k n0 k0) (.cons ⟨rfl, t0, rfl, z0⟩ .nil)
      generalize upd H0 p0 (.dK [((Sum.inr "a" : Key), V.ref t0)]) = GA at em hM sA
      refine fun x dx nx ndx nxx => ⟨x, dx, "a", p0, kvs, _, rfl, upd_same, ?_, ?_, vldM, fun G2 md M' ks hK hOr hN nmd keep => ⟨rfl, ?_⟩⟩
      · rw [upd_ne (ne_of_none em nx), upd_ne (ne_of_none em ndx)]
        exact em
      · exact hM.same fun a xs h => h.at fun o e => by rw [upd_ne (ne_of_none e nx), upd_ne (ne_of_none e ndx)]; exact e
      · rw [ord_one hOr] at hK
        refine ⟨x, md, ks, rfl, hK, fun b o e => ?_⟩
        have e2 := sA _ _ e
        refine keep b o (ne_of_none e2 nx) ?_
        rw [upd_ne (ne_of_none e2 nx), upd_ne (ne_of_none e2 ndx)]
        exact e2
    rintro σ' G0 ⟨x, md, ks, rfl, hK, s0⟩
    have hS0 : SqL K G0 a (ns.map V.int) := sqL_st s0 hS
    have t0 := hTb.ext s0
    -- the spots
    refine ⟨fun σ' G => ∃ (y2 y3 y4 : Option V), σ' = [some (.ref a), some (.ref x), y2, y3, y4], ?_, ?_⟩
    · refine ⟨_, rfl, a, _, rfl, .inl hS0, _, _, rfl, _, _, rfl, _, rfl, ?_, ?_, ?_⟩
      · split <;> split <;> omega
      · split <;> split <;> omega
      refine for_range (lo := 0) (fun i σ' G => (∃ (y2 y3 y4 : Option V), σ' = [some (.ref a), some (.ref x), y2, y3, y4]) ∧ SqL K G a (ns.map V.int) ∧ Tabs Tb G ∧ KindsAt C G x md "a" M1 ks) ⟨⟨_, _, _, rfl⟩, hS0, t0, hK⟩ (fun i σ' G hi hP => ?_) (fun σ' G hP => hP.1)
      obtain ⟨⟨y2, y3, y4, rfl⟩, hSG, t1, hKG⟩ := hP
      -- the dice
      refine ⟨fun σ' G' => ∃ (y2 : Option V) (d : Addr), σ' = [some (.ref a), some (.ref x), y2, some (.ref d), y4] ∧ DiceAt G' d ∧ G d = none ∧ Same G G', ?_, ?_⟩
      · refine ⟨_, rfl, _, rfl, a, ns, i, ?_, hSG, hlen, ?_, fun d x0 b0 nd => ⟨_, d, rfl, ⟨x0, b0, 0, upd_same⟩, nd, same_new (Same.refl G) nd⟩⟩
        · show [V.ref a, V.int (0 + (i : Int))] = _
          rw [Int.zero_add]
        · have : i < 6 := by
            revert hi
            split <;> split <;> omega
          omega
      rintro σ' G1 ⟨y2, d, rfl, hd, nd, s1⟩
      have hK1 := hKG.same s1
      refine ⟨fun σ' G' => (∃ (y4 : Option V), σ' = [some (.ref a), some (.ref x), y2, some (.ref d), y4]) ∧ DiceAt G' d ∧ ExtX d G1 G' ∧ Tabs Tb G', ?_, ?_⟩
      · refine ⟨_, rfl, by decide, by decide, ?_⟩
        refine for_range (lo := 0) (fun j σ' G' => (∃ (y4 : Option V), σ' = [some (.ref a), some (.ref x), y2, some (.ref d), y4]) ∧ DiceAt G' d ∧ ExtX d G1 G' ∧ Tabs Tb G') ⟨⟨_, rfl⟩, hd, .refl d G1, t1.ext s1⟩ (fun j σ' G2 hj hP => ?_) (fun σ' G2 hP => hP)
        obtain ⟨⟨y4, rfl⟩, hd2, x2, t2⟩ := hP
        refine ⟨_, rfl, _, rfl, d, x, md, ks, rfl, hd2, hK1.exX x2 hd, t2, fun G3 x3 t3 hd3 => ⟨_, rfl, ?_⟩⟩
        show (if (!true) = true then _ else _)
        rw [if_neg (by decide)]
        exact ⟨⟨_, rfl⟩, hd3, x2.trans x3, t3⟩
      rintro σ' G2 ⟨⟨y4, rfl⟩, hd2, x2, t2⟩
      refine ⟨_, rfl, d, rfl, hd2, t2, fun G3 x3 t3 hd3 => ⟨_, rfl, ?_⟩⟩
      show (if (!true) = true then _ else _)
      rw [if_neg (by decide)]
      have x13 := x2.trans x3
      exact ⟨⟨_, _, _, rfl⟩, sqL_xnew nd ((ExtX.of s1).trans x13) hSG, t3, hK1.exX x13 hd⟩
    rintro σ' G ⟨y2, y3, y4, rfl⟩
    refine ⟨l2, fun j nj => ⟨l2, fun j2 nj2 => ?_⟩⟩
    have s4 := same_new (o := .lst [V.int 3, V.int 400]) (Same.refl _) nj2
    refine ⟨maxD, maxD, .lst (.inl (.inl (s4 _ _ upd_same))) (.cons (.int 3) (.cons (.int 400) .nil)), .lst (.inl (.inl upd_same)) (.cons (.int 3) (.cons (.int 400) .nil)), max_shaped, max_shaped, ?_⟩
    rw [max_eqv]
    exact q _
end
end Kl

set_option maxRecDepth 100000
set_option maxHeartbeats 4000000
namespace Kl
open PySem PySem.Spec PyProof.Rows L2 Gx LamX
/-! ### the end -/
theorem all_mk {l : PySem.W.OpenLaw} {w : World} {K : PySem.W.Frag} {h : Heap} {mg : Str → Option Value} {fa : Addr} (X : K.In h) (G : h.Ns mainGlobals mg) (hfa : mg "law" = some (.ref fa))
    {Ce0 fe0 : Addr} {ode0 ane0 : Option Addr} {sle0 : Array (Option Value)} {oce0 kVe0 dce0 pme0 cde0 cte0 : Value}
    {nme0 qne0 : Str} {Ne0 : Addr} {bse0 bme0 : List Value} {sne0 : List Str} {sube0 : List Value} {abe0 : Bool} {cole0 : Option Bool} {dde0 : Option Addr} {k0e0 k1e0 k2e0 k3e0 k5e0 : Option Value}
    {Ce1 fe1 : Addr} {ode1 ane1 : Option Addr} {sle1 : Array (Option Value)} {oce1 kVe1 dce1 pme1 cde1 cte1 : Value}
    {nme1 qne1 : Str} {Ne1 : Addr} {bse1 bme1 : List Value} {sne1 : List Str} {sube1 : List Value} {abe1 : Bool} {cole1 : Option Bool} {dde1 : Option Addr} {k0e1 k1e1 k2e1 k3e1 k5e1 : Option Value}
    {Ce2 fe2 : Addr} {ode2 ane2 : Option Addr} {sle2 : Array (Option Value)} {oce2 kVe2 dce2 pme2 cde2 cte2 : Value}
    {nme2 qne2 : Str} {Ne2 : Addr} {bse2 bme2 : List Value} {sne2 : List Str} {sube2 : List Value} {abe2 : Bool} {cole2 : Option Bool} {dde2 : Option Addr} {k0e2 k1e2 k2e2 k3e2 k5e2 : Option Value}
    {Cy0 : Addr} {nmy0 qny0 : Str} {Ny0 : Addr} {bsy0 bmy0 : List Value} {hdy0 : Bool} {sny0 : List Str} {suby0 : List Value} {aby0 : Bool} {coly0 : Option Bool} {ddy0 : Option Addr} {k0y0 k1y0 k2y0 k3y0 k5y0 : Option Value}
    {Cy1 : Addr} {nmy1 qny1 : Str} {Ny1 : Addr} {bsy1 bmy1 : List Value} {hdy1 : Bool} {sny1 : List Str} {suby1 : List Value} {aby1 : Bool} {coly1 : Option Bool} {ddy1 : Option Addr} {k0y1 k1y1 k2y1 k3y1 k5y1 : Option Value}
    {f0 : Addr} {od0 an0 : Option Addr} {sl0 : Array (Option Value)} {oc0 kV0 dc0 pm0 cd0 ct0 : Value}
    {f1 : Addr} {od1 an1 : Option Addr} {sl1 : Array (Option Value)} {oc1 kV1 dc1 pm1 cd1 ct1 : Value}
    {f2 : Addr} {od2 an2 : Option Addr} {sl2 : Array (Option Value)} {oc2 kV2 dc2 pm2 cd2 ct2 : Value}
    {f3 : Addr} {od3 an3 : Option Addr} {sl3 : Array (Option Value)} {oc3 kV3 dc3 pm3 cd3 ct3 : Value}
    {f4 : Addr} {od4 an4 : Option Addr} {sl4 : Array (Option Value)} {oc4 kV4 dc4 pm4 cd4 ct4 : Value}
    {f5 : Addr} {od5 an5 : Option Addr} {sl5 : Array (Option Value)} {oc5 kV5 dc5 pm5 cd5 ct5 : Value}
    {f6 : Addr} {od6 an6 : Option Addr} {sl6 : Array (Option Value)} {oc6 kV6 dc6 pm6 cd6 ct6 : Value}
    {f7 : Addr} {od7 an7 : Option Addr} {sl7 : Array (Option Value)} {oc7 kV7 dc7 pm7 cd7 ct7 : Value}
    {f8 : Addr} {od8 an8 : Option Addr} {sl8 : Array (Option Value)} {oc8 kV8 dc8 pm8 cd8 ct8 : Value}
    {f9 : Addr} {od9 an9 : Option Addr} {sl9 : Array (Option Value)} {oc9 kV9 dc9 pm9 cd9 ct9 : Value}
    {f10 : Addr} {od10 an10 : Option Addr} {sl10 : Array (Option Value)} {oc10 kV10 dc10 pm10 cd10 ct10 : Value}
    {f11 : Addr} {od11 an11 : Option Addr} {sl11 : Array (Option Value)} {oc11 kV11 dc11 pm11 cd11 ct11 : Value}
    {f12 : Addr} {od12 an12 : Option Addr} {sl12 : Array (Option Value)} {oc12 kV12 dc12 pm12 cd12 ct12 : Value}
    {f13 : Addr} {od13 an13 : Option Addr} {sl13 : Array (Option Value)} {oc13 kV13 dc13 pm13 cd13 ct13 : Value}
    {f14 : Addr} {od14 an14 : Option Addr} {sl14 : Array (Option Value)} {oc14 kV14 dc14 pm14 cd14 ct14 : Value}
    {f15 : Addr} {od15 an15 : Option Addr} {sl15 : Array (Option Value)} {oc15 kV15 dc15 pm15 cd15 ct15 : Value}
    {f16 : Addr} {od16 an16 : Option Addr} {sl16 : Array (Option Value)} {oc16 kV16 dc16 pm16 cd16 ct16 : Value}
    {f17 : Addr} {od17 an17 : Option Addr} {sl17 : Array (Option Value)} {oc17 kV17 dc17 pm17 cd17 ct17 : Value}
    {f18 : Addr} {od18 an18 : Option Addr} {sl18 : Array (Option Value)} {oc18 kV18 dc18 pm18 cd18 ct18 : Value}
    {f19 : Addr} {od19 an19 : Option Addr} {sl19 : Array (Option Value)} {oc19 kV19 dc19 pm19 cd19 ct19 : Value}
    {f20 : Addr} {od20 an20 : Option Addr} {sl20 : Array (Option Value)} {oc20 kV20 dc20 pm20 cd20 ct20 : Value}
    {f21 : Addr} {od21 an21 : Option Addr} {sl21 : Array (Option Value)} {oc21 kV21 dc21 pm21 cd21 ct21 : Value}
    {f22 : Addr} {od22 an22 : Option Addr} {sl22 : Array (Option Value)} {oc22 kV22 dc22 pm22 cd22 ct22 : Value}
    {f23 : Addr} {od23 an23 : Option Addr} {sl23 : Array (Option Value)} {oc23 kV23 dc23 pm23 cd23 ct23 : Value}
    {f24 : Addr} {od24 an24 : Option Addr} {sl24 : Array (Option Value)} {oc24 kV24 dc24 pm24 cd24 ct24 : Value}
    {f25 : Addr} {od25 an25 : Option Addr} {sl25 : Array (Option Value)} {oc25 kV25 dc25 pm25 cd25 ct25 : Value}
    {f26 : Addr} {od26 an26 : Option Addr} {sl26 : Array (Option Value)} {oc26 kV26 dc26 pm26 cd26 ct26 : Value}
    {f27 : Addr} {od27 an27 : Option Addr} {sl27 : Array (Option Value)} {oc27 kV27 dc27 pm27 cd27 ct27 : Value}
    {f28 : Addr} {od28 an28 : Option Addr} {sl28 : Array (Option Value)} {oc28 kV28 dc28 pm28 cd28 ct28 : Value}
    {f29 : Addr} {od29 an29 : Option Addr} {sl29 : Array (Option Value)} {oc29 kV29 dc29 pm29 cd29 ct29 : Value}
    {f30 : Addr} {od30 an30 : Option Addr} {sl30 : Array (Option Value)} {oc30 kV30 dc30 pm30 cd30 ct30 : Value}
    {f31 : Addr} {od31 an31 : Option Addr} {sl31 : Array (Option Value)} {oc31 kV31 dc31 pm31 cd31 ct31 : Value}
    {f32 : Addr} {od32 an32 : Option Addr} {sl32 : Array (Option Value)} {oc32 kV32 dc32 pm32 cd32 ct32 : Value}
    {f33 : Addr} {od33 an33 : Option Addr} {sl33 : Array (Option Value)} {oc33 kV33 dc33 pm33 cd33 ct33 : Value}
    {f34 : Addr} {od34 an34 : Option Addr} {sl34 : Array (Option Value)} {oc34 kV34 dc34 pm34 cd34 ct34 : Value}
    {f35 : Addr} {od35 an35 : Option Addr} {sl35 : Array (Option Value)} {oc35 kV35 dc35 pm35 cd35 ct35 : Value}
    {f36 : Addr} {od36 an36 : Option Addr} {sl36 : Array (Option Value)} {oc36 kV36 dc36 pm36 cd36 ct36 : Value}
    {CoKinds : Addr}
    {fM0Kinds : Addr} {odM0Kinds anM0Kinds : Option Addr} {slM0Kinds : Array (Option Value)} {ocM0Kinds kVM0Kinds dcM0Kinds pmM0Kinds cdM0Kinds ctM0Kinds : Value}
    {fM2Kinds : Addr} {odM2Kinds anM2Kinds : Option Addr} {slM2Kinds : Array (Option Value)} {ocM2Kinds kVM2Kinds dcM2Kinds pmM2Kinds cdM2Kinds ctM2Kinds : Value}
    {qM2Kinds : Addr} {rsM2Kinds : List Value}
    {fM3Kinds : Addr} {odM3Kinds anM3Kinds : Option Addr} {slM3Kinds : Array (Option Value)} {ocM3Kinds kVM3Kinds dcM3Kinds pmM3Kinds cdM3Kinds ctM3Kinds : Value}
    {qM3Kinds : Addr} {rsM3Kinds : List Value}
    {fM4Kinds : Addr} {odM4Kinds anM4Kinds : Option Addr} {slM4Kinds : Array (Option Value)} {ocM4Kinds kVM4Kinds dcM4Kinds pmM4Kinds cdM4Kinds ctM4Kinds : Value}
    {qM4Kinds : Addr} {rsM4Kinds : List Value}
    {fM5Kinds : Addr} {odM5Kinds anM5Kinds : Option Addr} {slM5Kinds : Array (Option Value)} {ocM5Kinds kVM5Kinds dcM5Kinds pmM5Kinds cdM5Kinds ctM5Kinds : Value}
    {qM5Kinds : Addr} {rsM5Kinds : List Value}
    {fM9Kinds : Addr} {odM9Kinds anM9Kinds : Option Addr} {slM9Kinds : Array (Option Value)} {ocM9Kinds kVM9Kinds dcM9Kinds pmM9Kinds cdM9Kinds ctM9Kinds : Value}
    {fM10Kinds : Addr} {odM10Kinds anM10Kinds : Option Addr} {slM10Kinds : Array (Option Value)} {ocM10Kinds kVM10Kinds dcM10Kinds pmM10Kinds cdM10Kinds ctM10Kinds : Value}
    {fM12Kinds : Addr} {odM12Kinds anM12Kinds : Option Addr} {slM12Kinds : Array (Option Value)} {ocM12Kinds kVM12Kinds dcM12Kinds pmM12Kinds cdM12Kinds ctM12Kinds : Value}
    {fM13Kinds : Addr} {odM13Kinds anM13Kinds : Option Addr} {slM13Kinds : Array (Option Value)} {ocM13Kinds kVM13Kinds dcM13Kinds pmM13Kinds cdM13Kinds ctM13Kinds : Value}
    {fM14Kinds : Addr} {odM14Kinds anM14Kinds : Option Addr} {slM14Kinds : Array (Option Value)} {ocM14Kinds kVM14Kinds dcM14Kinds pmM14Kinds cdM14Kinds ctM14Kinds : Value}
    {t0 : Tok}
    {t1 : Tok}
    {t2 : Tok}
    {t3 : Tok}
    {t4 : Tok}
    {t5 : Tok}
    {t6 : Tok}
    {t7 : Tok}
    {q : Program}
    {cT0 PT0 : Addr} {eT0 : DefRec} {ucT0 : Value} {odT0 : Option Addr} {vsT0 : Array Value} {slT0 : Array (Option Value)}
    {cT1 PT1 : Addr} {eT1 : DefRec} {ucT1 : Value} {odT1 : Option Addr} {vsT1 : Array Value} {slT1 : Array (Option Value)}
    (ge0 : PySem.W.nsIn K mainGlobals "ParseError" = some (some (.ref Ce0))) (he0 : K.lookup Ce0 = some (excClassObj nme0 qne0 Ce0 Ne0 bse0 bme0 true sne0 sube0 abe0 cole0 dde0 k0e0 k1e0 k2e0 k3e0 k5e0 "ValueError.__new__")) (te0 : PySem.W.excTail [.type "ValueError", .type "Exception", .type "BaseException", .type "object"] bme0 = true) (oe0 : PySem.W.excOver K Ce0 [.type "ValueError", .type "Exception", .type "BaseException", .type "object"] = true) (qe0 : PySem.W.takerIn K Ce0 "number" = some none) (de0 : PySem.W.hasDictIn K Ce0 = true) (se0 : PySem.W.findIn K (.ref Ce0) "__setattr__" = some (some (.builtin "object.__setattr__"))) (ue0 : PySem.W.findIn K (.ref Ce0) "__getattribute__" = some (some (.builtin "BaseException.__getattribute__"))) (ve0 : PySem.W.findIn K (.ref Ce0) "__getattr__" = some none) (ne0 : PySem.W.findIn K (.ref Ce0) "number" = some none) (ie0 : PySem.W.findIn K (.ref Ce0) "__init__" = some (some (.ref fe0))) (ye0 : PySem.W.typeIn K (.ref fe0) = some (.type "function")) (ke0 : PySem.W.keepIn K (.ref Ce0) = true) (be0 : PySem.W.subIn K (.ref Ce0) (.type "BaseException") = some true) (we0 : PySem.W.typeIn K (.ref Ce0) = some (.type "type")) (xe0 : PySem.W.isClsIn K Ce0 = true) (re0 : PySem.W.subIn K (.ref Ce0) (.ref Ce0) = some true) (le0 : K.lookup fe0 = some ⟨oce0, ode0, .func (PySem.W.fnOf "__init__" "ParseError.__init__" (defArgs s_ParseError_init) (defBody s_ParseError_init) (defScope s_ParseError_init) .none kVe0 dce0 pme0 ane0 cde0 cte0), sle0⟩) (ce0 : PySem.W.codeIn K cde0 "ParseError.__init__" = true) (pe0 : PySem.W.keepIn K (.ref fe0) = true)
    (ge1 : PySem.W.nsIn K mainGlobals "UnknownName" = some (some (.ref Ce1))) (he1 : K.lookup Ce1 = some (excClassObj nme1 qne1 Ce1 Ne1 bse1 bme1 true sne1 sube1 abe1 cole1 dde1 k0e1 k1e1 k2e1 k3e1 k5e1 "LookupError.__new__")) (te1 : PySem.W.excTail [.type "KeyError", .type "LookupError", .type "Exception", .type "BaseException", .type "object"] bme1 = true) (oe1 : PySem.W.excOver K Ce1 [.type "KeyError", .type "LookupError", .type "Exception", .type "BaseException", .type "object"] = true) (qe1 : PySem.W.takerIn K Ce1 "word" = some none) (de1 : PySem.W.hasDictIn K Ce1 = true) (se1 : PySem.W.findIn K (.ref Ce1) "__setattr__" = some (some (.builtin "object.__setattr__"))) (ue1 : PySem.W.findIn K (.ref Ce1) "__getattribute__" = some (some (.builtin "BaseException.__getattribute__"))) (ve1 : PySem.W.findIn K (.ref Ce1) "__getattr__" = some none) (ne1 : PySem.W.findIn K (.ref Ce1) "word" = some none) (ie1 : PySem.W.findIn K (.ref Ce1) "__init__" = some (some (.ref fe1))) (ye1 : PySem.W.typeIn K (.ref fe1) = some (.type "function")) (ke1 : PySem.W.keepIn K (.ref Ce1) = true) (be1 : PySem.W.subIn K (.ref Ce1) (.type "BaseException") = some true) (we1 : PySem.W.typeIn K (.ref Ce1) = some (.type "type")) (xe1 : PySem.W.isClsIn K Ce1 = true) (re1 : PySem.W.subIn K (.ref Ce1) (.ref Ce1) = some true) (le1 : K.lookup fe1 = some ⟨oce1, ode1, .func (PySem.W.fnOf "__init__" "UnknownName.__init__" (defArgs s_UnknownName_init) (defBody s_UnknownName_init) (defScope s_UnknownName_init) .none kVe1 dce1 pme1 ane1 cde1 cte1), sle1⟩) (ce1 : PySem.W.codeIn K cde1 "UnknownName.__init__" = true) (pe1 : PySem.W.keepIn K (.ref fe1) = true)
    (ge2 : PySem.W.nsIn K mainGlobals "InvalidNumber" = some (some (.ref Ce2))) (he2 : K.lookup Ce2 = some (excClassObj nme2 qne2 Ce2 Ne2 bse2 bme2 true sne2 sube2 abe2 cole2 dde2 k0e2 k1e2 k2e2 k3e2 k5e2 "IndexError.__new__")) (te2 : PySem.W.excTail [.type "IndexError", .type "LookupError", .type "Exception", .type "BaseException", .type "object"] bme2 = true) (oe2 : PySem.W.excOver K Ce2 [.type "IndexError", .type "LookupError", .type "Exception", .type "BaseException", .type "object"] = true) (qe2 : PySem.W.takerIn K Ce2 "value" = some none) (de2 : PySem.W.hasDictIn K Ce2 = true) (se2 : PySem.W.findIn K (.ref Ce2) "__setattr__" = some (some (.builtin "object.__setattr__"))) (ue2 : PySem.W.findIn K (.ref Ce2) "__getattribute__" = some (some (.builtin "BaseException.__getattribute__"))) (ve2 : PySem.W.findIn K (.ref Ce2) "__getattr__" = some none) (ne2 : PySem.W.findIn K (.ref Ce2) "value" = some none) (ie2 : PySem.W.findIn K (.ref Ce2) "__init__" = some (some (.ref fe2))) (ye2 : PySem.W.typeIn K (.ref fe2) = some (.type "function")) (ke2 : PySem.W.keepIn K (.ref Ce2) = true) (be2 : PySem.W.subIn K (.ref Ce2) (.type "BaseException") = some true) (we2 : PySem.W.typeIn K (.ref Ce2) = some (.type "type")) (xe2 : PySem.W.isClsIn K Ce2 = true) (re2 : PySem.W.subIn K (.ref Ce2) (.ref Ce2) = some true) (le2 : K.lookup fe2 = some ⟨oce2, ode2, .func (PySem.W.fnOf "__init__" "InvalidNumber.__init__" (defArgs s_InvalidNumber_init) (defBody s_InvalidNumber_init) (defScope s_InvalidNumber_init) .none kVe2 dce2 pme2 ane2 cde2 cte2), sle2⟩) (ce2 : PySem.W.codeIn K cde2 "InvalidNumber.__init__" = true) (pe2 : PySem.W.keepIn K (.ref fe2) = true)
    (gy0 : PySem.W.nsIn K mainGlobals "InvalidRow" = some (some (.ref Cy0))) (hy0 : K.lookup Cy0 = some (excClassObj nmy0 qny0 Cy0 Ny0 bsy0 bmy0 hdy0 sny0 suby0 aby0 coly0 ddy0 k0y0 k1y0 k2y0 k3y0 k5y0 "ValueError.__new__")) (ty0 : PySem.W.excTail [.type "ValueError", .type "Exception", .type "BaseException", .type "object"] bmy0 = true) (iy0 : PySem.W.findIn K (.ref Cy0) "__init__" = some (some (.builtin "ValueError.__init__"))) (ky0 : PySem.W.keepIn K (.ref Cy0) = true) (by0 : PySem.W.subIn K (.ref Cy0) (.type "BaseException") = some true) (wy0 : PySem.W.typeIn K (.ref Cy0) = some (.type "type")) (xy0 : PySem.W.isClsIn K Cy0 = true) (ry0 : PySem.W.subIn K (.ref Cy0) (.ref Cy0) = some true) (zy0 : xclsB K Cy0 = true)
    (gy1 : PySem.W.nsIn K mainGlobals "InvalidKinds" = some (some (.ref Cy1))) (hy1 : K.lookup Cy1 = some (excClassObj nmy1 qny1 Cy1 Ny1 bsy1 bmy1 hdy1 sny1 suby1 aby1 coly1 ddy1 k0y1 k1y1 k2y1 k3y1 k5y1 "ValueError.__new__")) (ty1 : PySem.W.excTail [.type "ValueError", .type "Exception", .type "BaseException", .type "object"] bmy1 = true) (iy1 : PySem.W.findIn K (.ref Cy1) "__init__" = some (some (.builtin "ValueError.__init__"))) (ky1 : PySem.W.keepIn K (.ref Cy1) = true) (by1 : PySem.W.subIn K (.ref Cy1) (.type "BaseException") = some true) (wy1 : PySem.W.typeIn K (.ref Cy1) = some (.type "type")) (xy1 : PySem.W.isClsIn K Cy1 = true) (ry1 : PySem.W.subIn K (.ref Cy1) (.ref Cy1) = some true) (zy1 : xclsB K Cy1 = true)
    (a0 : PySem.W.nsIn K mainGlobals "_wall" = some (some (.ref f0))) (l0 : K.lookup f0 = some ⟨oc0, od0, .func (PySem.W.fnOf "_wall" "_wall" (defArgs s_wall) (defBody s_wall) (defScope s_wall) .none kV0 dc0 pm0 an0 cd0 ct0), sl0⟩) (c0 : PySem.W.codeIn K cd0 "_wall" = true) (k0 : PySem.W.keepIn K (.ref f0) = true)
    (a1 : PySem.W.nsIn K mainGlobals "is_integer" = some (some (.ref f1))) (l1 : K.lookup f1 = some ⟨oc1, od1, .func (PySem.W.fnOf "is_integer" "is_integer" (defArgs s_is_integer) (defBody s_is_integer) (defScope s_is_integer) .none kV1 dc1 pm1 an1 cd1 ct1), sl1⟩) (c1 : PySem.W.codeIn K cd1 "is_integer" = true) (k1 : PySem.W.keepIn K (.ref f1) = true)
    (a2 : PySem.W.nsIn K mainGlobals "is_count" = some (some (.ref f2))) (l2 : K.lookup f2 = some ⟨oc2, od2, .func (PySem.W.fnOf "is_count" "is_count" (defArgs s_is_count) (defBody s_is_count) (defScope s_is_count) .none kV2 dc2 pm2 an2 cd2 ct2), sl2⟩) (c2 : PySem.W.codeIn K cd2 "is_count" = true) (k2 : PySem.W.keepIn K (.ref f2) = true)
    (a3 : PySem.W.nsIn K mainGlobals "is_name" = some (some (.ref f3))) (l3 : K.lookup f3 = some ⟨oc3, od3, .func (PySem.W.fnOf "is_name" "is_name" (defArgs s_is_name) (defBody s_is_name) (defScope s_is_name) .none kV3 dc3 pm3 an3 cd3 ct3), sl3⟩) (c3 : PySem.W.codeIn K cd3 "is_name" = true) (k3 : PySem.W.keepIn K (.ref f3) = true)
    (a4 : PySem.W.nsIn K mainGlobals "is_sorted" = some (some (.ref f4))) (l4 : K.lookup f4 = some ⟨oc4, od4, .func (PySem.W.fnOf "is_sorted" "is_sorted" (defArgs s_is_sorted) (defBody s_is_sorted) (defScope s_is_sorted) .none kV4 dc4 pm4 an4 cd4 ct4), sl4⟩) (c4 : PySem.W.codeIn K cd4 "is_sorted" = true) (k4 : PySem.W.keepIn K (.ref f4) = true)
    (a5 : PySem.W.nsIn K mainGlobals "words_of" = some (some (.ref f5))) (l5 : K.lookup f5 = some ⟨oc5, od5, .func (PySem.W.fnOf "words_of" "words_of" (defArgs s_words_of) (defBody s_words_of) (defScope s_words_of) .none kV5 dc5 pm5 an5 cd5 ct5), sl5⟩) (c5 : PySem.W.codeIn K cd5 "words_of" = true) (k5 : PySem.W.keepIn K (.ref f5) = true)
    (a6 : PySem.W.nsIn K mainGlobals "names_in" = some (some (.ref f6))) (l6 : K.lookup f6 = some ⟨oc6, od6, .func (PySem.W.fnOf "names_in" "names_in" (defArgs s_names_in) (defBody s_names_in) (defScope s_names_in) .none kV6 dc6 pm6 an6 cd6 ct6), sl6⟩) (c6 : PySem.W.codeIn K cd6 "names_in" = true) (k6 : PySem.W.keepIn K (.ref f6) = true)
    (a7 : PySem.W.nsIn K mainGlobals "text_of" = some (some (.ref f7))) (l7 : K.lookup f7 = some ⟨oc7, od7, .func (PySem.W.fnOf "text_of" "text_of" (defArgs s_text_of) (defBody s_text_of) (defScope s_text_of) .none kV7 dc7 pm7 an7 cd7 ct7), sl7⟩) (c7 : PySem.W.codeIn K cd7 "text_of" = true) (k7 : PySem.W.keepIn K (.ref f7) = true)
    (a8 : PySem.W.nsIn K mainGlobals "_is_making" = some (some (.ref f8))) (l8 : K.lookup f8 = some ⟨oc8, od8, .func (PySem.W.fnOf "_is_making" "_is_making" (defArgs s_is_making) (defBody s_is_making) (defScope s_is_making) .none kV8 dc8 pm8 an8 cd8 ct8), sl8⟩) (c8 : PySem.W.codeIn K cd8 "_is_making" = true) (k8 : PySem.W.keepIn K (.ref f8) = true)
    (a9 : PySem.W.nsIn K mainGlobals "_all_names" = some (some (.ref f9))) (l9 : K.lookup f9 = some ⟨oc9, od9, .func (PySem.W.fnOf "_all_names" "_all_names" (defArgs s_all_names) (defBody s_all_names) (defScope s_all_names) .none kV9 dc9 pm9 an9 cd9 ct9), sl9⟩) (c9 : PySem.W.codeIn K cd9 "_all_names" = true) (k9 : PySem.W.keepIn K (.ref f9) = true)
    (a10 : PySem.W.nsIn K mainGlobals "_are_kinds" = some (some (.ref f10))) (l10 : K.lookup f10 = some ⟨oc10, od10, .func (PySem.W.fnOf "_are_kinds" "_are_kinds" (defArgs s_are_kinds) (defBody s_are_kinds) (defScope s_are_kinds) .none kV10 dc10 pm10 an10 cd10 ct10), sl10⟩) (c10 : PySem.W.codeIn K cd10 "_are_kinds" = true) (k10 : PySem.W.keepIn K (.ref f10) = true)
    (a11 : PySem.W.nsIn K mainGlobals "sums_above" = some (some (.ref f11))) (l11 : K.lookup f11 = some ⟨oc11, od11, .func (PySem.W.fnOf "sums_above" "sums_above" (defArgs s_sums_above) (defBody s_sums_above) (defScope s_sums_above) .none kV11 dc11 pm11 an11 cd11 ct11), sl11⟩) (c11 : PySem.W.codeIn K cd11 "sums_above" = true) (k11 : PySem.W.keepIn K (.ref f11) = true)
    (a12 : PySem.W.nsIn K mainGlobals "sums_by_rank" = some (some (.ref f12))) (l12 : K.lookup f12 = some ⟨oc12, od12, .func (PySem.W.fnOf "sums_by_rank" "sums_by_rank" (defArgs s_sums_by_rank) (defBody s_sums_by_rank) (defScope s_sums_by_rank) .none kV12 dc12 pm12 an12 cd12 ct12), sl12⟩) (c12 : PySem.W.codeIn K cd12 "sums_by_rank" = true) (k12 : PySem.W.keepIn K (.ref f12) = true)
    (a13 : PySem.W.nsIn K mainGlobals "are_digits" = some (some (.ref f13))) (l13 : K.lookup f13 = some ⟨oc13, od13, .func (PySem.W.fnOf "are_digits" "are_digits" (defArgs s_are_digits) (defBody s_are_digits) (defScope s_are_digits) .none kV13 dc13 pm13 an13 cd13 ct13), sl13⟩) (c13 : PySem.W.codeIn K cd13 "are_digits" = true) (k13 : PySem.W.keepIn K (.ref f13) = true)
    (a14 : PySem.W.nsIn K mainGlobals "are_loose_digits" = some (some (.ref f14))) (l14 : K.lookup f14 = some ⟨oc14, od14, .func (PySem.W.fnOf "are_loose_digits" "are_loose_digits" (defArgs s_are_loose_digits) (defBody s_are_loose_digits) (defScope s_are_loose_digits) .none kV14 dc14 pm14 an14 cd14 ct14), sl14⟩) (c14 : PySem.W.codeIn K cd14 "are_loose_digits" = true) (k14 : PySem.W.keepIn K (.ref f14) = true)
    (a15 : PySem.W.nsIn K mainGlobals "digit_at" = some (some (.ref f15))) (l15 : K.lookup f15 = some ⟨oc15, od15, .func (PySem.W.fnOf "digit_at" "digit_at" (defArgs s_digit_at) (defBody s_digit_at) (defScope s_digit_at) .none kV15 dc15 pm15 an15 cd15 ct15), sl15⟩) (c15 : PySem.W.codeIn K cd15 "digit_at" = true) (k15 : PySem.W.keepIn K (.ref f15) = true)
    (a16 : PySem.W.nsIn K mainGlobals "merged" = some (some (.ref f16))) (l16 : K.lookup f16 = some ⟨oc16, od16, .func (PySem.W.fnOf "merged" "merged" (defArgs s_merged) (defBody s_merged) (defScope s_merged) .none kV16 dc16 pm16 an16 cd16 ct16), sl16⟩) (c16 : PySem.W.codeIn K cd16 "merged" = true) (k16 : PySem.W.keepIn K (.ref f16) = true)
    (a17 : PySem.W.nsIn K mainGlobals "_check_kinds" = some (some (.ref f17))) (l17 : K.lookup f17 = some ⟨oc17, od17, .func (PySem.W.fnOf "_check_kinds" "_check_kinds" (defArgs s_check_kinds) (defBody s_check_kinds) (defScope s_check_kinds) .none kV17 dc17 pm17 an17 cd17 ct17), sl17⟩) (c17 : PySem.W.codeIn K cd17 "_check_kinds" = true) (k17 : PySem.W.keepIn K (.ref f17) = true)
    (a18 : PySem.W.nsIn K mainGlobals "_check_loose" = some (some (.ref f18))) (l18 : K.lookup f18 = some ⟨oc18, od18, .func (PySem.W.fnOf "_check_loose" "_check_loose" (defArgs s_check_loose) (defBody s_check_loose) (defScope s_check_loose) .none kV18 dc18 pm18 an18 cd18 ct18), sl18⟩) (c18 : PySem.W.codeIn K cd18 "_check_loose" = true) (k18 : PySem.W.keepIn K (.ref f18) = true)
    (a19 : PySem.W.nsIn K mainGlobals "is_digit" = some (some (.ref f19))) (l19 : K.lookup f19 = some ⟨oc19, od19, .func (PySem.W.fnOf "is_digit" "is_digit" (defArgs s_is_digit) (defBody s_is_digit) (defScope s_is_digit) .none kV19 dc19 pm19 an19 cd19 ct19), sl19⟩) (c19 : PySem.W.codeIn K cd19 "is_digit" = true) (k19 : PySem.W.keepIn K (.ref f19) = true)
    (a20 : PySem.W.nsIn K mainGlobals "is_loose" = some (some (.ref f20))) (l20 : K.lookup f20 = some ⟨oc20, od20, .func (PySem.W.fnOf "is_loose" "is_loose" (defArgs s_is_loose) (defBody s_is_loose) (defScope s_is_loose) .none kV20 dc20 pm20 an20 cd20 ct20), sl20⟩) (c20 : PySem.W.codeIn K cd20 "is_loose" = true) (k20 : PySem.W.keepIn K (.ref f20) = true)
    (a21 : PySem.W.nsIn K mainGlobals "is_row" = some (some (.ref f21))) (l21 : K.lookup f21 = some ⟨oc21, od21, .func (PySem.W.fnOf "is_row" "is_row" (defArgs s_is_row) (defBody s_is_row) (defScope s_is_row) .none kV21 dc21 pm21 an21 cd21 ct21), sl21⟩) (c21 : PySem.W.codeIn K cd21 "is_row" = true) (k21 : PySem.W.keepIn K (.ref f21) = true)
    (a22 : PySem.W.nsIn K mainGlobals "write_digit" = some (some (.ref f22))) (l22 : K.lookup f22 = some ⟨oc22, od22, .func (PySem.W.fnOf "write_digit" "write_digit" (defArgs s_write_digit) (defBody s_write_digit) (defScope s_write_digit) .none kV22 dc22 pm22 an22 cd22 ct22), sl22⟩) (c22 : PySem.W.codeIn K cd22 "write_digit" = true) (k22 : PySem.W.keepIn K (.ref f22) = true)
    (a23 : PySem.W.nsIn K mainGlobals "read_digit" = some (some (.ref f23))) (l23 : K.lookup f23 = some ⟨oc23, od23, .func (PySem.W.fnOf "read_digit" "read_digit" (defArgs s_read_digit) (defBody s_read_digit) (defScope s_read_digit) .none kV23 dc23 pm23 an23 cd23 ct23), sl23⟩) (c23 : PySem.W.codeIn K cd23 "read_digit" = true) (k23 : PySem.W.keepIn K (.ref f23) = true)
    (a24 : PySem.W.nsIn K mainGlobals "write_row" = some (some (.ref f24))) (l24 : K.lookup f24 = some ⟨oc24, od24, .func (PySem.W.fnOf "write_row" "write_row" (defArgs s_write_row) (defBody s_write_row) (defScope s_write_row) .none kV24 dc24 pm24 an24 cd24 ct24), sl24⟩) (c24 : PySem.W.codeIn K cd24 "write_row" = true) (k24 : PySem.W.keepIn K (.ref f24) = true)
    (a25 : PySem.W.nsIn K mainGlobals "read_row" = some (some (.ref f25))) (l25 : K.lookup f25 = some ⟨oc25, od25, .func (PySem.W.fnOf "read_row" "read_row" (defArgs s_read_row) (defBody s_read_row) (defScope s_read_row) .none kV25 dc25 pm25 an25 cd25 ct25), sl25⟩) (c25 : PySem.W.codeIn K cd25 "read_row" = true) (k25 : PySem.W.keepIn K (.ref f25) = true)
    (a26 : PySem.W.nsIn K mainGlobals "trimmed" = some (some (.ref f26))) (l26 : K.lookup f26 = some ⟨oc26, od26, .func (PySem.W.fnOf "trimmed" "trimmed" (defArgs s_trimmed) (defBody s_trimmed) (defScope s_trimmed) .none kV26 dc26 pm26 an26 cd26 ct26), sl26⟩) (c26 : PySem.W.codeIn K cd26 "trimmed" = true) (k26 : PySem.W.keepIn K (.ref f26) = true)
    (a27 : PySem.W.nsIn K mainGlobals "keys_of" = some (some (.ref f27))) (l27 : K.lookup f27 = some ⟨oc27, od27, .func (PySem.W.fnOf "keys_of" "keys_of" (defArgs s_keys_of) (defBody s_keys_of) (defScope s_keys_of) .none kV27 dc27 pm27 an27 cd27 ct27), sl27⟩) (c27 : PySem.W.codeIn K cd27 "keys_of" = true) (k27 : PySem.W.keepIn K (.ref f27) = true)
    (a28 : PySem.W.nsIn K mainGlobals "trees_of" = some (some (.ref f28))) (l28 : K.lookup f28 = some ⟨oc28, od28, .func (PySem.W.fnOf "trees_of" "trees_of" (defArgs s_trees_of) (defBody s_trees_of) (defScope s_trees_of) .none kV28 dc28 pm28 an28 cd28 ct28), sl28⟩) (c28 : PySem.W.codeIn K cd28 "trees_of" = true) (k28 : PySem.W.keepIn K (.ref f28) = true)
    (a29 : PySem.W.nsIn K mainGlobals "added" = some (some (.ref f29))) (l29 : K.lookup f29 = some ⟨oc29, od29, .func (PySem.W.fnOf "added" "added" (defArgs s_added) (defBody s_added) (defScope s_added) .none kV29 dc29 pm29 an29 cd29 ct29), sl29⟩) (c29 : PySem.W.codeIn K cd29 "added" = true) (k29 : PySem.W.keepIn K (.ref f29) = true)
    (a30 : PySem.W.nsIn K mainGlobals "_law_dice" = some (some (.ref f30))) (l30 : K.lookup f30 = some ⟨oc30, od30, .func (PySem.W.fnOf "_law_dice" "_law_dice" (defArgs s_law_dice) (defBody s_law_dice) (defScope s_law_dice) .none kV30 dc30 pm30 an30 cd30 ct30), sl30⟩) (c30 : PySem.W.codeIn K cd30 "_law_dice" = true) (k30 : PySem.W.keepIn K (.ref f30) = true)
    (a31 : PySem.W.nsIn K mainGlobals "_law_roll" = some (some (.ref f31))) (l31 : K.lookup f31 = some ⟨oc31, od31, .func (PySem.W.fnOf "_law_roll" "_law_roll" (defArgs s_law_roll) (defBody s_law_roll) (defScope s_law_roll) .none kV31 dc31 pm31 an31 cd31 ct31), sl31⟩) (c31 : PySem.W.codeIn K cd31 "_law_roll" = true) (k31 : PySem.W.keepIn K (.ref f31) = true)
    (a32 : PySem.W.nsIn K mainGlobals "_law_pick" = some (some (.ref f32))) (l32 : K.lookup f32 = some ⟨oc32, od32, .func (PySem.W.fnOf "_law_pick" "_law_pick" (defArgs s_law_pick) (defBody s_law_pick) (defScope s_law_pick) .none kV32 dc32 pm32 an32 cd32 ct32), sl32⟩) (c32 : PySem.W.codeIn K cd32 "_law_pick" = true) (k32 : PySem.W.keepIn K (.ref f32) = true)
    (a33 : PySem.W.nsIn K mainGlobals "_law_word_of" = some (some (.ref f33))) (l33 : K.lookup f33 = some ⟨oc33, od33, .func (PySem.W.fnOf "_law_word_of" "_law_word_of" (defArgs s_law_word_of) (defBody s_law_word_of) (defScope s_law_word_of) .none kV33 dc33 pm33 an33 cd33 ct33), sl33⟩) (c33 : PySem.W.codeIn K cd33 "_law_word_of" = true) (k33 : PySem.W.keepIn K (.ref f33) = true)
    (a34 : PySem.W.nsIn K mainGlobals "_law_right" = some (some (.ref f34))) (l34 : K.lookup f34 = some ⟨oc34, od34, .func (PySem.W.fnOf "_law_right" "_law_right" (defArgs s_law_right) (defBody s_law_right) (defScope s_law_right) .none kV34 dc34 pm34 an34 cd34 ct34), sl34⟩) (c34 : PySem.W.codeIn K cd34 "_law_right" = true) (k34 : PySem.W.keepIn K (.ref f34) = true)
    (a35 : PySem.W.nsIn K mainGlobals "_law_limits_right" = some (some (.ref f35))) (l35 : K.lookup f35 = some ⟨oc35, od35, .func (PySem.W.fnOf "_law_limits_right" "_law_limits_right" (defArgs s_law_limits_right) (defBody s_law_limits_right) (defScope s_law_limits_right) .none kV35 dc35 pm35 an35 cd35 ct35), sl35⟩) (c35 : PySem.W.codeIn K cd35 "_law_limits_right" = true) (k35 : PySem.W.keepIn K (.ref f35) = true)
    (a36 : PySem.W.nsIn K mainGlobals "law" = some (some (.ref f36))) (l36 : K.lookup f36 = some ⟨oc36, od36, .func (PySem.W.fnOf "law" "law" (defArgs s_law) (defBody s_law) (defScope s_law) .none kV36 dc36 pm36 an36 cd36 ct36), sl36⟩) (c36 : PySem.W.codeIn K cd36 "law" = true) (k36 : PySem.W.keepIn K (.ref f36) = true)
    (goKinds : PySem.W.nsIn K mainGlobals "Kinds" = some (some (.ref CoKinds)))
    (pgoKinds : PySem.W.plainGet K CoKinds Str.empty = true)
    (hdoKinds : PySem.W.hasDictIn K CoKinds = true)
    (pooKinds : PySem.W.plainOver K CoKinds = true)
    (saoKinds : PySem.W.findIn K (.ref CoKinds) "__setattr__" = some (some (.builtin "object.__setattr__")))
    (mkoKinds : PySem.W.makesIn K CoKinds = true)
    (kcoKinds : PySem.W.keepIn K (.ref CoKinds) = true)
    (neoKinds : PySem.W.findIn K (.ref CoKinds) "__ne__" = some (some (.builtin "object.__ne__")))
    (oboKinds : PySem.W.mroIn K CoKinds (.type "object") = some true)
    (kioKinds : PySem.W.kitOne K (.ref CoKinds) (.ref CoKinds) = some true)
    (ktoKinds : PySem.W.kitOne K (.type "tuple") (.ref CoKinds) = some false)
    (kdoKinds : PySem.W.kitOne K (.type "dict") (.ref CoKinds) = some false)
    (kroKinds : PySem.W.kitOne K (.ref CoKinds) (.type "tuple") = some false)
    (ksoKinds : PySem.W.kitOne K (.ref CoKinds) (.type "str") = some false)
    (kNoneTypeoKinds : PySem.W.kitOne K (.type "NoneType") (.ref CoKinds) = some false)
    (kintoKinds : PySem.W.kitOne K (.type "int") (.ref CoKinds) = some false)
    (kbooloKinds : PySem.W.kitOne K (.type "bool") (.ref CoKinds) = some false)
    (kstroKinds : PySem.W.kitOne K (.type "str") (.ref CoKinds) = some false)
    (klistoKinds : PySem.W.kitOne K (.type "list") (.ref CoKinds) = some false)
    (caoKinds : PySem.W.findIn K (.ref CoKinds) "__class__" = some (some (.builtin "object.__class__")))
    (cgoKinds : PySem.W.specialIn K (.builtin "object.__class__") "__get__" = some (some (.builtin "getset_descriptor.__get__")))
    (ctoKinds : PySem.W.takesIn K (.builtin "object.__class__") = some true)
    (n_leafoKinds : PySem.W.findIn K (.ref CoKinds) "_leaf" = some none)
    (n_makingsoKinds : PySem.W.findIn K (.ref CoKinds) "_makings" = some none)
    (n_namesoKinds : PySem.W.findIn K (.ref CoKinds) "_names" = some none)
    (atM0Kinds : PySem.W.findIn K (.ref CoKinds) "__init__" = some (some (.ref fM0Kinds)))
    (ifM0Kinds : PySem.W.isFn K (.ref fM0Kinds) = true)
    (lM0Kinds : K.lookup fM0Kinds = some ⟨ocM0Kinds, odM0Kinds, .func (PySem.W.fnOf "__init__" "Kinds.__init__" (defArgs s_Kinds_init) (defBody s_Kinds_init) (defScope s_Kinds_init) .none kVM0Kinds dcM0Kinds pmM0Kinds anM0Kinds cdM0Kinds ctM0Kinds), slM0Kinds⟩)
    (cM0Kinds : PySem.W.codeIn K cdM0Kinds "Kinds.__init__" = true)
    (kM0Kinds : PySem.W.keepIn K (.ref fM0Kinds) = true)
    (atM2Kinds : PySem.W.findIn K (.ref CoKinds) "leaf" = some (some (.ref qM2Kinds)))
    (geM2Kinds : PySem.W.specialIn K (.ref qM2Kinds) "__get__" = some (some (.builtin "property.__get__")))
    (taM2Kinds : PySem.W.takesIn K (.ref qM2Kinds) = some true)
    (reM2Kinds : PySem.W.recIn K qM2Kinds "property" = some (.ref fM2Kinds :: rsM2Kinds))
    (lM2Kinds : K.lookup fM2Kinds = some ⟨ocM2Kinds, odM2Kinds, .func (PySem.W.fnOf "leaf" "Kinds.leaf" (defArgs s_Kinds_leaf) (defBody s_Kinds_leaf) (defScope s_Kinds_leaf) .none kVM2Kinds dcM2Kinds pmM2Kinds anM2Kinds cdM2Kinds ctM2Kinds), slM2Kinds⟩)
    (cM2Kinds : PySem.W.codeIn K cdM2Kinds "Kinds.leaf" = true)
    (kM2Kinds : PySem.W.keepIn K (.ref fM2Kinds) = true)
    (atM3Kinds : PySem.W.findIn K (.ref CoKinds) "makings" = some (some (.ref qM3Kinds)))
    (geM3Kinds : PySem.W.specialIn K (.ref qM3Kinds) "__get__" = some (some (.builtin "property.__get__")))
    (taM3Kinds : PySem.W.takesIn K (.ref qM3Kinds) = some true)
    (reM3Kinds : PySem.W.recIn K qM3Kinds "property" = some (.ref fM3Kinds :: rsM3Kinds))
    (lM3Kinds : K.lookup fM3Kinds = some ⟨ocM3Kinds, odM3Kinds, .func (PySem.W.fnOf "makings" "Kinds.makings" (defArgs s_Kinds_makings) (defBody s_Kinds_makings) (defScope s_Kinds_makings) .none kVM3Kinds dcM3Kinds pmM3Kinds anM3Kinds cdM3Kinds ctM3Kinds), slM3Kinds⟩)
    (cM3Kinds : PySem.W.codeIn K cdM3Kinds "Kinds.makings" = true)
    (kM3Kinds : PySem.W.keepIn K (.ref fM3Kinds) = true)
    (atM4Kinds : PySem.W.findIn K (.ref CoKinds) "names" = some (some (.ref qM4Kinds)))
    (geM4Kinds : PySem.W.specialIn K (.ref qM4Kinds) "__get__" = some (some (.builtin "property.__get__")))
    (taM4Kinds : PySem.W.takesIn K (.ref qM4Kinds) = some true)
    (reM4Kinds : PySem.W.recIn K qM4Kinds "property" = some (.ref fM4Kinds :: rsM4Kinds))
    (lM4Kinds : K.lookup fM4Kinds = some ⟨ocM4Kinds, odM4Kinds, .func (PySem.W.fnOf "names" "Kinds.names" (defArgs s_Kinds_names) (defBody s_Kinds_names) (defScope s_Kinds_names) .none kVM4Kinds dcM4Kinds pmM4Kinds anM4Kinds cdM4Kinds ctM4Kinds), slM4Kinds⟩)
    (cM4Kinds : PySem.W.codeIn K cdM4Kinds "Kinds.names" = true)
    (kM4Kinds : PySem.W.keepIn K (.ref fM4Kinds) = true)
    (atM5Kinds : PySem.W.findIn K (.ref CoKinds) "lines" = some (some (.ref qM5Kinds)))
    (geM5Kinds : PySem.W.specialIn K (.ref qM5Kinds) "__get__" = some (some (.builtin "property.__get__")))
    (taM5Kinds : PySem.W.takesIn K (.ref qM5Kinds) = some true)
    (reM5Kinds : PySem.W.recIn K qM5Kinds "property" = some (.ref fM5Kinds :: rsM5Kinds))
    (lM5Kinds : K.lookup fM5Kinds = some ⟨ocM5Kinds, odM5Kinds, .func (PySem.W.fnOf "lines" "Kinds.lines" (defArgs s_Kinds_lines) (defBody s_Kinds_lines) (defScope s_Kinds_lines) .none kVM5Kinds dcM5Kinds pmM5Kinds anM5Kinds cdM5Kinds ctM5Kinds), slM5Kinds⟩)
    (cM5Kinds : PySem.W.codeIn K cdM5Kinds "Kinds.lines" = true)
    (kM5Kinds : PySem.W.keepIn K (.ref fM5Kinds) = true)
    (atM9Kinds : PySem.W.findIn K (.ref CoKinds) "__contains__" = some (some (.ref fM9Kinds)))
    (ifM9Kinds : PySem.W.isFn K (.ref fM9Kinds) = true)
    (lM9Kinds : K.lookup fM9Kinds = some ⟨ocM9Kinds, odM9Kinds, .func (PySem.W.fnOf "__contains__" "Kinds.__contains__" (defArgs s_Kinds_contains) (defBody s_Kinds_contains) (defScope s_Kinds_contains) .none kVM9Kinds dcM9Kinds pmM9Kinds anM9Kinds cdM9Kinds ctM9Kinds), slM9Kinds⟩)
    (cM9Kinds : PySem.W.codeIn K cdM9Kinds "Kinds.__contains__" = true)
    (kM9Kinds : PySem.W.keepIn K (.ref fM9Kinds) = true)
    (atM10Kinds : PySem.W.findIn K (.ref CoKinds) "__getitem__" = some (some (.ref fM10Kinds)))
    (ifM10Kinds : PySem.W.isFn K (.ref fM10Kinds) = true)
    (lM10Kinds : K.lookup fM10Kinds = some ⟨ocM10Kinds, odM10Kinds, .func (PySem.W.fnOf "__getitem__" "Kinds.__getitem__" (defArgs s_Kinds_getitem) (defBody s_Kinds_getitem) (defScope s_Kinds_getitem) .none kVM10Kinds dcM10Kinds pmM10Kinds anM10Kinds cdM10Kinds ctM10Kinds), slM10Kinds⟩)
    (cM10Kinds : PySem.W.codeIn K cdM10Kinds "Kinds.__getitem__" = true)
    (kM10Kinds : PySem.W.keepIn K (.ref fM10Kinds) = true)
    (atM12Kinds : PySem.W.findIn K (.ref CoKinds) "__len__" = some (some (.ref fM12Kinds)))
    (ifM12Kinds : PySem.W.isFn K (.ref fM12Kinds) = true)
    (lM12Kinds : K.lookup fM12Kinds = some ⟨ocM12Kinds, odM12Kinds, .func (PySem.W.fnOf "__len__" "Kinds.__len__" (defArgs s_Kinds_len) (defBody s_Kinds_len) (defScope s_Kinds_len) .none kVM12Kinds dcM12Kinds pmM12Kinds anM12Kinds cdM12Kinds ctM12Kinds), slM12Kinds⟩)
    (cM12Kinds : PySem.W.codeIn K cdM12Kinds "Kinds.__len__" = true)
    (kM12Kinds : PySem.W.keepIn K (.ref fM12Kinds) = true)
    (atM13Kinds : PySem.W.findIn K (.ref CoKinds) "__eq__" = some (some (.ref fM13Kinds)))
    (ifM13Kinds : PySem.W.isFn K (.ref fM13Kinds) = true)
    (lM13Kinds : K.lookup fM13Kinds = some ⟨ocM13Kinds, odM13Kinds, .func (PySem.W.fnOf "__eq__" "Kinds.__eq__" (defArgs s_Kinds_eq) (defBody s_Kinds_eq) (defScope s_Kinds_eq) .none kVM13Kinds dcM13Kinds pmM13Kinds anM13Kinds cdM13Kinds ctM13Kinds), slM13Kinds⟩)
    (cM13Kinds : PySem.W.codeIn K cdM13Kinds "Kinds.__eq__" = true)
    (kM13Kinds : PySem.W.keepIn K (.ref fM13Kinds) = true)
    (atM14Kinds : PySem.W.findIn K (.ref CoKinds) "__str__" = some (some (.ref fM14Kinds)))
    (ifM14Kinds : PySem.W.isFn K (.ref fM14Kinds) = true)
    (lM14Kinds : K.lookup fM14Kinds = some ⟨ocM14Kinds, odM14Kinds, .func (PySem.W.fnOf "__str__" "Kinds.__str__" (defArgs s_Kinds_str) (defBody s_Kinds_str) (defScope s_Kinds_str) .none kVM14Kinds dcM14Kinds pmM14Kinds anM14Kinds cdM14Kinds ctM14Kinds), slM14Kinds⟩)
    (cM14Kinds : PySem.W.codeIn K cdM14Kinds "Kinds.__str__" = true)
    (kM14Kinds : PySem.W.keepIn K (.ref fM14Kinds) = true)
    (m0 : PySem.W.nsIn K mainGlobals "MAX_LETTERS" = some (some (.int 8 t0)))
    (m1 : PySem.W.nsIn K mainGlobals "_TOO_LONG" = some (some (.int 1000000000000000000000000000000000000000000000000000000000000 t1)))
    (m2 : PySem.W.nsIn K mainGlobals "MAX_KINDS" = some (some (.int 6 t2)))
    (m3 : PySem.W.nsIn K mainGlobals "MAX_PARTS" = some (some (.int 3 t3)))
    (m4 : PySem.W.nsIn K mainGlobals "MAX_DIGIT" = some (some (.int 3 t4)))
    (m5 : PySem.W.nsIn K mainGlobals "MAX_RANKS" = some (some (.int 400 t5)))
    (m6 : PySem.W.nsIn K mainGlobals "LOOSE_DIGIT" = some (some (.int 20 t6)))
    (m7 : PySem.W.nsIn K mainGlobals "_LOOSE_RANKS" = some (some (.int 402 t7)))
    (z0 : PySem.W.nsIn K mainGlobals "IndexError" = some none)
    (z1 : PySem.W.nsIn K mainGlobals "KeyError" = some none)
    (z2 : PySem.W.nsIn K mainGlobals "TypeError" = some none)
    (z3 : PySem.W.nsIn K mainGlobals "ValueError" = some none)
    (z4 : PySem.W.nsIn K mainGlobals "abs" = some none)
    (z5 : PySem.W.nsIn K mainGlobals "all" = some none)
    (z6 : PySem.W.nsIn K mainGlobals "bool" = some none)
    (z7 : PySem.W.nsIn K mainGlobals "classmethod" = some none)
    (z8 : PySem.W.nsIn K mainGlobals "dict" = some none)
    (z9 : PySem.W.nsIn K mainGlobals "int" = some none)
    (z10 : PySem.W.nsIn K mainGlobals "isinstance" = some none)
    (z11 : PySem.W.nsIn K mainGlobals "len" = some none)
    (z12 : PySem.W.nsIn K mainGlobals "list" = some none)
    (z13 : PySem.W.nsIn K mainGlobals "max" = some none)
    (z14 : PySem.W.nsIn K mainGlobals "min" = some none)
    (z15 : PySem.W.nsIn K mainGlobals "property" = some none)
    (z16 : PySem.W.nsIn K mainGlobals "range" = some none)
    (z17 : PySem.W.nsIn K mainGlobals "repr" = some none)
    (z18 : PySem.W.nsIn K mainGlobals "set" = some none)
    (z19 : PySem.W.nsIn K mainGlobals "sorted" = some none)
    (z20 : PySem.W.nsIn K mainGlobals "str" = some none)
    (z21 : PySem.W.nsIn K mainGlobals "sum" = some none)
    (z22 : PySem.W.nsIn K mainGlobals "tuple" = some none)
    (z23 : PySem.W.nsIn K mainGlobals "zip" = some none)
    (tc0 : cd34 = .ref cT0) (tl0 : K.lookup cT0 = some ⟨ucT0, odT0, .fields vsT0, slT0⟩) (tp0 : vsT0[11]? = some (.ref PT0)) (tn0 : K.lookup PT0 = none) (tr0 : (recsOf q).find? (fun r => r.name == ("_law_right" : Str)) = some eT0)
    (tc1 : cd35 = .ref cT1) (tl1 : K.lookup cT1 = some ⟨ucT1, odT1, .fields vsT1, slT1⟩) (tp1 : vsT1[11]? = some (.ref PT1)) (tn1 : K.lookup PT1 = none) (tr1 : (recsOf q).find? (fun r => r.name == ("_law_limits_right" : Str)) = some eT1)
    (tdd : ([PT0, PT1] : List Addr).Nodup)
    (nc0 : PySem.W.subIn K (.ref Cy0) (.ref Cy1) = some false)
    (nc1 : PySem.W.subIn K (.ref Ce0) (.ref Cy1) = some false)
    (nc2 : PySem.W.subIn K (.ref Ce0) (.ref Cy0) = some false) :
    ∃ (fd : FuncData) (cs : List (Addr × Addr)) (sp : Sp), (∀ c ∈ cs, (∃ (y : Str) (e : DefRec), (recsOf q).find? (fun r => r.name == y) = some e ∧ PySem.W.tabIn K y = some c) ∧ K.lookup c.2 = none) ∧ (∀ (s : Shared) (u : Value), BindsTo s fd ⟨[u], []⟩ [("_law_script", u)]) ∧ (∀ (H : Hp) (a : Addr) (ns : List Int), ns.length ≤ 63 → (∀ c ∈ cs, H c.2 = some (.tbl #[])) → SqL K H a (ns.map V.int) → sp [.ref a] H (fun v _ => v = .bl true) fun _ _ _ => False) ∧ ∀ base : Heap, K.In base → base.Ns mainGlobals mg → (∀ c ∈ cs, LamX.TabB base mg c.1 c.2) → FnG l.prog w K mg base CX0 12 fa fd ["_law_script"] sp := by
  have e := hfa.symm.trans (PySem.W.mg_of X G a36)
  cases e
  have T : Top K mg := {
    x_ParseError := ⟨Ce0, fe0, _, ⟨PySem.W.mg_of X G ge0, ⟨_, _, _, _, _, _, _, _, _, _, _, _, _, _, _, he0, te0⟩, oe0, qe0, de0, se0, ue0, ve0, ne0, ie0, ye0, ke0, be0, we0, exm_own be0 xe0 we0 re0⟩, fun_mk le0 ce0 pe0⟩
    x_UnknownName := ⟨Ce1, fe1, _, ⟨PySem.W.mg_of X G ge1, ⟨_, _, _, _, _, _, _, _, _, _, _, _, _, _, _, he1, te1⟩, oe1, qe1, de1, se1, ue1, ve1, ne1, ie1, ye1, ke1, be1, we1, exm_own be1 xe1 we1 re1⟩, fun_mk le1 ce1 pe1⟩
    x_InvalidNumber := ⟨Ce2, fe2, _, ⟨PySem.W.mg_of X G ge2, ⟨_, _, _, _, _, _, _, _, _, _, _, _, _, _, _, he2, te2⟩, oe2, qe2, de2, se2, ue2, ve2, ne2, ie2, ye2, ke2, be2, we2, exm_own be2 xe2 we2 re2⟩, fun_mk le2 ce2 pe2⟩
    p_InvalidRow := ⟨Cy0, ⟨PySem.W.mg_of X G gy0, ⟨_, _, _, _, _, _, _, _, _, _, _, _, _, _, _, _, hy0, ty0⟩, iy0, ky0⟩, xclsB_ok zy0, exm_own by0 xy0 wy0 ry0⟩
    p_InvalidKinds := ⟨Cy1, ⟨PySem.W.mg_of X G gy1, ⟨_, _, _, _, _, _, _, _, _, _, _, _, _, _, _, _, hy1, ty1⟩, iy1, ky1⟩, xclsB_ok zy1, exm_own by1 xy1 wy1 ry1⟩
    d_wall := ⟨_, _, fun_mk l0 c0 k0, (fun_mk (st := s_wall) l0 c0 k0).binds (ps := ["k"]) fun _ _ _ _ _ _ us hl => match us, hl with | [_], _ => rfl, PySem.W.mg_of X G a0⟩
    d_is_integer := ⟨_, _, fun_mk l1 c1 k1, (fun_mk (st := s_is_integer) l1 c1 k1).binds (ps := ["value"]) fun _ _ _ _ _ _ us hl => match us, hl with | [_], _ => rfl, PySem.W.mg_of X G a1⟩
    d_is_count := ⟨_, _, fun_mk l2 c2 k2, (fun_mk (st := s_is_count) l2 c2 k2).binds (ps := ["value"]) fun _ _ _ _ _ _ us hl => match us, hl with | [_], _ => rfl, PySem.W.mg_of X G a2⟩
    d_is_name := ⟨_, _, fun_mk l3 c3 k3, (fun_mk (st := s_is_name) l3 c3 k3).binds (ps := ["value"]) fun _ _ _ _ _ _ us hl => match us, hl with | [_], _ => rfl, PySem.W.mg_of X G a3⟩
    d_is_sorted := ⟨_, _, fun_mk l4 c4 k4, kbn_of fun us ws h1 h2 => match us, ws, h1, h2 with | [_], [_], _, _ => by first | rfl | with_unfolding_all rfl, PySem.W.mg_of X G a4⟩
    d_words_of := ⟨_, _, fun_mk l5 c5 k5, (fun_mk (st := s_words_of) l5 c5 k5).binds (ps := ["line"]) fun _ _ _ _ _ _ us hl => match us, hl with | [_], _ => rfl, PySem.W.mg_of X G a5⟩
    d_names_in := ⟨_, _, fun_mk l6 c6 k6, kbn_of fun us ws h1 h2 => match us, ws, h1, h2 with | [_], [_], _, _ => by first | rfl | with_unfolding_all rfl, PySem.W.mg_of X G a6⟩
    d_text_of := ⟨_, _, fun_mk l7 c7 k7, (fun_mk (st := s_text_of) l7 c7 k7).binds (ps := ["names"]) fun _ _ _ _ _ _ us hl => match us, hl with | [_], _ => rfl, PySem.W.mg_of X G a7⟩
    d_is_making := ⟨_, _, fun_mk l8 c8 k8, (fun_mk (st := s_is_making) l8 c8 k8).binds (ps := ["value"]) fun _ _ _ _ _ _ us hl => match us, hl with | [_], _ => rfl, PySem.W.mg_of X G a8⟩
    d_all_names := ⟨_, _, fun_mk l9 c9 k9, (fun_mk (st := s_all_names) l9 c9 k9).binds (ps := ["leaf", "makings"]) fun _ _ _ _ _ _ us hl => match us, hl with | [_, _], _ => rfl, PySem.W.mg_of X G a9⟩
    d_are_kinds := ⟨_, _, fun_mk l10 c10 k10, (fun_mk (st := s_are_kinds) l10 c10 k10).binds (ps := ["leaf", "makings"]) fun _ _ _ _ _ _ us hl => match us, hl with | [_, _], _ => rfl, PySem.W.mg_of X G a10⟩
    d_sums_above := ⟨_, _, fun_mk l11 c11 k11, (fun_mk (st := s_sums_above) l11 c11 k11).binds (ps := ["parts_of", "below"]) fun _ _ _ _ _ _ us hl => match us, hl with | [_, _], _ => rfl, PySem.W.mg_of X G a11⟩
    d_sums_by_rank := ⟨_, _, fun_mk l12 c12 k12, (fun_mk (st := s_sums_by_rank) l12 c12 k12).binds (ps := ["leaf", "parts_of", "ranks"]) fun _ _ _ _ _ _ us hl => match us, hl with | [_, _, _], _ => rfl, PySem.W.mg_of X G a12⟩
    d_are_digits := ⟨_, _, fun_mk l13 c13 k13, (fun_mk (st := s_are_digits) l13 c13 k13).binds (ps := ["value"]) fun _ _ _ _ _ _ us hl => match us, hl with | [_], _ => rfl, PySem.W.mg_of X G a13⟩
    d_are_loose_digits := ⟨_, _, fun_mk l14 c14 k14, (fun_mk (st := s_are_loose_digits) l14 c14 k14).binds (ps := ["value"]) fun _ _ _ _ _ _ us hl => match us, hl with | [_], _ => rfl, PySem.W.mg_of X G a14⟩
    d_digit_at := ⟨_, _, fun_mk l15 c15 k15, (fun_mk (st := s_digit_at) l15 c15 k15).binds (ps := ["digits", "rank"]) fun _ _ _ _ _ _ us hl => match us, hl with | [_, _], _ => rfl, PySem.W.mg_of X G a15⟩
    d_merged := ⟨_, _, fun_mk l16 c16 k16, (fun_mk (st := s_merged) l16 c16 k16).binds (ps := ["one", "other"]) fun _ _ _ _ _ _ us hl => match us, hl with | [_, _], _ => rfl, PySem.W.mg_of X G a16⟩
    d_check_kinds := ⟨_, _, fun_mk l17 c17 k17, (fun_mk (st := s_check_kinds) l17 c17 k17).binds (ps := ["kinds"]) fun _ _ _ _ _ _ us hl => match us, hl with | [_], _ => rfl, PySem.W.mg_of X G a17⟩
    d_check_loose := ⟨_, _, fun_mk l18 c18 k18, (fun_mk (st := s_check_loose) l18 c18 k18).binds (ps := ["row"]) fun _ _ _ _ _ _ us hl => match us, hl with | [_], _ => rfl, PySem.W.mg_of X G a18⟩
    d_is_digit := ⟨_, _, fun_mk l19 c19 k19, (fun_mk (st := s_is_digit) l19 c19 k19).binds (ps := ["value"]) fun _ _ _ _ _ _ us hl => match us, hl with | [_], _ => rfl, PySem.W.mg_of X G a19⟩
    d_is_loose := ⟨_, _, fun_mk l20 c20 k20, (fun_mk (st := s_is_loose) l20 c20 k20).binds (ps := ["value"]) fun _ _ _ _ _ _ us hl => match us, hl with | [_], _ => rfl, PySem.W.mg_of X G a20⟩
    d_is_row := ⟨_, _, fun_mk l21 c21 k21, (fun_mk (st := s_is_row) l21 c21 k21).binds (ps := ["kinds", "value"]) fun _ _ _ _ _ _ us hl => match us, hl with | [_, _], _ => rfl, PySem.W.mg_of X G a21⟩
    d_write_digit := ⟨_, _, fun_mk l22 c22 k22, (fun_mk (st := s_write_digit) l22 c22 k22).binds (ps := ["digit"]) fun _ _ _ _ _ _ us hl => match us, hl with | [_], _ => rfl, PySem.W.mg_of X G a22⟩
    d_read_digit := ⟨_, _, fun_mk l23 c23 k23, (fun_mk (st := s_read_digit) l23 c23 k23).binds (ps := ["text"]) fun _ _ _ _ _ _ us hl => match us, hl with | [_], _ => rfl, PySem.W.mg_of X G a23⟩
    d_write_row := ⟨_, _, fun_mk l24 c24 k24, (fun_mk (st := s_write_row) l24 c24 k24).binds (ps := ["row"]) fun _ _ _ _ _ _ us hl => match us, hl with | [_], _ => rfl, PySem.W.mg_of X G a24⟩
    d_read_row := ⟨_, _, fun_mk l25 c25 k25, (fun_mk (st := s_read_row) l25 c25 k25).binds (ps := ["text"]) fun _ _ _ _ _ _ us hl => match us, hl with | [_], _ => rfl, PySem.W.mg_of X G a25⟩
    d_trimmed := ⟨_, _, fun_mk l26 c26 k26, (fun_mk (st := s_trimmed) l26 c26 k26).binds (ps := ["digits"]) fun _ _ _ _ _ _ us hl => match us, hl with | [_], _ => rfl, PySem.W.mg_of X G a26⟩
    d_keys_of := ⟨_, _, fun_mk l27 c27 k27, (fun_mk (st := s_keys_of) l27 c27 k27).binds (ps := ["kinds", "row"]) fun _ _ _ _ _ _ us hl => match us, hl with | [_, _], _ => rfl, PySem.W.mg_of X G a27⟩
    d_trees_of := ⟨_, _, fun_mk l28 c28 k28, (fun_mk (st := s_trees_of) l28 c28 k28).binds (ps := ["row"]) fun _ _ _ _ _ _ us hl => match us, hl with | [_], _ => rfl, PySem.W.mg_of X G a28⟩
    d_added := ⟨_, _, fun_mk l29 c29 k29, (fun_mk (st := s_added) l29 c29 k29).binds (ps := ["one", "other"]) fun _ _ _ _ _ _ us hl => match us, hl with | [_, _], _ => rfl, PySem.W.mg_of X G a29⟩
    d_law_dice := ⟨_, _, fun_mk l30 c30 k30, (fun_mk (st := s_law_dice) l30 c30 k30).binds (ps := ["_law_script", "_law_spot"]) fun _ _ _ _ _ _ us hl => match us, hl with | [_, _], _ => rfl, PySem.W.mg_of X G a30⟩
    d_law_roll := ⟨_, _, fun_mk l31 c31 k31, (fun_mk (st := s_law_roll) l31 c31 k31).binds (ps := ["_law_dice_here", "_law_total"]) fun _ _ _ _ _ _ us hl => match us, hl with | [_, _], _ => rfl, PySem.W.mg_of X G a31⟩
    d_law_pick := ⟨_, _, fun_mk l32 c32 k32, (fun_mk (st := s_law_pick) l32 c32 k32).binds (ps := ["_law_dice_here", "_law_items"]) fun _ _ _ _ _ _ us hl => match us, hl with | [_, _], _ => rfl, PySem.W.mg_of X G a32⟩
    d_law_word_of := ⟨_, _, fun_mk l33 c33 k33, (fun_mk (st := s_law_word_of) l33 c33 k33).binds (ps := ["_law_call"]) fun _ _ _ _ _ _ us hl => match us, hl with | [_], _ => rfl, PySem.W.mg_of X G a33⟩
    d_law_right := ⟨_, _, fun_mk l34 c34 k34, (fun_mk (st := s_law_right) l34 c34 k34).binds (ps := ["_law_dice_here", "_law_kinds"]) fun _ _ _ _ _ _ us hl => match us, hl with | [_, _], _ => rfl, PySem.W.mg_of X G a34⟩
    d_law_limits_right := ⟨_, _, fun_mk l35 c35 k35, (fun_mk (st := s_law_limits_right) l35 c35 k35).binds (ps := ["_law_dice_here"]) fun _ _ _ _ _ _ us hl => match us, hl with | [_], _ => rfl, PySem.W.mg_of X G a35⟩
    c_Kinds := ⟨CoKinds, { gC := PySem.W.mg_of X G goKinds, cl := ⟨pgoKinds, hdoKinds, pooKinds, saoKinds⟩, ne := neoKinds, ob := oboKinds, kit := kioKinds, kitT := ktoKinds, kitD := kdoKinds, ca := caoKinds, cg := cgoKinds, ct := ctoKinds, kitR := kroKinds, kitS := ksoKinds, kit_NoneType := kNoneTypeoKinds, kit_int := kintoKinds, kit_bool := kbooloKinds, kit_str := kstroKinds, kit_list := klistoKinds, n_leaf := n_leafoKinds, n_makings := n_makingsoKinds, n_names := n_namesoKinds, made := ⟨_, _, ⟨mkoKinds, atM0Kinds, ifM0Kinds, kcoKinds⟩, fun_mk (st := s_Kinds_init) lM0Kinds cM0Kinds kM0Kinds, (fun_mk (st := s_Kinds_init) lM0Kinds cM0Kinds kM0Kinds).binds (ps := ["self", "leaf", "makings"]) fun _ _ _ _ _ _ us hl => match us, hl with | [_, _, _], _ => rfl⟩, p_leaf := ⟨_, _, _, ⟨atM2Kinds, geM2Kinds, taM2Kinds, ⟨_, reM2Kinds⟩⟩, fun_mk (st := s_Kinds_leaf) lM2Kinds cM2Kinds kM2Kinds, (fun_mk (st := s_Kinds_leaf) lM2Kinds cM2Kinds kM2Kinds).binds (ps := ["self"]) fun _ _ _ _ _ _ us hl => match us, hl with | [_], _ => rfl⟩, p_makings := ⟨_, _, _, ⟨atM3Kinds, geM3Kinds, taM3Kinds, ⟨_, reM3Kinds⟩⟩, fun_mk (st := s_Kinds_makings) lM3Kinds cM3Kinds kM3Kinds, (fun_mk (st := s_Kinds_makings) lM3Kinds cM3Kinds kM3Kinds).binds (ps := ["self"]) fun _ _ _ _ _ _ us hl => match us, hl with | [_], _ => rfl⟩, p_names := ⟨_, _, _, ⟨atM4Kinds, geM4Kinds, taM4Kinds, ⟨_, reM4Kinds⟩⟩, fun_mk (st := s_Kinds_names) lM4Kinds cM4Kinds kM4Kinds, (fun_mk (st := s_Kinds_names) lM4Kinds cM4Kinds kM4Kinds).binds (ps := ["self"]) fun _ _ _ _ _ _ us hl => match us, hl with | [_], _ => rfl⟩, p_lines := ⟨_, _, _, ⟨atM5Kinds, geM5Kinds, taM5Kinds, ⟨_, reM5Kinds⟩⟩, fun_mk (st := s_Kinds_lines) lM5Kinds cM5Kinds kM5Kinds, (fun_mk (st := s_Kinds_lines) lM5Kinds cM5Kinds kM5Kinds).binds (ps := ["self"]) fun _ _ _ _ _ _ us hl => match us, hl with | [_], _ => rfl⟩, m_contains := ⟨_, _, fun_mk (st := s_Kinds_contains) lM9Kinds cM9Kinds kM9Kinds, ⟨atM9Kinds, ifM9Kinds, kM9Kinds⟩, ((fun_mk (st := s_Kinds_contains) lM9Kinds cM9Kinds kM9Kinds).binds (ps := ["self", "value"]) fun _ _ _ _ _ _ us hl => match us, hl with | [_, _], _ => rfl), fn_in lM9Kinds⟩, m_getitem := ⟨_, _, fun_mk (st := s_Kinds_getitem) lM10Kinds cM10Kinds kM10Kinds, ⟨atM10Kinds, ifM10Kinds, kM10Kinds⟩, ((fun_mk (st := s_Kinds_getitem) lM10Kinds cM10Kinds kM10Kinds).binds (ps := ["self", "name"]) fun _ _ _ _ _ _ us hl => match us, hl with | [_, _], _ => rfl), fn_in lM10Kinds⟩, m_len := ⟨_, _, fun_mk (st := s_Kinds_len) lM12Kinds cM12Kinds kM12Kinds, ⟨atM12Kinds, ifM12Kinds, kM12Kinds⟩, ((fun_mk (st := s_Kinds_len) lM12Kinds cM12Kinds kM12Kinds).binds (ps := ["self"]) fun _ _ _ _ _ _ us hl => match us, hl with | [_], _ => rfl), fn_in lM12Kinds⟩, m_eq := ⟨_, _, fun_mk (st := s_Kinds_eq) lM13Kinds cM13Kinds kM13Kinds, ⟨atM13Kinds, ifM13Kinds, kM13Kinds⟩, ((fun_mk (st := s_Kinds_eq) lM13Kinds cM13Kinds kM13Kinds).binds (ps := ["self", "other"]) fun _ _ _ _ _ _ us hl => match us, hl with | [_, _], _ => rfl), fn_in lM13Kinds⟩, m_str := ⟨_, _, fun_mk (st := s_Kinds_str) lM14Kinds cM14Kinds kM14Kinds, ⟨atM14Kinds, ifM14Kinds, kM14Kinds⟩, ((fun_mk (st := s_Kinds_str) lM14Kinds cM14Kinds kM14Kinds).binds (ps := ["self"]) fun _ _ _ _ _ _ us hl => match us, hl with | [_], _ => rfl), fn_in lM14Kinds⟩ }⟩
    g_MAX_LETTERS := ⟨_, PySem.W.mg_of X G m0⟩
    g__TOO_LONG := ⟨_, PySem.W.mg_of X G m1⟩
    g_MAX_KINDS := ⟨_, PySem.W.mg_of X G m2⟩
    g_MAX_PARTS := ⟨_, PySem.W.mg_of X G m3⟩
    g_MAX_DIGIT := ⟨_, PySem.W.mg_of X G m4⟩
    g_MAX_RANKS := ⟨_, PySem.W.mg_of X G m5⟩
    g_LOOSE_DIGIT := ⟨_, PySem.W.mg_of X G m6⟩
    g__LOOSE_RANKS := ⟨_, PySem.W.mg_of X G m7⟩
    b_IndexError := PySem.W.mg_none_of X G z0
    b_KeyError := PySem.W.mg_none_of X G z1
    b_TypeError := PySem.W.mg_none_of X G z2
    b_ValueError := PySem.W.mg_none_of X G z3
    b_abs := PySem.W.mg_none_of X G z4
    b_all := PySem.W.mg_none_of X G z5
    b_bool := PySem.W.mg_none_of X G z6
    b_classmethod := PySem.W.mg_none_of X G z7
    b_dict := PySem.W.mg_none_of X G z8
    b_int := PySem.W.mg_none_of X G z9
    b_isinstance := PySem.W.mg_none_of X G z10
    b_len := PySem.W.mg_none_of X G z11
    b_list := PySem.W.mg_none_of X G z12
    b_max := PySem.W.mg_none_of X G z13
    b_min := PySem.W.mg_none_of X G z14
    b_property := PySem.W.mg_none_of X G z15
    b_range := PySem.W.mg_none_of X G z16
    b_repr := PySem.W.mg_none_of X G z17
    b_set := PySem.W.mg_none_of X G z18
    b_sorted := PySem.W.mg_none_of X G z19
    b_str := PySem.W.mg_none_of X G z20
    b_sum := PySem.W.mg_none_of X G z21
    b_tuple := PySem.W.mg_none_of X G z22
    b_zip := PySem.W.mg_none_of X G z23 }
  have tt0 : PySem.W.tabIn K "_law_right" = some (cT0, PT0) := Gx.tabIn_of a34 l34 tc0 tl0 tp0
  have tt1 : PySem.W.tabIn K "_law_limits_right" = some (cT1, PT1) := Gx.tabIn_of a35 l35 tc1 tl1 tp1
  have nd : (([(PT0, ln "_law_right"), (PT1, ln "_law_limits_right")] : List (Addr × Str)).map (·.1)).Nodup := tdd
  refine ⟨PySem.W.fnOf "law" "law" (defArgs s_law) (defBody s_law) (defScope s_law) .none kV36 dc36 pm36 an36 cd36 ct36, [(cT0, PT0), (cT1, PT1)], spLaw K [(PT0, ln "_law_right"), (PT1, ln "_law_limits_right")], fun c hc => ?_, fun s v => .of_eq rfl, fun H a ns hl hc hS => ⟨a, ns, rfl, hS, hl, fun p hp => ?_, fun _ => rfl⟩, fun base KB GB TB => ok_law (fun_mk (st := s_law) l36 c36 k36) (PySem.W.mg_of X G a36) (Lam.mk_of KB GB tt0 (TB _ (.head _)) nd (.head _)) (Lam.mk_of KB GB tt1 (TB _ (.tail _ (.head _))) nd (.tail _ (.head _))) T (fun C1 C2 g1 g2 => by cases g1.symm.trans (PySem.W.mg_of X G gy1); cases g2.symm.trans (PySem.W.mg_of X G gy0); exact exm_no by1 xy1 wy1 nc0) (fun C1 C2 g1 g2 => by cases g1.symm.trans (PySem.W.mg_of X G gy1); cases g2.symm.trans (PySem.W.mg_of X G ge0); exact exm_no by1 xy1 wy1 nc1) (fun C1 C2 g1 g2 => by cases g1.symm.trans (PySem.W.mg_of X G gy0); cases g2.symm.trans (PySem.W.mg_of X G ge0); exact exm_no by0 xy0 wy0 nc2)⟩
  · simp only [List.mem_cons, List.not_mem_nil, or_false] at hc
    rcases hc with rfl | rfl
    · exact ⟨⟨_, _, tr0, tt0⟩, tn0⟩
    · exact ⟨⟨_, _, tr1, tt1⟩, tn1⟩
  · simp only [List.mem_cons, List.not_mem_nil, or_false] at hp
    rcases hp with rfl | rfl
    · exact .nil (hc _ (.head _))
    · exact .nil (hc _ (.tail _ (.head _)))
end Kl
open PySem PySem.W PyProof.Rows
set_option maxHeartbeats 0 in
theorem PySem.Challenge.cw_linkbooks_k16_errors_of_rows_holds : PySem.Challenge.rw_linkbooks_k16_errors_of_rows.Holds := by
  w_on; o_law; k_head; (case hw => w_witness2)
  k_fill
  refine Gx.walkGT (l := PySem.Challenge.rw_linkbooks_k16_errors_of_rows) (n := 63) (k := 12) (x := "_law_script") (CX := fun _ => L2.CX0) rfl (by decide) rfl ⟨rfl, by decide, by decide⟩ (fun w h Y => PySem.W.km_in_of Y) ?F (fun _ _ _ _ _ h => h)
  case F =>
    intro w mg fa h KX G hmg
    refine' Kl.all_mk KX G hmg ?ge0 ?he0 ?te0 ?oe0 ?qe0 ?de0 ?se0 ?ue0 ?ve0 ?ne0 ?ie0 ?ye0 ?ke0 ?be0 ?we0 ?xe0 ?re0 ?le0 ?ce0 ?pe0 ?ge1 ?he1 ?te1 ?oe1 ?qe1 ?de1 ?se1 ?ue1 ?ve1 ?ne1 ?ie1 ?ye1 ?ke1 ?be1 ?we1 ?xe1 ?re1 ?le1 ?ce1 ?pe1 ?ge2 ?he2 ?te2 ?oe2 ?qe2 ?de2 ?se2 ?ue2 ?ve2 ?ne2 ?ie2 ?ye2 ?ke2 ?be2 ?we2 ?xe2 ?re2 ?le2 ?ce2 ?pe2 ?gy0 ?hy0 ?ty0 ?iy0 ?ky0 ?by0 ?wy0 ?xy0 ?ry0 ?zy0 ?gy1 ?hy1 ?ty1 ?iy1 ?ky1 ?by1 ?wy1 ?xy1 ?ry1 ?zy1 ?a0 ?l0 ?c0 ?k0 ?a1 ?l1 ?c1 ?k1 ?a2 ?l2 ?c2 ?k2 ?a3 ?l3 ?c3 ?k3 ?a4 ?l4 ?c4 ?k4 ?a5 ?l5 ?c5 ?k5 ?a6 ?l6 ?c6 ?k6 ?a7 ?l7 ?c7 ?k7 ?a8 ?l8 ?c8 ?k8 ?a9 ?l9 ?c9 ?k9 ?a10 ?l10 ?c10 ?k10 ?a11 ?l11 ?c11 ?k11 ?a12 ?l12 ?c12 ?k12 ?a13 ?l13 ?c13 ?k13 ?a14 ?l14 ?c14 ?k14 ?a15 ?l15 ?c15 ?k15 ?a16 ?l16 ?c16 ?k16 ?a17 ?l17 ?c17 ?k17 ?a18 ?l18 ?c18 ?k18 ?a19 ?l19 ?c19 ?k19 ?a20 ?l20 ?c20 ?k20 ?a21 ?l21 ?c21 ?k21 ?a22 ?l22 ?c22 ?k22 ?a23 ?l23 ?c23 ?k23 ?a24 ?l24 ?c24 ?k24 ?a25 ?l25 ?c25 ?k25 ?a26 ?l26 ?c26 ?k26 ?a27 ?l27 ?c27 ?k27 ?a28 ?l28 ?c28 ?k28 ?a29 ?l29 ?c29 ?k29 ?a30 ?l30 ?c30 ?k30 ?a31 ?l31 ?c31 ?k31 ?a32 ?l32 ?c32 ?k32 ?a33 ?l33 ?c33 ?k33 ?a34 ?l34 ?c34 ?k34 ?a35 ?l35 ?c35 ?k35 ?a36 ?l36 ?c36 ?k36 ?goKinds ?pgoKinds ?hdoKinds ?pooKinds ?saoKinds ?mkoKinds ?kcoKinds ?neoKinds ?oboKinds ?kioKinds ?ktoKinds ?kdoKinds ?kroKinds ?ksoKinds ?kNoneTypeoKinds ?kintoKinds ?kbooloKinds ?kstroKinds ?klistoKinds ?caoKinds ?cgoKinds ?ctoKinds ?n_leafoKinds ?n_makingsoKinds ?n_namesoKinds ?atM0Kinds ?ifM0Kinds ?lM0Kinds ?cM0Kinds ?kM0Kinds ?atM2Kinds ?geM2Kinds ?taM2Kinds ?reM2Kinds ?lM2Kinds ?cM2Kinds ?kM2Kinds ?atM3Kinds ?geM3Kinds ?taM3Kinds ?reM3Kinds ?lM3Kinds ?cM3Kinds ?kM3Kinds ?atM4Kinds ?geM4Kinds ?taM4Kinds ?reM4Kinds ?lM4Kinds ?cM4Kinds ?kM4Kinds ?atM5Kinds ?geM5Kinds ?taM5Kinds ?reM5Kinds ?lM5Kinds ?cM5Kinds ?kM5Kinds ?atM9Kinds ?ifM9Kinds ?lM9Kinds ?cM9Kinds ?kM9Kinds ?atM10Kinds ?ifM10Kinds ?lM10Kinds ?cM10Kinds ?kM10Kinds ?atM12Kinds ?ifM12Kinds ?lM12Kinds ?cM12Kinds ?kM12Kinds ?atM13Kinds ?ifM13Kinds ?lM13Kinds ?cM13Kinds ?kM13Kinds ?atM14Kinds ?ifM14Kinds ?lM14Kinds ?cM14Kinds ?kM14Kinds ?m0 ?m1 ?m2 ?m3 ?m4 ?m5 ?m6 ?m7 ?z0 ?z1 ?z2 ?z3 ?z4 ?z5 ?z6 ?z7 ?z8 ?z9 ?z10 ?z11 ?z12 ?z13 ?z14 ?z15 ?z16 ?z17 ?z18 ?z19 ?z20 ?z21 ?z22 ?z23 ?tc0 ?tl0 ?tp0 ?tn0 ?tr0 ?tc1 ?tl1 ?tp1 ?tn1 ?tr1 ?tdd ?nc0 ?nc1 ?nc2
    (case ge0 => k_is); (case he0 => k_is); (case te0 => decide +kernel); (case oe0 => kx_is); (case qe0 => k_is); (case de0 => k_is); (case se0 => k_is); (case ue0 => k_is); (case ve0 => k_is); (case ne0 => k_is); (case ie0 => k_is); (case ye0 => k_is); (case ke0 => k_is); (case be0 => k_is); (case we0 => k_is); (case xe0 => k_is); (case re0 => first | rfl | k_is); (case le0 => k_is); (case ce0 => k_is); (case pe0 => k_is); (case ge1 => k_is); (case he1 => k_is); (case te1 => decide +kernel); (case oe1 => kx_is); (case qe1 => k_is); (case de1 => k_is); (case se1 => k_is); (case ue1 => k_is); (case ve1 => k_is); (case ne1 => k_is); (case ie1 => k_is); (case ye1 => k_is); (case ke1 => k_is); (case be1 => k_is); (case we1 => k_is); (case xe1 => k_is); (case re1 => first | rfl | k_is); (case le1 => k_is); (case ce1 => k_is); (case pe1 => k_is); (case ge2 => k_is); (case he2 => k_is); (case te2 => decide +kernel); (case oe2 => kx_is); (case qe2 => k_is); (case de2 => k_is); (case se2 => k_is); (case ue2 => k_is); (case ve2 => k_is); (case ne2 => k_is); (case ie2 => k_is); (case ye2 => k_is); (case ke2 => k_is); (case be2 => k_is); (case we2 => k_is); (case xe2 => k_is); (case re2 => first | rfl | k_is); (case le2 => k_is); (case ce2 => k_is); (case pe2 => k_is); (case gy0 => k_is); (case hy0 => k_is); (case ty0 => decide +kernel); (case iy0 => k_is); (case ky0 => k_is); (case by0 => k_is); (case wy0 => k_is); (case xy0 => k_is); (case ry0 => first | rfl | k_is); (case zy0 => kernel_rfl); (case gy1 => k_is); (case hy1 => k_is); (case ty1 => decide +kernel); (case iy1 => k_is); (case ky1 => k_is); (case by1 => k_is); (case wy1 => k_is); (case xy1 => k_is); (case ry1 => first | rfl | k_is); (case zy1 => kernel_rfl); (case a0 => k_is); (case l0 => k_is); (case c0 => k_is); (case k0 => k_is); (case a1 => k_is); (case l1 => k_is); (case c1 => k_is); (case k1 => k_is); (case a2 => k_is); (case l2 => k_is); (case c2 => k_is); (case k2 => k_is); (case a3 => k_is); (case l3 => k_is); (case c3 => k_is); (case k3 => k_is); (case a4 => k_is); (case l4 => k_is); (case c4 => k_is); (case k4 => k_is); (case a5 => k_is); (case l5 => k_is); (case c5 => k_is); (case k5 => k_is); (case a6 => k_is); (case l6 => k_is); (case c6 => k_is); (case k6 => k_is); (case a7 => k_is); (case l7 => k_is); (case c7 => k_is); (case k7 => k_is); (case a8 => k_is); (case l8 => k_is); (case c8 => k_is); (case k8 => k_is); (case a9 => k_is); (case l9 => k_is); (case c9 => k_is); (case k9 => k_is); (case a10 => k_is); (case l10 => k_is); (case c10 => k_is); (case k10 => k_is); (case a11 => k_is); (case l11 => k_is); (case c11 => k_is); (case k11 => k_is); (case a12 => k_is); (case l12 => k_is); (case c12 => k_is); (case k12 => k_is); (case a13 => k_is); (case l13 => k_is); (case c13 => k_is); (case k13 => k_is); (case a14 => k_is); (case l14 => k_is); (case c14 => k_is); (case k14 => k_is); (case a15 => k_is); (case l15 => k_is); (case c15 => k_is); (case k15 => k_is); (case a16 => k_is); (case l16 => k_is); (case c16 => k_is); (case k16 => k_is); (case a17 => k_is); (case l17 => k_is); (case c17 => k_is); (case k17 => k_is); (case a18 => k_is); (case l18 => k_is); (case c18 => k_is); (case k18 => k_is); (case a19 => k_is); (case l19 => k_is); (case c19 => k_is); (case k19 => k_is); (case a20 => k_is); (case l20 => k_is); (case c20 => k_is); (case k20 => k_is); (case a21 => k_is); (case l21 => k_is); (case c21 => k_is); (case k21 => k_is); (case a22 => k_is); (case l22 => k_is); (case c22 => k_is); (case k22 => k_is); (case a23 => k_is); (case l23 => k_is); (case c23 => k_is); (case k23 => k_is); (case a24 => k_is); (case l24 => k_is); (case c24 => k_is); (case k24 => k_is); (case a25 => k_is); (case l25 => k_is); (case c25 => k_is); (case k25 => k_is); (case a26 => k_is); (case l26 => k_is); (case c26 => k_is); (case k26 => k_is); (case a27 => k_is); (case l27 => k_is); (case c27 => k_is); (case k27 => k_is); (case a28 => k_is); (case l28 => k_is); (case c28 => k_is); (case k28 => k_is); (case a29 => k_is); (case l29 => k_is); (case c29 => k_is); (case k29 => k_is); (case a30 => k_is); (case l30 => k_is); (case c30 => k_is); (case k30 => k_is); (case a31 => k_is); (case l31 => k_is); (case c31 => k_is); (case k31 => k_is); (case a32 => k_is); (case l32 => k_is); (case c32 => k_is); (case k32 => k_is); (case a33 => k_is); (case l33 => k_is); (case c33 => k_is); (case k33 => k_is); (case a34 => k_is); (case l34 => k_is); (case c34 => k_is); (case k34 => k_is); (case a35 => k_is); (case l35 => k_is); (case c35 => k_is); (case k35 => k_is); (case a36 => k_is); (case l36 => k_is); (case c36 => k_is); (case k36 => k_is); (case goKinds => k_is); (case pgoKinds => k_is); (case hdoKinds => k_is); (case pooKinds => k_is); (case saoKinds => k_is); (case mkoKinds => k_is); (case kcoKinds => k_is); (case neoKinds => k_is); (case oboKinds => k_is); (case kioKinds => first | rfl | k_is); (case ktoKinds => first | rfl | k_is); (case kdoKinds => first | rfl | k_is); (case kroKinds => first | rfl | k_is); (case ksoKinds => first | rfl | k_is); (case kNoneTypeoKinds => first | rfl | k_is); (case kintoKinds => first | rfl | k_is); (case kbooloKinds => first | rfl | k_is); (case kstroKinds => first | rfl | k_is); (case klistoKinds => first | rfl | k_is); (case caoKinds => k_is); (case cgoKinds => k_is); (case ctoKinds => k_is); (case n_leafoKinds => k_is); (case n_makingsoKinds => k_is); (case n_namesoKinds => k_is); (case atM0Kinds => k_is); (case ifM0Kinds => k_is); (case lM0Kinds => k_is); (case cM0Kinds => k_is); (case kM0Kinds => k_is); (case atM2Kinds => k_is); (case geM2Kinds => k_is); (case taM2Kinds => k_is); (case reM2Kinds => k_is); (case lM2Kinds => k_is); (case cM2Kinds => k_is); (case kM2Kinds => k_is); (case atM3Kinds => k_is); (case geM3Kinds => k_is); (case taM3Kinds => k_is); (case reM3Kinds => k_is); (case lM3Kinds => k_is); (case cM3Kinds => k_is); (case kM3Kinds => k_is); (case atM4Kinds => k_is); (case geM4Kinds => k_is); (case taM4Kinds => k_is); (case reM4Kinds => k_is); (case lM4Kinds => k_is); (case cM4Kinds => k_is); (case kM4Kinds => k_is); (case atM5Kinds => k_is); (case geM5Kinds => k_is); (case taM5Kinds => k_is); (case reM5Kinds => k_is); (case lM5Kinds => k_is); (case cM5Kinds => k_is); (case kM5Kinds => k_is); (case atM9Kinds => k_is); (case ifM9Kinds => k_is); (case lM9Kinds => k_is); (case cM9Kinds => k_is); (case kM9Kinds => k_is); (case atM10Kinds => k_is); (case ifM10Kinds => k_is); (case lM10Kinds => k_is); (case cM10Kinds => k_is); (case kM10Kinds => k_is); (case atM12Kinds => k_is); (case ifM12Kinds => k_is); (case lM12Kinds => k_is); (case cM12Kinds => k_is); (case kM12Kinds => k_is); (case atM13Kinds => k_is); (case ifM13Kinds => k_is); (case lM13Kinds => k_is); (case cM13Kinds => k_is); (case kM13Kinds => k_is); (case atM14Kinds => k_is); (case ifM14Kinds => k_is); (case lM14Kinds => k_is); (case cM14Kinds => k_is); (case kM14Kinds => k_is); (case m0 => k_is); (case m1 => k_is); (case m2 => k_is); (case m3 => k_is); (case m4 => k_is); (case m5 => k_is); (case m6 => k_is); (case m7 => k_is); (case z0 => k_is); (case z1 => k_is); (case z2 => k_is); (case z3 => k_is); (case z4 => k_is); (case z5 => k_is); (case z6 => k_is); (case z7 => k_is); (case z8 => k_is); (case z9 => k_is); (case z10 => k_is); (case z11 => k_is); (case z12 => k_is); (case z13 => k_is); (case z14 => k_is); (case z15 => k_is); (case z16 => k_is); (case z17 => k_is); (case z18 => k_is); (case z19 => k_is); (case z20 => k_is); (case z21 => k_is); (case z22 => k_is); (case z23 => k_is); (case tc0 => rfl); (case tl0 => k_is); (case tp0 => rfl); (case tn0 => kernel_rfl); (case tr0 => rfl); (case tc1 => rfl); (case tl1 => k_is); (case tp1 => rfl); (case tn1 => kernel_rfl); (case tr1 => rfl); (case tdd => decide); (case nc0 => first | rfl | k_is); (case nc1 => first | rfl | k_is); (case nc2 => first | rfl | k_is)
