import PyProof.Rows.All
import Wide.All
import OpenK.AllK
import Wide.FinOn
import KE.KCallOwn
import KE.KEqDict
import PyProof.InstEq
import HandS.Base
import HandS.Call
import HandS.List
import HandS.Dict
import HandS.More
import HandS.Comp
import HandS.Words
import HandS.Property
import HandS.IsInst
import PyProof.Rows.SortShellAny
import PyProof.Rows.SetFrom
import HandS.Set
import PyProof.Rows.StrCountLaw
import HandS.ForMost
import HandS.Wide
import HandS.StrMore
import HandS.Style
import PyProof.ReprReads
import HandS.Ends
import PyProof.ReprRoads
import PyProof.TupleOfSeq
import KE.KExcInit
import HandS.ForExc
import HandS.TryMany
import HandS.Defaults
import HandS.Deep
import HandS.ExcValue
import KE.KExcMake
import KE.KExcIs
import HandS.ClsMeth
import HandS.Lambda
import HandS.EndBits
import KE.KNest
import HandS.Walk
import HandS.FStr
import HandS.DictComp
import HandS.ListItems
import HandS.TupAny
import HandS.Star
import HandS.Strs
import HandS.ReCall
import PyProof.Rows.RegFStrParts
import HandS.WordsDict
import HandS.Zip
import KE.GoesMore
import KE.GoesZip
import HandS.Small
import HandS.SetFor
import HandS.Flow
import PyProof.EqAt
import HandS.Sort
import PyProof.ListRange
import HandS.TupLen
import PyProof.Rows.StrIntSpec
import PyProof.Rows.StrDigitsNeg
import HandS.GenList
import KE.SortKeyHeap
import PyProof.AssignAttr
import PyProof.Rows.StrFin3
import HandS.RaiseMore
import KE.KNestM
import KE.KExcLine
import PySem.Challenge.RW_linkbooks_k47_trees_told
set_option Elab.async false
set_option linter.all false
set_option maxRecDepth 100000
set_option maxHeartbeats 4000000
namespace Gx
open PySem PySem.Spec PySem.Calls PyProof.Rows L2
/-! ### own protocols: in, [], len, str, == and != of instances -/
theorem rel_ref (a : Addr) : RelV (V.ref a) (Value.ref a) := rfl
/-- a method of the class at C that keeps the promise sp, by at most level k -/
def CalM (P : Program) (w : World) (K : PySem.W.Frag) (mg : Str → Option Value) (base : Heap) (C : Addr) (m : Str) (k : Nat) (ps : List Str) (sp : Sp) : Prop :=
  ∃ (f : Addr) (fd : FuncData), FnOk P w K mg base CX0 k f fd ps sp ∧ Meth K C m f ∧ Binds K fd ps [] ∧ PySem.W.fnIn K f = true
theorem CalM.mono {P : Program} {w : World} {K : PySem.W.Frag} {mg : Str → Option Value} {base : Heap} {C : Addr} {m : Str} {j k : Nat} {ps : List Str} {sp : Sp} (c : CalM P w K mg base C m j ps sp) (h : j ≤ k) : CalM P w K mg base C m k ps sp := by
  obtain ⟨f, fd, F, more⟩ := c
  exact ⟨f, fd, F.mono h, more⟩
section
variable {X : Cx} {C : Addr} {k : Nat} {ps : List Str} {sp : Sp} {m : Str}
/-- the method runs, somewhere below the body -/
theorem run_below {f : Addr} {fd : FuncData} {A : Around} {pins : List (Addr × Obj)} {σ : L2.St} {H : Hp} {s : Shared} {us : List Value} {vs : List V} {Q : VK} {E : Value → Shared → Prop} (F : FnOk X.prog X.w X.K X.mg X.base CX0 k f fd ps sp) (room : Room k A) (fr : A.frames = X.A.frames) (b : Binds X.K fd ps [])
    (I : Inv X pins σ H s) (r : Vals vs us) (want : sp vs H Q E0) : wpAny (model X.prog X.w) A (call (.ref f) us) (EP X pins σ Q) E s := by
  have e0 : Env0 X.prog X.w X.K X.mg X.base A X.stack s H := by
    have e := I.env0
    exact ⟨by rw [fr]; exact e.frames, e.mod, e.bs, e.bsz, e.funs, e.frf, e.hok, e.bare⟩
  have hl : us.length = ps.length := r.length.symm.trans (F.len _ _ _ _ want)
  have bt : BindsTo s fd ⟨us, []⟩ (ps.zip us) := by
    have q := b s us I.kIn (by rw [List.append_nil]; exact hl)
    rw [List.append_nil] at q
    exact q
  refine wpAny_call (codeAny_mono (F.run A X.stack s H ⟨us, []⟩ us vs Q E0 room e0 bt r want) fun res s' hres => ?_)
  match res, hres with
  | .error e, hres => exact hres.elim
  | .ok (.ret u), hres => exact I.after hres
/-- x in o, x not in o -/
def rInM (C : Addr) (sp : Sp) (neg : Bool) : R2 := fun x y H Q => ∃ a dx fs, y = .ref a ∧ H a = some (.ins C dx fs) ∧ sp [.ref a, x] H (fun v H' => ∃ b, v = .bl b ∧ Q (.bl (if neg then !b else b)) H') E0
theorem op_inM (c : CalM X.prog X.w X.K X.mg X.base C "__contains__" k ps sp) (hr : Room k X.A) : OpR X (compareOp .In) (rInM C sp false) := by
  intro pins s σ H x y v u Q I rx ry h
  obtain ⟨f, fd, F, me, b, _⟩ := c
  obtain ⟨a, dx, fs, rfl, ea, q⟩ := h
  obtain rfl : u = Value.ref a := ry
  obtain ⟨mA, O, _⟩ := ins_get I.hok ea
  obtain ⟨od, J, _⟩ := O.look
  obtain ⟨mm, hF⟩ := I.fr
  refine PySem.W.in_K hF I.ok.mod.kin J me.at_ me.fn (wpAny_mono (run_below F hr rfl b I (.cons (rel_ref a) (.cons rx .nil)) q) (fun r s' z => ?_) fun _ _ e => e)
  obtain ⟨v', H', I', rv, t, rfl, q'⟩ := z
  cases rv
  exact wpAny_truthy_bool ⟨.bl t, H', I', rfl, q'⟩
theorem op_notinM (c : CalM X.prog X.w X.K X.mg X.base C "__contains__" k ps sp) (hr : Room k X.A) : OpR X (compareOp .NotIn) (rInM C sp true) := by
  intro pins s σ H x y v u Q I rx ry h
  obtain ⟨f, fd, F, me, b, _⟩ := c
  obtain ⟨a, dx, fs, rfl, ea, q⟩ := h
  obtain rfl : u = Value.ref a := ry
  obtain ⟨mA, O, _⟩ := ins_get I.hok ea
  obtain ⟨od, J, _⟩ := O.look
  obtain ⟨mm, hF⟩ := I.fr
  refine PySem.W.notIn_K hF I.ok.mod.kin J me.at_ me.fn (wpAny_mono (run_below F hr rfl b I (.cons (rel_ref a) (.cons rx .nil)) q) (fun r s' z => ?_) fun _ _ e => e)
  obtain ⟨v', H', I', rv, t, rfl, q'⟩ := z
  cases rv
  exact wpAny_truthy_bool ⟨.bl (!t), H', I', rfl, q'⟩
/-- o[x] -/
def rIxM (C : Addr) (sp : Sp) : R2 := fun x y H Q => ∃ a dx fs, x = .ref a ∧ H a = some (.ins C dx fs) ∧ sp [.ref a, y] H Q E0
theorem pe_ixM {a b : Expr} {ta tb : TE} {pos : Pos} (c : CalM X.prog X.w X.K X.mg X.base C "__getitem__" k ps sp) (hr : Room (k + 1) X.A) (ha : PE X a ta) (hb : PE X b tb)
    (hs : ∀ v u, subscripted b true v u = runValue (.builtin "lifetime.subscript" ⟨[v, u], []⟩)) : PE X (.Subscript a b pos) (tOp (rIxM C sp) ta tb) := by
  obtain ⟨f, fd, F, me, bi, fi⟩ := c
  refine ⟨fun pins s σ H Q I h => ?_⟩
  refine Subscript_ (binT ha hb I h fun v u s2 x y H2 I2 rx ry q => ?_)
  obtain ⟨p, dx, fs, rfl, ea, q⟩ := q
  obtain rfl : v = Value.ref p := rx
  obtain ⟨mA, O, _⟩ := ins_get I2.hok ea
  obtain ⟨od, J, _⟩ := O.look
  obtain ⟨mm, hF⟩ := I2.fr
  exact PySem.W.sub_K hF I2.ok.mod.kin J me.at_ fi me.fn (run_below F hr.in1 rfl bi I2 (.cons (rel_ref _) (.cons ry .nil)) q) (hs _ _)
/-- len(o) -/
def rLenM (C : Addr) (sp : Sp) : List V → Hp → VK → Prop := fun vs H Q => ∃ a dx fs, vs = [.ref a] ∧ H a = some (.ins C dx fs) ∧ sp [.ref a] H (fun v H' => ∃ n : Nat, v = .int n ∧ n ≤ 1000000 ∧ Q (.int n) H') E0
theorem call_lenM (c : CalM X.prog X.w X.K X.mg X.base C "__len__" k ps sp) (hr : Room (k + 1) X.A) : CallR X (.builtin "len") (rLenM C sp) := by
  intro pins s σ H xs us Q I r h
  obtain ⟨f, fd, F, me, b, _⟩ := c
  obtain ⟨a, dx, fs, rfl, ea, q⟩ := h
  rw [Vals.ref1 r]
  obtain ⟨mA, O, _⟩ := ins_get I.hok ea
  obtain ⟨od, J, _⟩ := O.look
  obtain ⟨mm, hF⟩ := I.fr
  refine PySem.W.len_K hF I.ok.mod.kin J me.at_ me.fn (wpAny_mono (run_below F hr.in1 rfl b I (.cons (rel_ref a) .nil) q) (fun r s' z => ?_) fun _ _ e => e)
  obtain ⟨v', H', I', rv, n, rfl, hn, q'⟩ := z
  obtain ⟨t, rfl⟩ := (show ∃ t, r = Value.int n t from rv)
  exact ⟨⟨by omega, by omega⟩, .int n, H', I'.tok _, ⟨_, rfl⟩, q'⟩
/-- str(o) -/
def rStrM (C : Addr) (sp : Sp) : List V → Hp → VK → Prop := fun vs H Q => ∃ a dx fs, vs = [.ref a] ∧ H a = some (.ins C dx fs) ∧ sp [.ref a] H (fun v H' => ∃ z : Str, v = .str z ∧ Q (.str z) H') E0
theorem call_strM (c : CalM X.prog X.w X.K X.mg X.base C "__str__" k ps sp) (hr : Room (k + 2) X.A) : CallR X (.type "str") (rStrM C sp) := by
  intro pins s σ H xs us Q I r h
  obtain ⟨f, fd, F, me, b, _⟩ := c
  obtain ⟨a, dx, fs, rfl, ea, q⟩ := h
  rw [Vals.ref1 r]
  obtain ⟨mA, O, _⟩ := ins_get I.hok ea
  obtain ⟨od, J, _⟩ := O.look
  have r2 : Room k X.A.in1.in1 := (hr.in1).in1
  refine PySem.W.kso_call r2.units0 I.kIn J me.at_ me.fn (wpAny_mono (run_below F r2 rfl b I (.cons (rel_ref a) .nil) q) (fun r s' z => ?_) fun _ _ e => e)
  obtain ⟨v', H', I', rv, y, rfl, q'⟩ := z
  obtain ⟨t, rfl⟩ := (show ∃ t, r = Value.str y t from rv)
  exact ⟨.str y, H', I', ⟨_, rfl⟩, q'⟩
/-- what an instance of the class at C may be compared with: another one, a tuple, a dict -/
inductive Oth (K : PySem.W.Frag) (H : Hp) (C : Addr) : V → Value → Prop
  | ins {a dx : Addr} {fs : List (Str × V)} (e : H a = some (.ins C dx fs)) : Oth K H C (.ref a) (.ref C)
  | tup {a : Addr} {xs : List V} (e : SqT K H a xs) : Oth K H C (.ref a) (.type "tuple")
  | dict {a : Addr} {kvs : List (Key × V)} (e : H a = some (.dK kvs)) : Oth K H C (.ref a) (.type "dict")
theorem sub_tuple_own {K : PySem.W.Frag} {C : Addr} : PySem.W.subIn K (.type "tuple") (.ref C) = some false := by
  have e : fastBuiltinMro "tuple" = some [.type "tuple", .type "object"] := by decide +kernel
  show (fastBuiltinMro "tuple").map (·.contains (.ref C)) = some false
  rw [e]
  first
    | rfl
    | simp
theorem sub_dict_own {K : PySem.W.Frag} {C : Addr} : PySem.W.subIn K (.type "dict") (.ref C) = some false := by
  have e : fastBuiltinMro "dict" = some [.type "dict", .type "object"] := by decide +kernel
  show (fastBuiltinMro "dict").map (·.contains (.ref C)) = some false
  rw [e]
  first
    | rfl
    | simp
theorem Oth.looks {M : Model} {pins : List (Addr × Obj)} {σ : L2.St} {H : Hp} {s : Shared} {y : V} {u t : Value} (I : Inv X pins σ H s) (o : Oth X.K H C y t) (r : RelV y u) :
    PySem.W.Looks M s.heap (typeOf u) t ∧ PySem.W.notFirst X.K C t = true := by
  cases o with
  | @ins a dx fs e =>
    obtain rfl : u = Value.ref a := r
    obtain ⟨mA, O, _⟩ := ins_get I.hok e
    obtain ⟨od, J, _⟩ := O.look
    exact ⟨J.type, by simp [PySem.W.notFirst]⟩
  | @tup a xs e =>
    obtain rfl : u = Value.ref a := r
    obtain ⟨its, rv, ⟨ob, ho, hc, _⟩, _⟩ := I.tuple e
    refine ⟨?_, by simp [PySem.W.notFirst, sub_tuple_own]⟩
    intro A Q E s' kp q
    exact wpAny_typeOf (T := "tuple") ⟨ob, kp _ _ ho, hc⟩ q
  | @dict a kvs e =>
    obtain rfl : u = Value.ref a := r
    obtain ⟨_, _, vs, _, dd⟩ := dk_of I.hok e
    refine ⟨?_, by simp [PySem.W.notFirst, sub_dict_own]⟩
    intro A Q E s' kp q
    obtain ⟨ob, ho, hc⟩ := dd.typeIs
    exact wpAny_typeOf (T := "dict") ⟨ob, kp _ _ ho, hc⟩ q
/-- o == y by the class's own == -/
def rEqM (K : PySem.W.Frag) (C : Addr) (sp : Sp) : R2 := fun x y H Q => ∃ a dx fs t, x = .ref a ∧ H a = some (.ins C dx fs) ∧ Oth K H C y t ∧ sp [.ref a, y] H (fun v H' => ∃ b, v = .bl b ∧ Q (.bl b) H') E0
theorem op_eqM (c : CalM X.prog X.w X.K X.mg X.base C "__eq__" k ps sp) (hr : Room k X.A) : OpR X (compareOp .Eq) (rEqM X.K C sp) := by
  intro pins s σ H x y v u Q I rx ry h
  obtain ⟨f, fd, F, me, b, _⟩ := c
  obtain ⟨a, dx, fs, t, rfl, ea, o, q⟩ := h
  obtain rfl : v = Value.ref a := rx
  obtain ⟨mA, O, _⟩ := ins_get I.hok ea
  obtain ⟨od, J, _⟩ := O.look
  obtain ⟨mm, hF⟩ := I.fr
  obtain ⟨lk, nf⟩ := o.looks (M := model X.prog X.w) I ry
  show wpAny _ _ (richCompare .Eq (.ref a) u) _ _ _
  refine PySem.W.cmp_K (op := .Eq) hr.units0 hF I.ok.mod.kin J lk nf me.at_ me.fn (wpAny_mono (run_below F hr rfl b I (.cons (rel_ref _) (.cons ry .nil)) q) (fun r s' z => ?_) fun _ _ e => e)
  obtain ⟨v', H', I', rv, t, rfl, q'⟩ := z
  cases rv
  exact ⟨.bl t, H', I', rfl, q'⟩
end
section
variable {prog : Program} {w : World} {A : Around} {E : Value → Shared → Prop} {s : Shared} {K : PySem.W.Frag} {x C f : Addr} {ox : Obj} {od : Option Obj} {y : Value}
theorem objNe_by (inK : K.In s.heap) (J : PySem.W.InstAt s.heap x ox C od) (hs : PySem.W.findIn K (.ref C) "__eq__" = some (some (.ref f))) (hf : PySem.W.isFn K (.ref f) = true) (hu : A.units < cLine) {Q : Fin → Shared → Prop}
    (hcall : wpAny (model prog w) A (call (.ref f) [.ref x, y]) (fun v s' => ∃ b, v = .bool b ∧ Q (.done (.ret (.bool (!b)))) s') E s) : wpAny (model prog w) A (Builtin.«object.__ne__» ⟨[.ref x, y], []⟩) Q E s := by
  unfold Builtin.«object.__ne__»
  repeat (first
    | with_reducible refine wpAny_cRoomFor hu ?_
    | (refine wpAny_bind (m := callSpecialIfBound? (.ref x) (Str.ofString "__eq__") [y]) (PySem.W.ifBound_K inK J hs hf (wpAny_mono hcall (fun r s' hr => by
          obtain ⟨b, rfl, hq⟩ := hr
          repeat (first | exact hq | exact wpAny_pure hq | exact wpAny_truthy_bool hq | (refine wpAny_bind (m := truthy (.bool _)) (wpAny_truthy_bool ?_)) | wp_step)) fun _ _ e => e)))
    | wp_step)
theorem bound_ne {args : List Value} {Q : Option Value → Shared → Prop} (inK : K.In s.heap) (J : PySem.W.InstAt s.heap x ox C od) (hs : PySem.W.findIn K (.ref C) "__ne__" = some (some (.builtin "object.__ne__")))
    (h : wpAny (model prog w) A (call (.builtin "object.__ne__") (.ref x :: args)) (fun v => Q (some v)) E s) : wpAny (model prog w) A (callSpecialIfBound? (.ref x) "__ne__" args) Q E s := by
  simp only [callSpecialIfBound?, bindSpecialIfBound?]
  refine wpAny_holding (wpAny_bind (wpAny_bind (wpAny_bind (J.type.here ((PySem.W.looks_findIn inK hs).here ?_)))))
  refine wpAny_bind (wpAny_askSetting (wpAny_ite ?_))
  have last : wpAny (model prog w) A (call (.builtin "object.__ne__") ([.ref x] ++ args) >>= fun v => pure (some v)) Q E s := wpAny_bind (wpAny_mono h (fun v s' h' => wpAny_pure h') fun _ _ h' => h')
  split
  · exact wpAny_bind (wpAny_of_eq (PySem.F.cmp_object.ne.bind _) (wpAny_pure (by exact last)))
  · exact wpAny_tryCatch (wpAny_bind (wpAny_of_eq (PySem.F.cmp_object.ne.bind _) (wpAny_pure (by exact last))))
theorem rc_neM {tb : Value} {Q : Value → Shared → Prop} (inK : K.In s.heap) (J : PySem.W.InstAt s.heap x ox C od) (hm : PySem.W.mroIn K C (.type "object") = some true) (hn : PySem.W.findIn K (.ref C) "__ne__" = some (some (.builtin "object.__ne__")))
    (hs : PySem.W.findIn K (.ref C) "__eq__" = some (some (.ref f))) (hf : PySem.W.isFn K (.ref f) = true) (hu : A.units < cLine) (hu1 : A.in1.units < cLine) (lk : PySem.W.Looks (model prog w) s.heap (typeOf y) tb) (nf : PySem.W.notFirst K C tb = true)
    (hcall : wpAny (model prog w) A.in1 (call (.ref f) [.ref x, y]) (fun v s' => ∃ b, v = .bool b ∧ Q (.bool (!b)) s') E s) : wpAny (model prog w) A (richCompare .NotEq (.ref x) y) Q E s := by
  have one : wpAny (model prog w) A (tryCompare (.ref x) "__ne__" y) (fun r s' => ∃ v, r = some v ∧ Q v s') E s := by
    unfold tryCompare
    refine wpAny_bind (bound_ne inK J hn (wpAny_call (codeAny_call_builtin PySem.F.cmp_object.ne.plain PySem.F.cmpEntry_ne
      (PySem.W.check_slot PySem.F.cmpKind_ne PySem.F.cmpSplit_ne (J.type.andThen (PySem.W.looks_mroIn inK hm)) (PySem.F.cmpArgs_ne _ _) (objNe_by inK J hs hf hu1 (wpAny_mono hcall (fun v s' hv => ?_) fun _ _ e => e))))))
    obtain ⟨b, rfl, q⟩ := hv
    first
      | exact ⟨b, rfl, wpAny_pure ⟨_, rfl, q⟩⟩
      | exact ⟨b, rfl, wpAny_pure (wpAny_pure ⟨_, rfl, q⟩)⟩
      | exact ⟨b, rfl, ⟨_, rfl, q⟩⟩
  unfold richCompare
  simp only [oneThing_ref]
  refine wpAny_holding (wpAny_bind (wpAny_cRoomFor hu ?_))
  refine wpAny_bind (J.type.here (wpAny_bind (lk.here ?_)))
  split
  · rename_i q
    have e : PySem.W.subIn K tb (.ref C) = some false := by
      rcases Bool.or_eq_true_iff.mp nf with e | e
      · rw [beq_iff_eq.mp e] at q
        simp at q
      · exact beq_iff_eq.mp e
    refine wpAny_bind ((PySem.W.looks_subIn inK e).here ?_)
    simp only [Bool.false_eq_true, if_false]
    refine wpAny_bind (wpAny_mono one (fun r s' z => ?_) fun _ _ e => e)
    obtain ⟨v, rfl, hq⟩ := z
    exact wpAny_pure hq
  · refine wpAny_bind (wpAny_pure ?_)
    simp only [Bool.false_eq_true, if_false]
    refine wpAny_bind (wpAny_mono one (fun r s' z => ?_) fun _ _ e => e)
    obtain ⟨v, rfl, hq⟩ := z
    exact wpAny_pure hq
end
section
variable {X : Cx} {C : Addr} {k : Nat} {ps : List Str} {sp : Sp}
/-- o != y, the class having no != of its own -/
def rNeM (K : PySem.W.Frag) (C : Addr) (sp : Sp) : R2 := fun x y H Q => ∃ a dx fs t, x = .ref a ∧ H a = some (.ins C dx fs) ∧ Oth K H C y t ∧ sp [.ref a, y] H (fun v H' => ∃ b, v = .bl b ∧ Q (.bl (!b)) H') E0
theorem op_neM (c : CalM X.prog X.w X.K X.mg X.base C "__eq__" k ps sp) (hn : PySem.W.findIn X.K (.ref C) "__ne__" = some (some (.builtin "object.__ne__"))) (hm : PySem.W.mroIn X.K C (.type "object") = some true) (hr : Room (k + 1) X.A) :
    OpR X (compareOp .NotEq) (rNeM X.K C sp) := by
  intro pins s σ H x y v u Q I rx ry h
  obtain ⟨f, fd, F, me, b, _⟩ := c
  obtain ⟨a, dx, fs, t, rfl, ea, o, q⟩ := h
  obtain rfl : v = Value.ref a := rx
  obtain ⟨mA, O, _⟩ := ins_get I.hok ea
  obtain ⟨od, J, _⟩ := O.look
  obtain ⟨lk, nf⟩ := o.looks (M := model X.prog X.w) I ry
  show wpAny _ _ (richCompare .NotEq (.ref a) u) _ _ _
  refine rc_neM I.kIn J hm hn me.at_ me.fn hr.units0 hr.in1.units0 lk nf (wpAny_mono (run_below F hr.in1 rfl b I (.cons (rel_ref _) (.cons ry .nil)) q) (fun r s' z => ?_) fun _ _ e => e)
  obtain ⟨v', H', I', rv, t, rfl, q'⟩ := z
  cases rv
  exact ⟨t, rfl, .bl (!t), H', I', rfl, q'⟩
/-! ### dicts of data compared -/
/-- the pairs ks, one by one, in the dict of the pairs ls -/
inductive HitsV (K : PySem.W.Frag) (H : Hp) (ls : List (Key × V)) : List (Key × V) → Bool → Prop
  | nil : HitsV K H ls [] true
  | miss {p : Key × V} {r : List (Key × V)} (e : valV ls p.1 = none) : HitsV K H ls (p :: r) false
  | hit {p : Key × V} {r : List (Key × V)} {y : V} {d e : PyData} {b : Bool} (at_ : valV ls p.1 = some y) (hd : Dp K H p.2 d) (he : Dp K H y e) (sd : SeqAt.shaped d = true) (se : SeqAt.shaped e = true) (more : HitsV K H ls r b) : HitsV K H ls (p :: r) (PyData.eqv d e && b)
theorem HitsV.raw {pins : List (Addr × Obj)} {σ : L2.St} {H : Hp} {s : Shared} (I : Inv X pins σ H s) (hu : X.A.in1.units + 64 < cLine) {ls : List (Key × V)} {vb : List (Key × Value)} (rb : KV ls vb) {ks : List (Key × V)} {r : Bool} (h : HitsV X.K H ls ks r) :
    ∀ {va : List (Key × Value)}, KV ks va → PySem.W.KeqHits X.A.in1 s vb va r := by
  induction h with
  | nil =>
    intro va ra
    unfold KV at ra
    cases ra
    exact .nil
  | @miss p r e =>
    intro va ra
    unfold KV at ra
    cases ra with
    | @cons _ q _ qs h t =>
      obtain ⟨k, v⟩ := q
      obtain ⟨h1, h2⟩ := h
      have h1' : p.1 = k := h1
      have rr := rb.val p.1
      rw [e, h1'] at rr
      refine .miss ?_
      cases c : valueAt vb k with
      | none => rfl
      | some z => rw [c] at rr; exact rr.elim
  | @hit p r y d e b at_ hd he sd se more ih =>
    intro va ra
    unfold KV at ra
    cases ra with
    | @cons _ q _ qs h t =>
      obtain ⟨k, v⟩ := q
      obtain ⟨h1, h2⟩ := h
      have h1' : p.1 = k := h1
      have rr := rb.val p.1
      rw [at_, h1'] at rr
      obtain ⟨z, hz, rz⟩ := RelO.some_of rr
      obtain ⟨as, r1⟩ := Dp.reads I d p.2 v hd h2
      obtain ⟨bs, r2⟩ := Dp.reads I e y z he rz
      exact .hit hz (PySem.W.keq_at r1 r2 sd se hu) (ih t)
def rEqDX (K : PySem.W.Frag) : R2 := fun x y H Q => ∃ a b ks ls r, x = .ref a ∧ y = .ref b ∧ H a = some (.dK ks) ∧ H b = some (.dK ls) ∧ (ks.length = ls.length → HitsV K H ls ks r) ∧ Q (.bl (ks.length == ls.length && r)) H
theorem op_eqDX (hu : X.A.units + 66 < cLine) : OpR X (compareOp .Eq) (rEqDX X.K) := by
  intro pins s σ H x y v u Q I rx ry h
  obtain ⟨a, b, ks, ls, r, rfl, rfl, ea, eb, hits, q⟩ := h
  obtain rfl : v = Value.ref a := rx
  obtain rfl : u = Value.ref b := ry
  obtain ⟨_, ya, va, ra, da⟩ := dk_of I.hok ea
  obtain ⟨_, yb, vb, rb, db⟩ := dk_of I.hok eb
  have l1 := ra.length
  have l2 := rb.length
  have u1 : X.A.in1.units + 64 < cLine := by
    have e : X.A.in1.units ≤ X.A.units + 1 := by
      show X.A.units + 1 ≤ _
      exact Nat.le_refl _
    omega
  refine PySem.W.keq_eq (knd := mixKind X.prog X.w) (r := r) ya yb da db (by omega) (fun e => (hits (by omega)).raw I u1 rb ra) (fin_bl I q ?_)
  rw [l1, l2]
/-! ### a star before a dict -/
def tStarD (te : TE) (t : TA) : TA := fun σ H Q => te σ H fun x H1 => ∃ p kvs, x = V.ref p ∧ H1 p = some (.dK kvs) ∧ t σ H1 fun ys H2 => Q ((kvs.map fun kv => kV kv.1) ++ ys) H2
theorem star_dict {pins : List (Addr × Obj)} {σ : L2.St} {H : Hp} {s : Shared} (hc : X.calm = true) {a : Addr} {kvs : List (Key × V)} {E : Value → Shared → Prop} {Q : List Value → Shared → Prop} (I : Inv X pins σ H s) (h : H a = some (.dK kvs)) (hQ : ∀ us s', Inv X pins σ H s' → Vals (kvs.map fun kv => kV kv.1) us → Q us s') :
    PySem.W.StarOf (model X.prog X.w) X.A E (.ref a) Q s := by
  obtain ⟨z, lo, vs, rel, dd⟩ := dk_of I.hok h
  obtain ⟨ep, hat⟩ := dd.dictAt
  have hT : s.TypeIs (.ref a) "dict" := dd.typeIs
  have z2 : vs.length ≤ sizeLine := by rw [← rel.length]; exact z
  have ek : (kvs.map fun kv => kV kv.1) = vs.map fun p => kV p.1 := by
    have e := congrArg (List.map kV) rel.keys
    rw [List.map_map, List.map_map] at e
    exact e
  have g : wpAny (model X.prog X.w) X.A (collect (.ref a)) Q E s := by
    refine PySem.W.kdu_collect (PySem.W.kdl_dict (knd := mixKind X.prog X.w) (kvs := vs) (ep := ep) lo) (I.ok.hd hc) hat z2 fun h' tk acc hk hacc => ?_
    have hv : Vals (vs.map fun p => kV p.1) acc.toList := keys_at (by rw [Array.length_toList]; exact hacc.1) fun j v e => hacc.2 j v (by rw [← Array.getElem?_toList]; exact e)
    exact hQ _ _ (I.kept (t' := tk) hk) (by rw [ek]; exact hv)
  unfold PySem.W.StarOf notIterableAtAll
  exact wpAny_bind (wpAny_specialOf hT PySem.F.slot_dict_iter.lookup (wpAny_pure ⟨rfl, g⟩))
theorem pa_starD {e : Expr} {es : List Expr} {te : TE} {t : TA} {p : Pos} (hc : X.calm = true) (he : PE X e te) (hr : PA X es t) (hs : starEach (.Starred e p :: es) X.env = (true, eval e X.env) :: starEach es X.env := by rfl) : PA X (.Starred e p :: es) (tStarD te t) := by
  refine ⟨fun pos pins s σ H Q I h => ?_⟩
  refine PySem.W.items_star (thn (he.run pins s σ H _ I h) fun v s1 ⟨y, H1, I1, ry, a, kvs, ey, hx, q⟩ => ?_) hs
  subst ey
  obtain rfl : v = Value.ref a := ry
  refine star_dict hc I1 hx fun us s2 I2 rv => ?_
  exact thn (hr.run pos pins s2 σ H1 _ I2 q) fun ws s3 ⟨vs, H3, I3, r3, q3⟩ => ⟨_, H3, I3, rv.append r3, q3⟩
end
end Gx

set_option maxRecDepth 100000
set_option maxHeartbeats 4000000
namespace Gx
open PySem PySem.Spec PyProof.Rows L2
/-! ### classes of the top: methods, properties, making -/
theorem fn_in {K : PySem.W.Frag} {f : Addr} {oc : Value} {od : Option Addr} {fd : FuncData} {sl : Array (Option Value)} (l : K.lookup f = some ⟨oc, od, .func fd, sl⟩) : PySem.W.fnIn K f = true := by
  unfold PySem.W.fnIn
  rw [l]
/-- the class at C has the def st as its property m -/
def PropD (K : PySem.W.Frag) (C : Addr) (m qual : Str) (st : Stmt) : Prop := ∃ (p f : Addr) (fd : FuncData), PropOf K C m p f ∧ Fun K m qual st f fd ∧ Binds K fd ["self"] []
/-- .. as its method m -/
def DefM (K : PySem.W.Frag) (C : Addr) (m qual : Str) (st : Stmt) (ps : List Str) : Prop := ∃ (f : Addr) (fd : FuncData), Fun K m qual st f fd ∧ Meth K C m f ∧ Binds K fd ps [] ∧ PySem.W.fnIn K f = true
/-- a property that keeps the promise sp -/
def CalP (P : Program) (w : World) (K : PySem.W.Frag) (mg : Str → Option Value) (base : Heap) (C : Addr) (m : Str) (k : Nat) (sp : Sp) : Prop :=
  ∃ (p f : Addr) (fd : FuncData), PropOf K C m p f ∧ FnOk P w K mg base CX0 k f fd ["self"] sp ∧ Binds K fd ["self"] []
/-- C(..) by its __init__'s promise -/
def CalI (P : Program) (w : World) (K : PySem.W.Frag) (mg : Str → Option Value) (base : Heap) (C : Addr) (k : Nat) (ps : List Str) (sp : Sp) : Prop :=
  ∃ (f : Addr) (fd : FuncData), Mk K C f ∧ FnOk P w K mg base CX0 k f fd ps sp ∧ Binds K fd ps []
section
variable {P : Program} {w : World} {K : PySem.W.Frag} {mg : Str → Option Value} {base : Heap} {C : Addr} {m qual : Str} {st : Stmt} {k : Nat} {ps : List Str} {sp : Sp}
theorem DefM.cal (d : DefM K C m qual st ps) (h : ∀ f fd, Fun K m qual st f fd → FnOk P w K mg base CX0 k f fd ps sp) : CalM P w K mg base C m k ps sp := by
  obtain ⟨f, fd, F, me, b, fi⟩ := d
  exact ⟨f, fd, h f fd F, me, b, fi⟩
theorem PropD.cal (d : PropD K C m qual st) (h : ∀ f fd, Fun K m qual st f fd → FnOk P w K mg base CX0 k f fd ["self"] sp) : CalP P w K mg base C m k sp := by
  obtain ⟨p, f, fd, pr, F, b⟩ := d
  exact ⟨p, f, fd, pr, h f fd F, b⟩
theorem CalP.mono {j : Nat} (c : CalP P w K mg base C m j sp) (h : j ≤ k) : CalP P w K mg base C m k sp := by
  obtain ⟨p, f, fd, pr, F, b⟩ := c
  exact ⟨p, f, fd, pr, F.mono h, b⟩
theorem CalI.mono {j : Nat} (c : CalI P w K mg base C j ps sp) (h : j ≤ k) : CalI P w K mg base C k ps sp := by
  obtain ⟨f, fd, M, F, b⟩ := c
  exact ⟨f, fd, M, F.mono h, b⟩
end
section
variable {X : Cx} {C : Addr} {m x : Str} {k : Nat} {ps : List Str} {sp : Sp} {ta : TE} {t : TA} {o e : Expr} {es : List Expr} {pos apos p : Pos}
/-- o.m, a property -/
def tPropC (C : Addr) (sp : Sp) (ta : TE) : TE := fun σ H Q => ta σ H fun x H1 => ∃ a dx fs, x = .ref a ∧ H1 a = some (.ins C dx fs) ∧ sp [.ref a] H1 Q E0
theorem pe_propC (he : PE X o ta) (cl : Cls X.K C) (c : CalP X.prog X.w X.K X.mg X.base C m k sp) (hr : Room (k + 1) X.A) (hab : attributeBase o m X.env (eval o X.env) = eval o X.env := by rfl) : PE X (.Attribute o m pos) (tPropC C sp ta) := by
  obtain ⟨p, f, fd, pr, F, b⟩ := c
  have h := pe_prop (pos := pos) (E := E0) he cl pr F hr b .nil pass0 hab
  exact h
/-- o.m(..) -/
def tMethC (C : Addr) (m : Str) (sp : Sp) (ta : TE) (t : TA) : TE := fun σ H Q => ta σ H fun x H1 => ∃ a dx fs, x = .ref a ∧ H1 a = some (.ins C dx fs) ∧ fs.lookup m = none ∧ t σ H1 fun vs H2 => sp (x :: vs) H2 Q E0
theorem tMethC_eq : tMeth C m sp [] E0 ta t = tMethC C m sp ta t := by
  funext σ H Q
  show ta σ H _ = ta σ H _
  congr 1
  funext x H1
  simp only [List.append_nil]
theorem pe_methC {pl : Sem Bool} (he : PE X o ta) (cl : Cls X.K C) (c : CalM X.prog X.w X.K X.mg X.base C m k ps sp) (hr : Room k X.A) (ha : PA X (e :: es) t)
    (hst : starEach (e :: es) X.env = (false, eval e X.env) :: starEach es X.env := by rfl) (hpl : (backTo pos (starEach es X.env)).any (·.1) = false := by rfl)
    (ht : eval (.Call (.Attribute o m apos) (e :: es) [] pos) X.env = (do
      let ov ← eval o X.env
      standAt apos.atName
      let (f, first) ← holding [ov] (getMethod ov m pl)
      callWith pos f first (backTo pos (starEach (e :: es) X.env)) (backToKw pos (keywordEach [] X.env))) := by rfl) :
    PE X (.Call (.Attribute o m apos) (e :: es) [] pos) (tMethC C m sp ta t) := by
  obtain ⟨f, fd, F, me, b, fi⟩ := c
  rw [← tMethC_eq]
  exact pe_meth (pl := pl) he cl me F hr b .nil pass0 ha hst hpl ht
/-- C(..) -/
def tMakeC (C : Addr) (sp : Sp) (t : TA) : TE := fun σ H Q => t σ H fun vs H1 => ∀ x dx, H1 x = none → H1 dx = none → dx ≠ x →
  sp (.ref x :: vs) (upd (upd H1 dx (.own x)) x (.ins C dx [])) (fun v H2 => v = .non ∧ Q (.ref x) H2) E0
theorem tMakeC_eq : tMake C sp [] E0 t = tMakeC C sp t := by
  funext σ H Q
  show t σ H _ = t σ H _
  congr 1
  funext vs H1
  simp only [List.append_nil]
theorem pe_makeC (c : CalI X.prog X.w X.K X.mg X.base C k ps sp) (hr : Room (k + 1) X.A) (hg : Gl X x) (hm : X.mg x = some (.ref C)) (ha : PA X (e :: es) t)
    (hdb : (x == ("__debug__" : Str)) = false := by decide) (he : starEach (e :: es) X.env = (false, eval e X.env) :: starEach es X.env := by rfl) (hpl : (backTo pos (starEach es X.env)).any (·.1) = false := by rfl) :
    PE X (.Call (.Name x p) (e :: es) [] pos) (tMakeC C sp t) := by
  obtain ⟨f, fd, M, F, b⟩ := c
  rw [← tMakeC_eq]
  exact pe_make M F hr hg hm b .nil pass0 ha hdb he hpl
end
/-! ### dicts walked under their lock -/
theorem same_lock {H : Hp} {d : Addr} {u : HO} {o : Obj} (e : H d = some u) {b : Addr} {ob : HO} (n : b ≠ d) (h : H b = some ob) : upd H d (.frz o u) b = some ob := by
  rw [upd_ne n]
  exact h
theorem same_unlock {H H' : Hp} {d : Addr} {u : HO} {o : Obj} (e : H d = some u) (s : Same (upd H d (.frz o u)) H') : Same H (upd H' d u) := by
  intro b ob h
  by_cases n : b = d
  · subst n
    rw [upd_same]
    exact e.symm.trans h
  · rw [upd_ne n]
    exact s b ob (by rw [upd_ne n]; exact h)
end Gx

set_option maxRecDepth 100000
set_option maxHeartbeats 4000000
namespace Gx
open PySem PySem.Spec PyProof.Rows L2
/-! ### sets of texts: set(list), sorted(set) -/
/-- a member's text -/
def txE (m : Int × Value) : Str :=
  match m.2 with
  | .str z _ => z
  | _ => Str.empty
def TxE (P : Program) (w : World) (m : Int × Value) : Prop := ∃ z tk, m.2 = Value.str z tk ∧ m.1 = (PySem.strKind P w).hash z
/-- at a stands the set of the texts of L, some of which may be there twice; its table can be walked -/
def SetX (P : Program) (w : World) (h : Heap) (a : Addr) (L : List Str) : Prop :=
  ∃ ob ms ep tb, h.get? a = some ob ∧ ob.ExactSet ∧ ob.data = .set ms ep tb ∧ (∀ m ∈ ms.toList, TxE P w m) ∧ (ms.toList.map txE).Nodup ∧ (∀ z, z ∈ L ↔ z ∈ ms.toList.map txE) ∧
    ms.size < scanBound ∧ tb.fits ms.size = true ∧ ms.size ≤ L.length ∧ Ris tb.place.toList ∧ (w.params.followText "set-order" = true ∨ tb.led = true)
section
variable {P : Program} {w : World} {h h' : Heap} {a : Addr} {L : List Str}
theorem SetX.at (R : SetX P w h a L) (k : ∀ o, h.get? a = some o → h'.get? a = some o) : SetX P w h' a L := by
  obtain ⟨ob, ms, ep, tb, here, more⟩ := R
  exact ⟨ob, ms, ep, tb, k ob here, more⟩
theorem SetX.same {L' : List Str} (R : SetX P w h a L) (e : ∀ z, z ∈ L' ↔ z ∈ L) (hl : L.length ≤ L'.length) : SetX P w h a L' := by
  obtain ⟨ob, ms, ep, tb, here, ex, dt, gd, nd, mem, bd, ft, le, more⟩ := R
  exact ⟨ob, ms, ep, tb, here, ex, dt, gd, nd, fun z => (e z).trans (mem z), bd, ft, Nat.le_trans le hl, more⟩
theorem tx_elems {l : List (Int × Value)} (gd : ∀ m ∈ l, TxE P w m) : ElemsOf (PySem.strKind P w) l := by
  intro m hm
  obtain ⟨z, tk, e1, e2⟩ := gd m hm
  refine ⟨⟨z, ?_, e2⟩, ?_⟩
  · rw [e1]
    exact strKind_is P w z tk
  · rw [e1]
    rfl
theorem tx_is {m : Int × Value} (gd : TxE P w m) (z : Str) : (PySem.strKind P w).is z m.2 = true ↔ txE m = z := by
  obtain ⟨y, tk, e1, _⟩ := gd
  have e3 : txE m = y := by unfold txE; rw [e1]
  rw [e3, e1]
  constructor
  · intro q
    obtain ⟨t, q⟩ := Value.isStrOf_shape (show Value.isStrOf z (.str y tk) = true from q)
    cases q
    rfl
  · rintro rfl
    exact strKind_is P w y tk
theorem tx_mem {l : List (Int × Value)} (gd : ∀ m ∈ l, TxE P w m) (z : Str) : z ∈ l.map txE ↔ ∃ m ∈ l, (PySem.strKind P w).is z m.2 = true := by
  rw [List.mem_map]
  exact ⟨fun ⟨m, hm, q⟩ => ⟨m, hm, (tx_is (gd m hm) z).2 q⟩, fun ⟨m, hm, q⟩ => ⟨m, hm, (tx_is (gd m hm) z).1 q⟩⟩
end
section
variable {P : Program} {w : World} {A : Around} {E : Value → Shared → Prop} {s : Shared} {a : Addr} {L : List Str}
/-! ### one text more -/
theorem setX_tail {g : Bool → Sem Unit} (hg : ∀ (b : Bool) (s₁ : Shared) (Q' : Unit → Shared → Prop), Q' () s₁ → wpAny (model P w) A (g b) Q' E s₁)
    {ob : Obj} {ms : Array (Int × Value)} {ep : Nat} {tb : SetTable} (here : s.heap.get? a = some ob) (ex : ob.ExactSet) (dt : ob.data = .set ms ep tb)
    {ms1 : Array (Int × Value)} {tb2 : SetTable} {L' : List Str} (g1 : ∀ m ∈ ms1.toList, TxE P w m) (nd1 : (ms1.toList.map txE).Nodup) (m1 : ∀ z, z ∈ L' ↔ z ∈ ms1.toList.map txE)
    (bd1 : ms1.size < scanBound) (ft2 : tb2.fits ms1.size = true) (le1 : ms1.size ≤ L'.length) (ri : Ris tb2.place.toList) (ld : w.params.followText "set-order" = true ∨ tb2.led = true) {dummy : Bool} {R : Option Bool → Shared → Prop}
    (hR : ∀ h', Heap.SameBut a s.heap h' → SetX P w h' a L' → R (some true) { s with heap := h' }) :
    wpAny (model P w) A (do
        storeSet a ms1 tb2
        if (!dummy && tb2.tooFull) = true then do
            g (relayAll tb2 ms1 (SetTable.grown ms1.size)).2.2
            storeSet a (relayAll tb2 ms1 (SetTable.grown ms1.size)).1 (relayAll tb2 ms1 (SetTable.grown ms1.size)).2.1
            pure (some true)
          else pure (some true)) R E s := by
  refine wpAny_bind (wpAny_storeSet_of here dt ?_ (fits_of_scanBound bd1))
  have at1 := store_at (es' := ms1) (t' := tb2) here dt
  have but1 := Heap.SameBut.update s.heap a (Obj.putSet ms1 tb2)
  split
  · have perm2 := relayAll_perm tb2 ms1 (SetTable.grown ms1.size)
    have ft3 := relayAll_fits tb2 ms1 (SetTable.grown ms1.size)
    have ri3 := relayAll_ris tb2 ms1 (SetTable.grown ms1.size)
    have ld3 := relayAll_led tb2 ms1 (SetTable.grown ms1.size)
    generalize relayAll tb2 ms1 (SetTable.grown ms1.size) = laid at perm2 ft3 ri3 ld3 ⊢
    obtain ⟨ms2, tb3, gave⟩ := laid
    dsimp only at perm2 ft3 ri3 ld3 ⊢
    have sz2 : ms2.size = ms1.size := by rw [← Array.length_toList, perm2.length_eq, Array.length_toList]
    have bd2 : ms2.size < scanBound := sz2 ▸ bd1
    refine wpAny_bind (hg _ _ _ ?_)
    refine wpAny_bind (wpAny_storeSet_of at1 rfl ?_ (fits_of_scanBound bd2))
    have at2 := store_at (es' := ms2) (t' := tb3) at1 rfl
    refine wpAny_pure (hR _ (but1.trans (Heap.SameBut.update _ a _)) ⟨_, ms2, _, tb3, at2, ex, rfl, fun m hm => g1 m (perm2.mem_iff.mp hm), (perm2.map txE).nodup_iff.mpr nd1, fun z => (m1 z).trans (perm2.map txE).mem_iff.symm, bd2, ?_, by rw [sz2]; exact le1, ri3, ?_⟩)
    · exact ft3
    · exact ld.imp id fun z => by rw [ld3]; exact z
  · exact wpAny_pure (hR _ but1 ⟨_, ms1, _, tb2, at1, ex, rfl, g1, nd1, m1, bd1, ft2, le1, ri, ld⟩)
theorem setX_add {z : Str} {tk : Tok} {Q : Bool → Shared → Prop} (R : SetX P w s.heap a L) (room : L.length + 1 < scanBound)
    (hQ : ∀ h' b, Heap.SameBut a s.heap h' → SetX P w h' a (L ++ [z]) → Q b { s with heap := h' }) :
    wpAny (model P w) A (setAddHashed a (.str z tk) ((PySem.strKind P w).hash z)) Q E s := by
  obtain ⟨ob, ms, ep, tb, here, ex, dt, gd, nd, mem, bd, ft, le, ri, ld⟩ := R
  have isz : (PySem.strKind P w).is z (.str z tk) = true := strKind_is P w z tk
  have scz : (Value.str z tk).scannable = true := rfl
  have els : ElemsOf (PySem.strKind P w) ms.toList := tx_elems gd
  unfold setAddHashed setAddHashedIn
  refine wpAny_holding (wpAny_bind (wpAny_setState_of here dt ft ?_))
  dsimp only
  rw [byScan_of scz bd els]
  simp only [↓reduceIte]
  unfold setAddByScan
  refine wpAny_bind ?_
  refine wpAny_bind (wpAny_rule ?_)
  refine wpAny_bind (wpAny_setScan_of isz here dt ft els ?_)
  cases hfi : List.findIdx? (fun m => (PySem.strKind P w).is z m.2) ms.toList with
  | some j =>
    dsimp only
    obtain ⟨hj, pj, _⟩ := List.findIdx?_eq_some_iff_getElem.mp hfi
    have inL : z ∈ L := (mem z).2 ((tx_mem (P := P) (w := w) gd z).2 ⟨ms.toList[j], List.getElem_mem hj, pj⟩)
    refine wpAny_pure (wpAny_pure ?_)
    refine hQ s.heap _ (Heap.SameBut.refl a s.heap) ⟨ob, ms, ep, tb, here, ex, dt, gd, nd, fun y => ?_, bd, ft, by rw [List.length_append]; omega, ri, ld⟩
    rw [← mem y, List.mem_append, List.mem_singleton]
    exact ⟨fun q => q.elim id fun e => e ▸ inL, .inl⟩
  | none =>
    dsimp only
    have notIn : z ∉ ms.toList.map txE := by
      intro q
      obtain ⟨m, hm, q⟩ := (tx_mem (P := P) (w := w) gd z).1 q
      have c := List.findIdx?_eq_none_iff.mp hfi m hm
      rw [q] at c
      cases c
    have way : ∀ (b : Bool) {s₁ : Shared} {Q' : Unit → Shared → Prop}, Q' () s₁ → wpAny (model P w) A (match b with | true => rule "set.scan.the-table-gave-way" | false => pure ()) Q' E s₁ := by
      intro b s₁ Q' q
      cases b
      · exact wpAny_pure q
      · exact wpAny_rule q
    have perm1 := layNew_perm tb ms ((PySem.strKind P w).hash z) (.str z tk)
    have ft1 := layNew_fits tb ms ((PySem.strKind P w).hash z) (.str z tk)
    have ri1 := layNew_ris tb ms ((PySem.strKind P w).hash z) (.str z tk) ri
    have ld1 := layNew_led tb ms ((PySem.strKind P w).hash z) (.str z tk)
    generalize layNew tb ms ((PySem.strKind P w).hash z) (.str z tk) = laid at perm1 ft1 ri1 ld1 ⊢
    obtain ⟨ms1, tb1, dummy, gave⟩ := laid
    dsimp only at perm1 ft1 ri1 ld1 ⊢
    rw [Array.toList_push] at perm1
    have permC : ms1.toList.Perm (((PySem.strKind P w).hash z, Value.str z tk) :: ms.toList) := perm1.trans (List.perm_append_singleton _ _)
    have permK : (ms1.toList.map txE).Perm (z :: ms.toList.map txE) := permC.map txE
    have g1 : ∀ m ∈ ms1.toList, TxE P w m := by
      intro m hm
      rcases List.mem_cons.mp (permC.mem_iff.mp hm) with q | q
      · rw [q]
        exact ⟨z, tk, rfl, rfl⟩
      · exact gd m q
    have nd1 : (ms1.toList.map txE).Nodup := permK.nodup_iff.mpr (List.nodup_cons.mpr ⟨notIn, nd⟩)
    have m1 : ∀ y, y ∈ L ++ [z] ↔ y ∈ ms1.toList.map txE := by
      intro y
      rw [List.mem_append, List.mem_singleton, mem y, permK.mem_iff, List.mem_cons]
      exact Or.comm
    have sz1 : ms1.size = ms.size + 1 := by rw [← Array.length_toList, permC.length_eq, List.length_cons, Array.length_toList]
    have bd1 : ms1.size < scanBound := by omega
    have le1 : ms1.size ≤ (L ++ [z]).length := by rw [List.length_append, List.length_singleton]; omega
    have led1 : w.params.followText "set-order" = true ∨ tb1.led = true := ld.imp id fun q => by rw [ld1]; exact q
    refine wpAny_bind (way _ ?_)
    split
    · refine wpAny_bind ?_
      rw [hashByValue_scannable 8 scz]
      refine wpAny_pure ?_
      refine setX_tail ?_ here ex dt g1 nd1 m1 bd1 ?_ le1 ?_ ?_ ?_
      · intro b s₁ Q' q
        cases b <;> first | exact wpAny_pure q | exact wpAny_rule q
      · first | (split <;> first | exact ft1 | exact SetTable.fits_plain_off ft1) | exact ft1
      · first | (split <;> exact ri1) | exact ri1
      · first | (split <;> exact led1) | exact led1
      · intro h' sb r
        dsimp only
        exact wpAny_pure (hQ h' _ sb r)
    · refine wpAny_bind (wpAny_pure ?_)
      simp only [↓reduceIte]
      refine setX_tail ?_ here ex dt g1 nd1 m1 bd1 ft1 le1 ri1 led1 ?_
      · intro b s₁ Q' q
        cases b <;> first | exact wpAny_pure q | exact wpAny_rule q
      · intro h' sb r
        dsimp only
        exact wpAny_pure (hQ h' _ sb r)
end
/-- the texts of a list of values, by place -/
theorem texts_at : ∀ {us : List Value} {xs : List Str}, StrsAre us xs → ∀ (i : Nat) (v : Value), us[i]? = some v → ∃ x t, xs[i]? = some x ∧ v = .str x t
  | _, _, .nil, i, v, h => by cases h
  | _, _, .cons n t r, 0, v, h => by
    cases h
    exact ⟨n, t, rfl, rfl⟩
  | _, _, .cons n t r, i + 1, v, h => texts_at r i v h
section
variable {prog : Program} {w : World} {A : Around} {R : Result → Shared → Prop} {I : Addr} {fp wr : List Addr} {G : Array GenState → Array GenState → Prop} {n : Nat} {P : Nat → Value → Prop} {St : Nat → Shared → Prop}
/-- all texts of an iterator put into the set at S -/
theorem setX_loop (W : WalksS prog w A.in1 I fp wr G n P St) (S : Addr) (off : S ∉ fp) (xs : List Str) (len : xs.length = n) (few : n + 1 < scanBound)
    (val : ∀ i v, P i v → ∃ x t, xs[i]? = some x ∧ v = .str x t) : ∀ (k i : Nat) (s : Shared), n - i = k → i ≤ n → St i s → SetX prog w s.heap S (xs.take i) →
      (∀ s', Moved (S :: wr) G s s' → SetX prog w s'.heap S xs → R (.ok (.ret .none)) s') →
      codeAny (model prog w) A (.builtin "set.update.loop" ⟨[.ref S, .ref I], []⟩) R s := by
  have offW : S ∉ wr := fun z => off (W.sub _ z)
  have sub : ∀ b ∈ wr, b ∈ S :: wr := fun b hb => List.mem_cons_of_mem _ hb
  intro k
  induction k with
  | zero =>
    intro i s hk hi st hS hR
    obtain rfl : i = n := by omega
    rw [← len, List.take_length] at hS
    refine codeAny_builtin PyProof.Rows.F.entry_set_update_loop ?_
    rw [Around.under_plainId PyProof.Rows.F.plain_set_update_loop _]
    show wpAny _ A.in1 (pyNext (.ref I) >>= _) _ _ s
    refine wpAny_bind (W.done s _ _ st fun s' mv => ?_)
    show wpAny _ A.in1 (ret Value.none) _ _ s'
    exact wpAny_pure (hR s' (mv.mono sub) (hS.at fun o e => mv.heap S _ offW e))
  | succ k ih =>
    intro i s hk hi st hS hR
    have lt : i < n := by omega
    refine codeAny_builtin PyProof.Rows.F.entry_set_update_loop ?_
    rw [Around.under_plainId PyProof.Rows.F.plain_set_update_loop _]
    show wpAny _ A.in1 (pyNext (.ref I) >>= _) _ _ s
    refine wpAny_bind (W.item i s _ _ lt st fun v s' hP st' mv => ?_)
    obtain ⟨x, t, hx, rfl⟩ := val i v hP
    have hS' : SetX prog w s'.heap S (xs.take i) := hS.at fun o e => mv.heap S _ offW e
    show wpAny _ A.in1 (holding [Value.str x t] (setAdd S (.str x t)) >>= _) _ _ s'
    refine wpAny_bind (wpAny_holding ?_)
    unfold setAdd
    refine wpAny_holding ?_
    refine wpAny_bind ((PySem.strKind prog w).pyHash (k := x) (strKind_is _ _ _ _) ?_)
    refine setX_add (s := { s' with toks := s'.toks + 1 }) hS' (by rw [List.length_take]; omega) fun h' b sb hS2 => ?_
    have hS3 : SetX prog w h' S (xs.take (i + 1)) := by
      have e : xs.take (i + 1) = xs.take i ++ [x] := by rw [List.take_add_one, hx]; rfl
      rw [e]
      exact hS2
    refine wpAny_pure ⟨plainId_quiet PyProof.Rows.F.plain_set_update_loop _, ih (i + 1) _ (by omega) lt (W.frame _ s' _ _ st' (Nat.le_succ _) fun b hb o e => ?_) hS3 fun s'' mv2 hS4 => ?_⟩
    · rw [sb.2 b (fun z : b = S => off (z ▸ hb))]
      exact e
    · refine hR s'' (Moved.trans W.gtrans ((mv.mono sub).then_heap (Nat.le_succ _) fun b o hb e => ?_) mv2) hS4
      rw [sb.2 b (fun z : b = S => hb (by rw [z]; exact List.mem_cons_self))]
      exact e
end
section
variable {P : Program} {w : World} {A : Around} {E : Value → Shared → Prop} {s : Shared}
theorem code_setX {x : Value} {Q₁ : Value → Shared → Prop}
    (h : Q₁ (.ref s.heap.objs.size) { s with heap := s.heap.push { cls := .type "set", dict := none, data := .set #[] 0 (.fresh 0 0 (!w.params.followText "set-order")) } }) :
    codeAny (model P w) A (.call (.builtin "set.__new__") ⟨[.type "set", x], []⟩) (wants Q₁ E) s := by
  refine codeAny_of_tree ?_
  show wpAny _ A.in1 (do checkBuiltinCall "set.__new__" ⟨[.type "set", x], []⟩; again (.builtin "set.__new__" ⟨[.type "set", x], []⟩)) _ _ s
  refine wpAny_bind (wpAny_of_eq (PySem.F.newCall_set_1 x) (wpAny_pure ⟨plainId_quiet F.plain_set_new _, codeAny_builtin F.entry_set_new ?_⟩))
  rw [Around.under_plainId F.plain_set_new _]
  unfold Builtin.«set.__new__» Builtin.Frozenset.newClass
  have hsub := sub_set_self
  obtain ⟨hp, g, d, tk, os⟩ := s
  dsimp only
  wp_walk
  refine wpAny_askSetting (wpAny_pure ?_)
  dsimp only
  simp only [newObj]
  exact wpAny_bind (wpAny_alloc (wpAny_pure (wpAny_pure h)))
theorem setX_fresh {h : Heap} : SetX P w (h.push { cls := .type "set", dict := none, data := .set #[] 0 (.fresh 0 0 (!w.params.followText "set-order")) }) h.objs.size [] := by
  refine ⟨_, #[], 0, _, Heap.get?_push_size _ rfl, ⟨rfl, rfl, rfl⟩, rfl, (fun m hm => by simp at hm), (by simp), (fun z => by simp), (by decide), (by rfl), (Nat.zero_le _), List.Pairwise.nil, ?_⟩
  show _ ∨ (!w.params.followText "set-order") = true
  cases w.params.followText "set-order"
  · exact .inr rfl
  · exact .inl rfl
set_option maxHeartbeats 6400000 in
/-- set(list of texts) -/
theorem call_setX {l : Addr} {items : Array Value} {xs : List Str} {Q : Value → Shared → Prop} (hh : A.handled = none) (hl : s.heap.IsList l items) (hi : StrsAre items.toList xs) (few : xs.length + 1 < scanBound)
    (h : ∀ (h' : Heap) (tk : Nat), SetX P w h' s.heap.objs.size xs → (∀ b o, b < s.heap.objs.size → s.heap.get? b = some o → h'.get? b = some o) → Q (.ref s.heap.objs.size) { s with heap := h', toks := tk }) :
    wpAny (model P w) A (call (.type "set") [.ref l]) Q E s := by
  obtain ⟨c, tl, hmro⟩ := PySem.F.called_set.mro
  have hmade := PySem.F.called_set.made
  have hsub := PySem.F.called_set.sub
  refine wpAny_call (codeAny_of_tree ?_)
  show wpAny _ _ (callAny (.type "set") _) _ _ _
  refine wpAny_pure ⟨Code.quiet_builtin _ (by decide +kernel), codeAny_builtin PySem.F.entry_type_call ?_⟩
  rw [Around.under_plain (weight_type_call_type "set" [.ref l] []) rfl]
  have h1 := PySem.F.called_set.notType
  have h2 := PySem.F.called_set.canCreate
  have hct := PySem.F.typeCall_set_1 (.ref l)
  repeat (any_goals (first | assumption | wp_step))
  have R0 : SetX P w (s.heap.push { cls := .type "set", dict := none, data := .set #[] 0 (.fresh 0 0 (!w.params.followText "set-order")) }) s.heap.objs.size [] := setX_fresh
  refine codeAny_mono (code_setX (x := .ref l) (E := E) (Q₁ := fun obj s₁ => obj = .ref s.heap.objs.size ∧ s₁ = { s with heap := s.heap.push { cls := .type "set", dict := none, data := .set #[] 0 (.fresh 0 0 (!w.params.followText "set-order")) } }) ⟨rfl, rfl⟩) fun r s₁ hr => ?_
  have hS : (s.heap.push { cls := .type "set", dict := none, data := .set #[] 0 (.fresh 0 0 (!w.params.followText "set-order")) }).get? s.heap.objs.size = some { cls := .type "set", dict := none, data := .set #[] 0 (.fresh 0 0 (!w.params.followText "set-order")) } := Heap.get?_push_size _ rfl
  cases r with
  | error e => exact hr
  | ok fl =>
    cases fl with
    | ret obj =>
      obtain ⟨rfl, rfl⟩ := hr
      have hT : Shared.TypeIs { s with heap := s.heap.push ({ cls := .type "set", dict := none, data := .set #[] 0 (.fresh 0 0 (!w.params.followText "set-order")) } : Obj) } (.ref s.heap.objs.size) "set" := ⟨_, hS, rfl⟩
      have hli := PySem.F.called_set.init.lookup
      have hbi := PySem.F.called_set.init.bind (.ref s.heap.objs.size)
      repeat (any_goals (first | assumption | wp_step))
      refine codeAny_mono (codeAny_call_builtin (R := wants (fun r s₂ => r = .none ∧ ∃ h' tk, s₂ = { s with heap := h', toks := tk } ∧ SetX P w h' s.heap.objs.size xs ∧
          (∀ b o, b < s.heap.objs.size → s.heap.get? b = some o → h'.get? b = some o)) E) PySem.F.called_set.init.plain PySem.F.entry_set_init (check_set_init_1 hT ?_)) fun r₂ s₂ hr₂ => ?_
      · obtain ⟨ol, hol, hcl, nl, hdl⟩ := hl
        obtain ⟨ocls, odict, odata, oslots⟩ := ol
        simp only at hcl hdl
        subst hcl; subst hdl
        have hol' : (s.heap.push ({ cls := .type "set", dict := none, data := .set #[] 0 (.fresh 0 0 (!w.params.followText "set-order")) } : Obj)).get? l = some { cls := .type "list", dict := odict, data := .seq items nl, slots := oslots } := Heap.get?_push_of_some _ hol
        have hsls := PySem.F.sub_list_set
        have hslf := PySem.F.sub_list_frozenset
        have hne : (Value.type "list" == Value.type "dict") = false := by decide
        have hl1 : (s.heap.push ({ cls := .type "set", dict := none, data := .set #[] 0 (.fresh 0 0 (!w.params.followText "set-order")) } : Obj)).IsList l items := ⟨_, hol', rfl, nl, rfl⟩
        unfold Builtin.«set.__init__» noKeywords Builtin.Frozenset.updateFrom
        generalize hPI : pyIter = PI
        wp_walk
        subst hPI
        refine wpAny_pyIter_list hl1 ?_
        refine wpAny_bind (wpAny_runValue ?_)
        have hlS : l < s.heap.objs.size := Heap.lt_size hol
        have hh3 : A.in1.in1.in1.handled = none := by simp [hh]
        have szp : (s.heap.push ({ cls := .type "set", dict := none, data := .set #[] 0 (.fresh 0 0 (!w.params.followText "set-order")) } : Obj)).objs.size = s.heap.objs.size + 1 := Heap.size_push _ _
        have hneI : l ≠ (s.heap.push ({ cls := .type "set", dict := none, data := .set #[] 0 (.fresh 0 0 (!w.params.followText "set-order")) } : Obj)).objs.size := by rw [szp]; exact Nat.ne_of_lt (Nat.lt_succ_of_lt hlS)
        have hSf : s.heap.objs.size ∉ [(s.heap.push ({ cls := .type "set", dict := none, data := .set #[] 0 (.fresh 0 0 (!w.params.followText "set-order")) } : Obj)).objs.size, l] := by
          rw [szp]
          simp only [List.mem_cons, List.not_mem_nil, or_false, not_or]
          exact ⟨Nat.ne_of_lt (Nat.lt_succ_self _), Nat.ne_of_gt hlS⟩
        have hsz : xs.length = items.size := by rw [← StrsAre.len_eq hi, Array.length_toList]
        refine setX_loop ((Walks.list hh3 _ l hneI items).toS) s.heap.objs.size hSf xs hsz (by rw [← hsz]; exact few) (fun i v hv => texts_at hi i v (by rw [Array.getElem?_toList]; exact hv))
          (items.size - 0) 0 _ (by omega) (Nat.zero_le _) ⟨⟨_, Heap.get?_push_size _ rfl, rfl, rfl⟩, (hl1.push _)⟩ ?hS0 ?hR
        case hS0 => exact R0.at fun o e => Heap.get?_push_of_some _ e
        case hR =>
          intro s' hm hS'
          obtain ⟨h', g', d', tk', os'⟩ := s'
          obtain rfl : g' = s.gens := hm.gens
          obtain rfl : d' = s.drawn := hm.drawn
          obtain rfl : os' = s.os := hm.os
          show wpAny _ _ _ _ _ _
          refine wpAny_pure ?_
          show wpAny _ _ (ret Value.none) _ _ _
          refine wpAny_pure ⟨rfl, h', tk', rfl, hS', fun b o hb e => hm.heap b o ?_ (Heap.get?_push_of_some _ (Heap.get?_push_of_some _ e))⟩
          rw [szp]
          simp only [List.mem_cons, List.not_mem_nil, or_false, not_or]
          exact ⟨Nat.ne_of_lt hb, Nat.ne_of_lt (Nat.lt_succ_of_lt hb)⟩
      · cases r₂ with
        | error e => exact hr₂
        | ok fl₂ =>
          cases fl₂ with
          | ret r =>
            obtain ⟨rfl, h', tk, rfl, hS', hk'⟩ := hr₂
            repeat (any_goals (first | assumption | wp_step))
            exact h _ _ hS' hk'
          | _ => exact hr₂.elim
    | _ => exact hr.elim
theorem strs_of : ∀ (l : List Value), (∀ v ∈ l, ∃ z tk, v = Value.str z tk) → ∃ xs, StrsAre l xs ∧ xs = l.map fun v => txE (0, v)
  | [], _ => ⟨[], .nil, rfl⟩
  | v :: l, h => by
    obtain ⟨z, tk, rfl⟩ := h v List.mem_cons_self
    obtain ⟨xs, h1, rfl⟩ := strs_of l fun u hu => h u (List.mem_cons_of_mem _ hu)
    exact ⟨_, .cons z tk h1, rfl⟩
/-- sorted(set of texts) -/
theorem sorted_setX {a : Addr} {L : List Str} {Q : Value → Shared → Prop} (R : SetX P w s.heap a L) (hh : A.handled = none)
    (hQ : ∀ s' p (out : Array Value) (c : Nat) (ys : List Str), (∀ b o, s.heap.get? b = some o → s'.heap.get? b = some o) → s'.gens = s.gens → s'.os = s.os → s.heap.objs.size ≤ p →
      s'.heap.get? p = some (seqObj "list" out c) → StrsAre out.toList ys → sortedS ys = true → ys.Nodup → (∀ z, z ∈ ys ↔ z ∈ L) → Q (.ref p) s') :
    wpAny (model P w) A (call (.builtin "sorted") [.ref a]) Q E s := by
  obtain ⟨ob, ms, ep, tb, here, ex, dt, gd, nd, mem, bd, ft, le, ri, ld⟩ := R
  refine Calls.call_function_entry kind_sorted plain_sorted entry_sorted (args_sorted1 _) ?_
  unfold Builtin.«sorted»
  refine wpAny_bind (m := checkCount "sorted" 1 1 _) (wpAny_pure ?_)
  refine wpAny_bind (collect_set (A := A.in1) hh ⟨ob, here, ex.1, dt⟩ ft bd ri ld fun s1 vs k1 hz g1 o1 pm => ?_)
  have lenV : vs.length = ms.size := by rw [pm.length_eq, List.length_map, Array.length_toList]
  obtain ⟨xs, hS, exs⟩ := strs_of vs fun v hv => by
    obtain ⟨m, hm, q⟩ := List.mem_map.mp (pm.mem_iff.mp hv)
    obtain ⟨z, tk, e1, _⟩ := gd m hm
    exact ⟨z, tk, by rw [← q]; exact e1⟩
  have permX : xs.Perm (ms.toList.map txE) := by
    have q := pm.map fun v => txE (0, v)
    rw [List.map_map] at q
    rw [exs]
    exact q
  have lineV : vs.length ≤ sizeLine := by rw [lenV]; exact fits_of_scanBound bd
  refine wpAny_bind (wpAny_newList ?_ lineV)
  have hoL : (s1.heap.push (seqObj "list" vs.toArray 0)).get? s1.heap.objs.size = some (seqObj "list" vs.toArray 0) := Heap.get?_push_size _ rfl
  refine wpAny_bind (wpAny_holding (wpAny_call_entry slot_list_sort ⟨_, hoL, rfl⟩ entry_list_sort
    (list_sort_treeKAny strKind_oneLt (s := { s1 with heap := s1.heap.push (seqObj "list" vs.toArray 0) }) hoL hS.keysOf (fun v₁ v₂ rest e => keyKind_strs (by rw [← e]; exact hS)) lineV fun st' hp hs => ⟨_, rfl, ?_⟩) (args_list_sort _)))
  obtain ⟨ys, y1, y2, y3⟩ := sorted_out_str hS hp hs
  obtain ⟨c, hc⟩ := sortedHeap_at (vs := vs) (out := (arrOf st').map (·.2)) hoL
  have permY : ys.Perm (ms.toList.map txE) := y2.trans permX
  refine wpAny_pure ⟨_, rfl, hQ _ s1.heap.objs.size ((arrOf st').map (·.2)) c ys (fun b u e => ?_) g1 o1 hz hc y1 y3 (permY.nodup_iff.mpr nd) fun z => by rw [permY.mem_iff, ← mem z]⟩
  have q := k1 b u e
  have lt := Heap.lt_size q
  show (sortedHeap (s1.heap.push (seqObj "list" vs.toArray 0)) s1.heap.objs.size vs ((arrOf st').map (·.2))).get? b = some u
  rw [sortedHeap_old (Nat.ne_of_lt lt) (by rw [size_push']; exact Nat.lt_succ_of_lt lt)]
  exact Heap.get?_push_of_some _ q
end
/-! ### over the hand layer -/
/-- the set of the texts of L at a -/
def SetO' (P : Program) (w : World) (a : Addr) (L : List Str) : HO := .ext fun h => SetX P w h a L
section
variable {X : Cx}
def rSetX (K : PySem.W.Frag) (P : Program) (w : World) : List V → Hp → VK → Prop := fun vs H Q => ∃ (l : Addr) (xs : List Str), vs = [V.ref l] ∧ SqL K H l (xs.map V.str) ∧ xs.length ≤ 1000 ∧ ∀ p, H p = none → Q (.ref p) (upd H p (SetO' P w p xs))
theorem cr_setX (hc : X.calm = true) : CallR X (.type "set") (rSetX X.K X.prog X.w) := by
  intro pins s σ H vs us Q I r h
  obtain ⟨l, xs, rfl, hq, few, q⟩ := h
  rw [Vals.ref1 r]
  obtain ⟨its, rv, pl, hz⟩ := I.list hq
  refine call_setX (I.ok.hd hc) pl.isList (by simpa using rv.strs) (Nat.lt_of_le_of_lt (Nat.succ_le_succ few) (by decide)) fun h' tk hS hk => ?_
  have kp : ∀ b o, s.heap.get? b = some o → h'.get? b = some o := fun b o e => hk b o (Heap.lt_size e) e
  obtain ⟨ob, ms, ep, tb, here, more⟩ := id hS
  exact ⟨.ref s.heap.objs.size, _, I.laid (t' := tk) kp (Nat.le_refl _) (show ObjOk X.prog X.w _ h' _ (SetO' X.prog X.w s.heap.objs.size xs) from ⟨hS, ⟨ob, here⟩, fun h1 h2 p k => SetX.at p k⟩), rfl, q _ (I.hok.fresh (Nat.le_refl _))⟩
def rSortedX (P : Program) (w : World) : List V → Hp → VK → Prop := fun vs H Q => ∃ (a : Addr) (L : List Str), vs = [V.ref a] ∧ H a = some (SetO' P w a L) ∧ L.length ≤ 1000 ∧
  ∀ (ys : List Str) (p : Addr), sortedS ys = true → ys.Nodup → (∀ z, z ∈ ys ↔ z ∈ L) → H p = none → Q (.ref p) (upd H p (.lst (ys.map V.str)))
theorem vals_texts : ∀ {us : List Value} {xs : List Str}, StrsAre us xs → Vals (xs.map V.str) us
  | _, _, .nil => .nil
  | _, _, .cons n t r => .cons ⟨t, rfl⟩ (vals_texts r)
theorem cr_sortedX (hc : X.calm = true) : CallR X (.builtin "sorted") (rSortedX X.prog X.w) := by
  intro pins s σ H vs us Q I r h
  obtain ⟨a, L, rfl, ha, few, q⟩ := h
  rw [Vals.ref1 r]
  have hX : SetX X.prog X.w s.heap a L := (I.hok a _ ha).1
  refine sorted_setX hX (I.ok.hd hc) fun s' p out c ys k g o hp hg hi hs nd hm => ?_
  have lt : ys.length ≤ L.length := List.Nodup.length_le_of_subset nd fun z hz => (hm z).1 hz
  have hlen : (ys.map V.str).length ≤ sizeLine := by rw [List.length_map]; exact Nat.le_trans (Nat.le_trans lt few) (by decide)
  have hn : H p = none := I.hok.fresh hp
  have J : Inv X pins σ (upd H p (.lst (ys.map V.str))) { s with heap := s'.heap, gens := s'.gens, drawn := s'.drawn, toks := s'.toks } :=
    I.call (ch := []) (Un.laid k hp hn) (I.hok.laid k hp ⟨hlen, out.toList, c, vals_texts hi, hg⟩) (by rw [g]; exact I.bare) (fun _ z => nomatch z)
  obtain ⟨h', g', d', t', o'⟩ := s'
  obtain rfl : o' = s.os := o
  exact ⟨.ref p, _, J, rfl, q ys p hs nd hm hn⟩
end
end Gx

set_option maxRecDepth 100000
set_option maxHeartbeats 4000000
namespace Gx
open PySem PySem.Spec PyProof.Rows L2
/-! ### rules of my own, over any program -/
section
variable {X : Cx}
/-- repr of a truth -/
theorem call_repr_bl : CallR X (.builtin "repr") (fun xs H Q => ∃ b : Bool, xs = [.bl b] ∧ Q (.str (if b then "True" else "False")) H) := by
  intro pins s σ H xs us Q I r h
  obtain ⟨b, rfl, q⟩ := h
  obtain ⟨u, rfl, rx⟩ := vals1 r
  cases (show u = Value.bool b from rx)
  exact PySem.P.repr_of_bool ⟨.str _, H, I.tok _, ⟨_, rfl⟩, q⟩
/-- the signs of a text, a text each -/
def signV (x : Str) : List V := x.cps.toList.map fun c => V.str ⟨#[c]⟩
theorem vals_signs {x : Str} {acc : Array Value} (h : ItemsOf (SignAt x) acc x.cps.size) : Vals (signV x) acc.toList := by
  have key : ∀ (l : List Nat) (vs : List Value), vs.length = l.length → (∀ (j : Nat) (v : Value), vs[j]? = some v → ∃ (c : Nat) (u : Tok), l[j]? = some c ∧ v = Value.str ⟨#[c]⟩ u) → Vals (l.map fun c => V.str ⟨#[c]⟩) vs := by
    intro l
    induction l with
    | nil =>
      intro vs hl _
      cases vs with
      | nil => exact .nil
      | cons a r => cases hl
    | cons c l ih =>
      intro vs hl hv
      cases vs with
      | nil => cases hl
      | cons v vs =>
        obtain ⟨c', u, e1, e2⟩ := hv 0 v rfl
        have e1' : c = c' := Option.some.inj e1
        subst e1'
        exact .cons ⟨u, e2⟩ (ih vs (Nat.succ.inj hl) fun j w hw => hv (j + 1) w hw)
  refine key x.cps.toList acc.toList (by rw [Array.length_toList, Array.length_toList]; exact h.1) fun j v hv => ?_
  obtain ⟨c, u, hc, e⟩ := h.2 j v (by simpa using hv)
  exact ⟨c, u, by simpa using hc, e⟩
/-- list(text) -/
theorem call_list_text (hc : X.calm = true) : CallR X (.type "list") (fun xs H Q => ∃ x : Str, xs = [.str x] ∧ x.length ≤ sizeLine ∧ ∀ l, H l = none → Q (.ref l) (upd H l (.lst (signV x)))) := by
  intro pins s σ H xs us Q I r h
  obtain ⟨x, rfl, hz, q⟩ := h
  obtain ⟨u, rfl, t, rfl⟩ := vals1 r
  refine PySem.call_list_str (I.ok.hd hc) x t (fun h' tk acc' c' kp e ha => ?_) hz
  have hv := vals_signs ha
  refine ⟨.ref s.heap.objs.size, _, I.laid (t' := tk) kp (Nat.le_refl _) (show ObjOk X.prog X.w _ h' _ (.lst (signV x)) from ⟨?_, acc'.toList, c', hv, by simpa using e⟩), rfl, q _ (I.hok.fresh (Nat.le_refl _))⟩
  rw [hv.length, Array.length_toList]
  have := ha.1
  rw [this]
  exact hz
/-- tuple(text) -/
theorem call_tuple_text (hc : X.calm = true) : CallR X (.type "tuple") (fun xs H Q => ∃ x : Str, xs = [.str x] ∧ x.length ≤ sizeLine ∧ ∀ l, H l = none → Q (.ref l) (upd H l (.tup (signV x)))) := by
  intro pins s σ H xs us Q I r h
  obtain ⟨x, rfl, hz, q⟩ := h
  obtain ⟨u, rfl, t, rfl⟩ := vals1 r
  refine PySem.call_tuple_str (I.ok.hd hc) x t (fun h' tk acc kp ha => ?_) hz
  have hv := vals_signs ha
  have I1 : Inv X pins σ H { s with heap := h', toks := tk } := I.kept (t' := tk) kp
  have hlen : (signV x).length ≤ sizeLine := by
    rw [hv.length, Array.length_toList]
    have := ha.1
    rw [this]
    exact hz
  have I2 : Inv X pins σ (upd H h'.objs.size (.tup (signV x))) { s with heap := h'.push { cls := .type "tuple", data := .seq acc }, toks := tk } :=
    I1.laid (t' := tk) (fun b o e => Heap.get?_push_of_some _ e) (Nat.le_refl _) (show ObjOk X.prog X.w _ _ _ (.tup (signV x)) from ⟨hlen, acc.toList, hv, by simpa using IsTup.new _ _⟩)
  exact ⟨.ref h'.objs.size, _, I2, rfl, q _ (I1.hok.fresh (Nat.le_refl _))⟩
/-- text * k -/
theorem op_mul_text : OpR X (binaryOp .Mult) (fun x y H Q => ∃ (a : Str) (n : Int), x = .str a ∧ y = .int n ∧ MulOk a n ∧ Q (.str (Txt.mul a n)) H) := by
  intro pins s σ H x y v u Q I rx ry h
  obtain ⟨a, n, rfl, rfl, hz, q⟩ := h
  obtain ⟨t, rfl⟩ := rx
  obtain ⟨t', rfl⟩ := ry
  exact SB.mul hz fun t' k => ⟨.str _, H, I.tok _, ⟨_, rfl⟩, q⟩
end
theorem mulOk_small {a : Str} {n : Int} (h1 : 2 ≤ n) (h2 : n ≤ 1000) (ha : a.length ≤ 1000) : MulOk a n := by
  refine ⟨?_, fun _ _ => ?_, fun _ _ => ?_⟩
  · rw [Bool.or_eq_false_iff]
    exact ⟨decide_eq_false (by omega), decide_eq_false (by omega)⟩
  · have : (1000 : Int) ≤ (2 ^ 63 - 1) / n := by
      refine (Int.le_ediv_iff_mul_le (by omega)).mpr ?_
      have : (1000 : Int) * n ≤ 1000 * 1000 := Int.mul_le_mul_of_nonneg_left h2 (by decide)
      omega
    omega
  · unfold Builtin.Str.tooLong
    refine decide_eq_false ?_
    have h3 : a.length * n.toNat ≤ 1000 * 1000 := Nat.mul_le_mul ha (by omega)
    rw [sizeLine_eq]
    omega

/-! ### defs of the top, and what they promise -/
/-- the def st stands at the top under its name -/
def Def (K : PySem.W.Frag) (mg : Str → Option Value) (x qual : Str) (st : Stmt) (ps : List Str) : Prop :=
  ∃ (f : Addr) (fd : FuncData), Fun K x qual st f fd ∧ Binds K fd ps [] ∧ mg x = some (.ref f)
/-- the name x is a def that keeps the promise sp, by at most level k -/
def Cal (P : Program) (w : World) (K : PySem.W.Frag) (mg : Str → Option Value) (base : Heap) (k : Nat) (x : Str) (ps : List Str) (sp : Sp) : Prop :=
  ∃ (f : Addr) (fd : FuncData), FnOk P w K mg base CX0 k f fd ps sp ∧ PySem.W.keepIn K (.ref f) = true ∧ Binds K fd ps [] ∧ mg x = some (.ref f)
section
variable {P : Program} {w : World} {K : PySem.W.Frag} {mg : Str → Option Value} {base : Heap}
theorem Cal.mono {j k : Nat} {x : Str} {ps : List Str} {sp : Sp} (c : Cal P w K mg base j x ps sp) (h : j ≤ k) : Cal P w K mg base k x ps sp := by
  obtain ⟨f, fd, F, kp, b, g⟩ := c
  exact ⟨f, fd, F.mono h, kp, b, g⟩
theorem Cal.imp {k : Nat} {x : Str} {ps : List Str} {sp sp' : Sp} (c : Cal P w K mg base k x ps sp) (h : ∀ vs H Q E, sp' vs H Q E → sp vs H Q E) : Cal P w K mg base k x ps sp' := by
  obtain ⟨f, fd, F, kp, b, g⟩ := c
  exact ⟨f, fd, F.imp h, kp, b, g⟩
theorem Def.cal {x qual : Str} {st : Stmt} {ps : List Str} (d : Def K mg x qual st ps) {k : Nat} {sp : Sp} (h : ∀ f fd, Fun K x qual st f fd → FnOk P w K mg base CX0 k f fd ps sp) : Cal P w K mg base k x ps sp := by
  obtain ⟨f, fd, F, b, g⟩ := d
  exact ⟨f, fd, h f fd F, F.kp, b, g⟩
end
section
variable {X : Cx}
/-- f(..), without the empty list of defaults -/
def tCl (sp : Sp) (t : TA) : TE := fun σ H Q => t σ H fun vs H1 => sp vs H1 Q E0
theorem tCl_eq (sp : Sp) (t : TA) : tCall sp [] E0 t = tCl sp t := by
  funext σ H Q
  show t σ H _ = t σ H _
  congr 1
  funext vs H1
  rw [List.append_nil]
theorem pe_cal {x : Str} {ps : List Str} {sp : Sp} {k : Nat} {e : Expr} {es : List Expr} {t : TA} {p pos : Pos} (c : Cal X.prog X.w X.K X.mg X.base k x ps sp) (hr : Room k X.A) (hg : Gl X x) (h : PA X (e :: es) t)
    (hdb : (x == ("__debug__" : Str)) = false := by decide) (he : starEach (e :: es) X.env = (false, eval e X.env) :: starEach es X.env := by rfl) (hpl : (backTo pos (starEach es X.env)).any (·.1) = false := by rfl) :
    PE X (.Call (.Name x p) (e :: es) [] pos) (tCl sp t) := by
  obtain ⟨f, fd, F, kp, b, g⟩ := c
  rw [← tCl_eq]
  exact pe_call F hr hg g kp b .nil pass0 h hdb he hpl
theorem pe_cal0 {x : Str} {ps : List Str} {sp : Sp} {k : Nat} {p pos : Pos} (c : Cal X.prog X.w X.K X.mg X.base k x ps sp) (hr : Room k X.A) (hg : Gl X x)
    (hdb : (x == ("__debug__" : Str)) = false := by decide) : PE X (.Call (.Name x p) [] [] pos) (tCl sp tNil) := by
  obtain ⟨f, fd, F, kp, b, g⟩ := c
  rw [← tCl_eq]
  exact pe_call0 F hr hg g kp b .nil pass0 hdb
end
/-- a statement, then the rest, with a word between them: what follows is shown once -/
def tCut (t u : TS) : TS := fun D σ H => ∃ Mid : L2.St → Hp → Prop, t { D with nx := Mid } σ H ∧ ∀ σ' H', Mid σ' H' → u D σ' H'
section
variable {X : Cx}
theorem pss_cut {st : Stmt} {rest : List Stmt} {t u : TS} (h1 : PS X st t) (h2 : PSs X rest u) : PSs X (st :: rest) (tCut t u) := by
  refine ⟨fun pins s σ H D I h => ?_⟩
  obtain ⟨Mid, hm, hu⟩ := h
  refine wpAny_execs_cons (thn (h1.run pins s σ H { D with nx := Mid } I hm) fun f s1 q => ?_)
  cases f with
  | next =>
    obtain ⟨σ', H', I', q⟩ := q
    exact h2.run pins s1 σ' H' D I' (hu σ' H' q)
  | ret v => exact q
  | brk => exact q
  | cont => exact q
end
theorem sqL_ne {K : PySem.W.Frag} {H : Hp} {a d : Addr} {o : HO} {xs : List V} (n : a ≠ d) (h : SqL K H a xs) : SqL K (upd H d o) a xs := by
  rcases h with (h | ⟨u, h⟩) | h
  · exact .inl (.inl (by rw [upd_ne n]; exact h))
  · exact .inl (.inr ⟨u, by rw [upd_ne n]; exact h⟩)
  · exact .inr h
theorem sqT_ne {K : PySem.W.Frag} {H : Hp} {a d : Addr} {o : HO} {xs : List V} (n : a ≠ d) (h : SqT K H a xs) : SqT K (upd H d o) a xs := by
  rcases h with (h | ⟨u, h⟩) | h
  · exact .inl (.inl (by rw [upd_ne n]; exact h))
  · exact .inl (.inr ⟨u, by rw [upd_ne n]; exact h⟩)
  · exact .inr h
theorem atI_int {α : Type} {xs : List α} {r : Int} (h0 : 0 ≤ r) (h1 : r < xs.length) : ∃ v, v ∈ xs ∧ atI xs r = some v := by
  obtain ⟨k, rfl⟩ := Int.eq_ofNat_of_zero_le h0
  have hk : k < xs.length := by omega
  exact ⟨xs[k], List.getElem_mem hk, atI_nat (List.getElem?_eq_getElem hk)⟩
theorem signV_len (z : Str) : (signV z).length = z.length := by
  unfold signV
  rw [List.length_map, Array.length_toList]
  rfl
/-- for c in text -/
theorem for_str {x : Str} {g : TG} {tb : TS} {D : Ends} {σ : L2.St} {H : Hp} (Pv : Nat → L2.St → Hp → Prop) (h0 : Pv 0 σ H)
    (hs : ∀ (i c : Nat) (σ : L2.St) (H : Hp), x.cps.toList[i]? = some c → Pv i σ H → g (.str ⟨#[c]⟩) σ H fun σ2 H2 => tb { D with nx := Pv (i + 1), ct := Pv (i + 1), bk := D.nx } σ2 H2) (hd : ∀ σ H, Pv x.cps.size σ H → D.nx σ H) :
    ∃ W : Nat → Nat → L2.St → Hp → Prop, (∃ m, W 0 m σ H) ∧ ∀ i m σ H, W i m σ H →
      ((Its x).stop i H ∧ D.nx σ H) ∨ ((Its x).go i H ∧ ∃ N : L2.St → Hp → Prop, (∀ σ' H', N σ' H' → ∃ m', m' < m ∧ W (i + 1) m' σ' H') ∧ ∀ v H', (Its x).yld i H v H' → g v σ H' fun σ2 H2 => tb { D with nx := N, ct := N, bk := D.nx } σ2 H2) := by
  refine ⟨fun i m σ H => m = x.cps.size - i ∧ i ≤ x.cps.size ∧ Pv i σ H, ⟨x.cps.size, by simp, Nat.zero_le _, h0⟩, ?_⟩
  rintro i m σ H ⟨rfl, hi, p⟩
  by_cases hlt : i < x.cps.size
  · refine .inr ⟨hlt, Pv (i + 1), fun σ' H' p' => ⟨x.cps.size - (i + 1), by omega, rfl, hlt, p'⟩, fun v H' y => ?_⟩
    obtain ⟨e, c, hc, ev⟩ := y
    subst e ev
    exact hs i c σ _ (by simpa using hc) p
  · have e : i = x.cps.size := by omega
    subst e
    exact .inl ⟨Nat.le_refl _, hd σ H p⟩
theorem decI (a b : Int) : decide (V.int a = V.int b) = decide (a = b) := decide_eq_decide.mpr ⟨V.int.inj, fun e => e ▸ rfl⟩
theorem decS (a b : Str) : decide (V.str a = V.str b) = decide (a = b) := decide_eq_decide.mpr ⟨V.str.inj, fun e => e ▸ rfl⟩
theorem app_len (a b : Str) : (a ++ b).length = a.length + b.length := by
  show (a.cps ++ b.cps).size = _
  rw [Array.size_append]
  rfl
/-- texts of one sign each, joined by nothing -/
theorem join_one {e : Str} (he : e.length = 0) : ∀ zs : List Str, (∀ z ∈ zs, z.length = 1) → (Txt.join e zs).length = zs.length := by
  have key : ∀ zs : List Str, (∀ z ∈ zs, z.length = 1) → (Str.join e zs).length = zs.length := by
    intro zs
    induction zs with
    | nil => intro _; rfl
    | cons x r ih =>
      intro h
      cases r with
      | nil => exact h x (List.mem_cons_self ..)
      | cons y r =>
        show (x ++ e ++ Str.join e (y :: r)).length = _
        rw [app_len, app_len, he, ih fun z hz => h z (List.mem_cons_of_mem _ hz), h x (List.mem_cons_self ..), List.length_cons (a := x)]
        omega
  intro zs h
  rw [TL.join_eq]
  exact key zs h
theorem sum_ones : ∀ zs : List Str, (∀ z ∈ zs, z.length = 1) → (zs.map (·.length)).sum = zs.length
  | [], _ => rfl
  | x :: r, h => by
    rw [List.map_cons, List.sum_cons, sum_ones r fun z hz => h z (List.mem_cons_of_mem _ hz), h x (List.mem_cons_self ..), List.length_cons]
    omega
theorem mul_len {a : Str} {n : Int} (h1 : 2 ≤ n) (ha : 1 ≤ a.length) : (Txt.mul a n).length = a.length * n.toNat := by
  unfold Txt.mul
  rw [if_neg (by omega)]
  have e1 : (n == 1) = false := by rw [beq_eq_false_iff_ne]; omega
  have e2 : (a.length == 0) = false := by rw [beq_eq_false_iff_ne]; omega
  rw [e1, e2, if_neg (by decide)]
  have key : ∀ (k : Nat) (acc : Array Nat), ((List.replicate k a.cps).foldl (· ++ ·) acc).size = acc.size + k * a.cps.size := by
    intro k
    induction k with
    | zero => intro acc; show acc.size = _; omega
    | succ k ih =>
      intro acc
      rw [List.replicate_succ, List.foldl_cons, ih, Array.size_append, Nat.succ_mul]
      omega
  show ((List.replicate n.toNat a.cps).foldl (· ++ ·) #[]).size = a.cps.size * n.toNat
  rw [key, Nat.mul_comm]
  show 0 + _ = _
  omega
theorem same_at {H H' : Hp} {p : Addr} {o : HO} (n : H p = none) (s : Same H H') : Same H (upd H' p o) := fun b u e => by
  rw [upd_ne (ne_of_none e n)]
  exact s b u e
/-- the three numbers of some dice -/
def DiceAt (H : Hp) (d : Addr) : Prop := ∃ x b c : Int, H d = some (.lst [.int x, .int b, .int c])
end Gx

set_option maxRecDepth 100000
set_option maxHeartbeats 4000000
namespace Gx
open PySem PySem.Spec PyProof.Rows L2
/-! ### promises that hold where no repr is under way -/
/-- no repr is under way -/
abbrev Gd (A : Around) : Prop := A.guards = some []
structure FnG (P : Program) (w : World) (K : PySem.W.Frag) (mg : Str → Option Value) (base : Heap) (CX : CXT) (k : Nat) (f : Addr) (fd : FuncData) (ps : List Str) (sp : Sp) : Prop where
  len : ∀ vs H Q E, sp vs H Q E → vs.length = ps.length
  run : ∀ (A : Around) (outer : List Env) (s : Shared) (H : Hp) (args : Args) (us : List Value) (vs : List V) (Q : VK) (E : XK),
    Gd A → Room k A → Env0 P w K mg base A outer s H → BindsTo s fd args (ps.zip us) → Vals vs us → sp vs H Q E →
      codeAny (model P w) A (.call (.ref f) args) (CR CX outer P w H s Q E) s
section
variable {P : Program} {w : World} {K : PySem.W.Frag} {mg : Str → Option Value} {base : Heap} {CX : CXT} {k : Nat} {f : Addr} {fd : FuncData} {ps : List Str} {sp : Sp}
theorem fnG_of (F : FnOk P w K mg base CX k f fd ps sp) : FnG P w K mg base CX k f fd ps sp := ⟨F.len, fun A outer s H args us vs Q E _ => F.run A outer s H args us vs Q E⟩
theorem FnG.up {j : Nat} (F : FnG P w K mg base CX j f fd ps sp) (h : j ≤ k) : FnG P w K mg base CX k f fd ps sp :=
  ⟨F.len, fun A outer s H args us vs Q E g hr => F.run A outer s H args us vs Q E g (hr.mono h)⟩
theorem FnG.less {sp' : Sp} (F : FnG P w K mg base CX k f fd ps sp) (h : ∀ vs H Q E, sp' vs H Q E → sp vs H Q E) : FnG P w K mg base CX k f fd ps sp' :=
  ⟨fun vs H Q E q => F.len vs H Q E (h vs H Q E q), fun A outer s H args us vs Q E g hr he hb hv hs => F.run A outer s H args us vs Q E g hr he hb hv (h vs H Q E hs)⟩
end
/-- a def by its body, where no repr is under way -/
theorem fnG_body {CX : CXT} {P : Program} {w : World} {K : PySem.W.Frag} {mg : Str → Option Value} {base : Heap} {k : Nat} {f : Addr} {nm ql : Str} {prm : Arguments} {bd : List Stmt} {sc : Scope}
    {dv kv dc pm cd ct oc : Value} {an od : Option Addr} {sl : Array (Option Value)} {N ps : List Str} {sp : Sp}
    (look : K.lookup f = some ⟨oc, od, .func (PySem.W.fnOf nm ql prm bd sc dv kv dc pm an cd ct), sl⟩) (hcode : PySem.W.codeIn K cd ql = true) (S : FnScope N ps sc)
    (hlen : ∀ vs H Q E, sp vs H Q E → vs.length = ps.length)
    (hb : ∀ (A : Around) (outer : List Env) (s : Shared) (H : Hp) (vs : List V) (Q : VK) (E : XK), Gd A → Room k (A.deeper (envOfC ql sc s.heap.objs.size f cd)) → sp vs H Q E →
      ∃ t, PSs (cxOf CX P w K mg base N ql sc f cd A outer s H E) bd t ∧ t { nx := fun _ H' => Q .non H', rt := Q } (start N vs) H) :
    FnG P w K mg base CX (k + 1) f (PySem.W.fnOf nm ql prm bd sc dv kv dc pm an cd ct) ps sp := by
  constructor
  · exact hlen
  · intro A outer s H args us vs Q E g room env bind rel want
    have inS : K.In s.heap := env.mod.kin.keeps fun b o e => (env.bs b o e).1
    have noLim : s.heap.NoLimit := env.mod.nolimit.keeps fun b o e => (env.bs b o e).1
    have kinds : ∀ y ∈ ps.zip us, sc.names.lookup y.1 = some .local ∨ (sc.names.lookup y.1 = some .cell ∧ ((cellsFrom (s.heap.objs.size + 1) sc.names []).lookup y.1).isSome = true) := by
      rintro ⟨n, v⟩ hy
      rcases S.par n (List.of_mem_zip hy).1 with q | q
      · exact Or.inl q
      · exact Or.inr ⟨q, PySem.W.cellsFrom_some _ _ _ (Or.inl q)⟩
    refine codeAny_call_function room.depth (inS _ _ look) rfl S.co S.gen rfl (PySem.W.codeRec_of inS hcode)
      (bind _ _ _ _ (wpAny_newFunctionEnv_cells S.kind kinds fun env' he s1 made => ?_))
    subst he
    refine ⟨noLim.keeps made.toInCall.keep, codeAny_func ?_⟩
    obtain ⟨t, ht, hq⟩ := hb A outer s H vs Q E g (room.deeper _) want
    have I0 := inv_start (CX := CX) (E := E) (N := N) S room.hd env (hlen _ _ _ _ want) rel made
    refine wpAny_mono (ht.run [] s1 (start N vs) H _ I0 hq) ?_ (fun e s' hs => hs)
    intro fl s' hs
    cases fl with
    | brk =>
      obtain ⟨_, _, _, no⟩ := hs
      exact no.elim
    | cont =>
      obtain ⟨_, _, _, no⟩ := hs
      exact no.elim
    | next =>
      obtain ⟨σ', H', J, q⟩ := hs
      exact ⟨V.non, H', J.os, J.bare, J.base, J.hok, rfl, q⟩
    | ret u =>
      obtain ⟨v, σ', H', J, rv, q⟩ := hs
      exact ⟨v, H', J.os, J.bare, J.base, J.hok, rv, q⟩
section
variable {P : Program} {w : World} {K : PySem.W.Frag} {mg : Str → Option Value} {base : Heap}
/-- .. of the text -/
theorem okG {x qual : Str} {st : Stmt} {f : Addr} {fd : FuncData} {N ps : List Str} {k : Nat} {sp : Sp} (F : Fun K x qual st f fd) (S : FnScope N ps (defScope st)) (hlen : ∀ vs H Q E, sp vs H Q E → vs.length = ps.length)
    (hb : ∀ (cdv : Value) (A : Around) (outer : List Env) (s : Shared) (H : Hp) (vs : List V) (Q : VK) (E : XK), Gd (A.deeper (envOfC qual (defScope st) s.heap.objs.size f cdv)) → Room k (A.deeper (envOfC qual (defScope st) s.heap.objs.size f cdv)) → sp vs H Q E →
      ∃ t, PSs (cxOf CX0 P w K mg base N qual (defScope st) f cdv A outer s H E).nox (defBody st) t ∧ t { nx := fun _ H' => Q .non H', rt := Q } (start N vs) H) : FnG P w K mg base CX0 (k + 1) f fd ps sp := by
  obtain ⟨oc, od, kV, doc, pm, an, cdv, ct, osl, rfl, lk, hcd⟩ := F.ex
  refine fnG_body lk hcd S hlen fun A outer s H vs Q E g hr want => ?_
  obtain ⟨t, h, q⟩ := hb cdv A outer s H vs Q E g hr want
  exact ⟨t, h.nox, q⟩
/-- .. which may raise -/
theorem okGX {x qual : Str} {st : Stmt} {f : Addr} {fd : FuncData} {N ps : List Str} {k : Nat} {sp : Sp} (F : Fun K x qual st f fd) (S : FnScope N ps (defScope st)) (hlen : ∀ vs H Q E, sp vs H Q E → vs.length = ps.length) {CX : CXT}
    (hb : ∀ (cdv : Value) (A : Around) (outer : List Env) (s : Shared) (H : Hp) (vs : List V) (Q : VK) (E : XK), Gd (A.deeper (envOfC qual (defScope st) s.heap.objs.size f cdv)) → Room k (A.deeper (envOfC qual (defScope st) s.heap.objs.size f cdv)) → sp vs H Q E →
      ∃ t, PSs (cxOf CX P w K mg base N qual (defScope st) f cdv A outer s H E) (defBody st) t ∧ t { nx := fun _ H' => Q .non H', rt := Q } (start N vs) H) : FnG P w K mg base CX (k + 1) f fd ps sp := by
  obtain ⟨oc, od, kV, doc, pm, an, cdv, ct, osl, rfl, lk, hcd⟩ := F.ex
  exact fnG_body lk hcd S hlen fun A outer s H vs Q E g hr want => hb cdv A outer s H vs Q E g hr want
/-- the name x is a def that keeps the promise sp where no repr is under way -/
def CalG (P : Program) (w : World) (K : PySem.W.Frag) (mg : Str → Option Value) (base : Heap) (k : Nat) (x : Str) (ps : List Str) (sp : Sp) : Prop :=
  ∃ (f : Addr) (fd : FuncData), FnG P w K mg base CX0 k f fd ps sp ∧ PySem.W.keepIn K (.ref f) = true ∧ Binds K fd ps [] ∧ mg x = some (.ref f)
theorem Cal.g {k : Nat} {x : Str} {ps : List Str} {sp : Sp} (c : Cal P w K mg base k x ps sp) : CalG P w K mg base k x ps sp := by
  obtain ⟨f, fd, F, r⟩ := c
  exact ⟨f, fd, fnG_of F, r⟩
theorem CalG.up {j k : Nat} {x : Str} {ps : List Str} {sp : Sp} (c : CalG P w K mg base j x ps sp) (h : j ≤ k) : CalG P w K mg base k x ps sp := by
  obtain ⟨f, fd, F, r⟩ := c
  exact ⟨f, fd, F.up h, r⟩
theorem Def.calG {x qual : Str} {st : Stmt} {ps : List Str} (d : Def K mg x qual st ps) {k : Nat} {sp : Sp} (h : ∀ f fd, Fun K x qual st f fd → FnG P w K mg base CX0 k f fd ps sp) : CalG P w K mg base k x ps sp := by
  obtain ⟨f, fd, F, b, g⟩ := d
  exact ⟨f, fd, h f fd F, F.kp, b, g⟩
end
section
variable {X : Cx}
/-- the callee runs -/
theorem runG {CX : CXT} {k : Nat} {f : Addr} {fd : FuncData} {ps : List Str} {sp : Sp} {E : XK} {ds : List Value} {dvs : List V} {pins : List (Addr × Obj)} {σ : L2.St} {H : Hp} {s : Shared} {Q : VK} {us : List Value} {vs : List V}
    (F : FnG X.prog X.w X.K X.mg X.base CX k f fd ps sp) (g : Gd X.A) (room : Room k X.A) (hb : Binds X.K fd ps ds) (hd : Vals dvs ds) (hx : Passes CX X E)
    (I : Inv X pins σ H s) (r : Vals vs us) (want : sp (vs ++ dvs) H Q E) : wpAny (model X.prog X.w) X.A (call (.ref f) us) (EP X pins σ Q) X.xe s := by
  have rel := r.append hd
  have hl : (us ++ ds).length = ps.length := rel.length.symm.trans (F.len _ _ _ _ want)
  have hc := F.run X.A X.stack s H ⟨us, []⟩ (us ++ ds) (vs ++ dvs) Q E g room I.env0 (hb s us I.kIn hl) rel want
  refine wpAny_call (codeAny_mono hc ?_)
  intro res s' hres
  match res, hres with
  | .error e, hres => exact hx pins σ H s e s' I hres
  | .ok (.ret u), hres => exact I.after hres
theorem pe_calG {x : Str} {ps : List Str} {sp : Sp} {k : Nat} {e : Expr} {es : List Expr} {t : TA} {p pos : Pos} (c : CalG X.prog X.w X.K X.mg X.base k x ps sp) (g : Gd X.A) (room : Room k X.A) (hg : Gl X x) (h : PA X (e :: es) t)
    (hdb : (x == ("__debug__" : Str)) = false := by decide) (hst : starEach (e :: es) X.env = (false, eval e X.env) :: starEach es X.env := by rfl) (hpl : (backTo pos (starEach es X.env)).any (·.1) = false := by rfl) :
    PE X (.Call (.Name x p) (e :: es) [] pos) (tCl sp t) := by
  obtain ⟨f, fd, F, kp, b, hm⟩ := c
  rw [← tCl_eq]
  refine ⟨fun pins s σ H Q I want => wpAny_Call_Name_kw (ld_glob I hg hm ?_ hdb)⟩
  exact PySem.W.callWith_K (h₀ := X.base) I.ok.mod.kin kp (thn (h.run pos pins s σ H _ I want) fun us s1 ⟨vs, H1, I1, r, q⟩ => ⟨I1.kIn, runG F g room b .nil pass0 I1 r q⟩) hst hpl
theorem pe_calG0 {x : Str} {ps : List Str} {sp : Sp} {k : Nat} {p pos : Pos} (c : CalG X.prog X.w X.K X.mg X.base k x ps sp) (g : Gd X.A) (room : Room k X.A) (hg : Gl X x)
    (hdb : (x == ("__debug__" : Str)) = false := by decide) : PE X (.Call (.Name x p) [] [] pos) (tCl sp tNil) := by
  obtain ⟨f, fd, F, kp, b, hm⟩ := c
  rw [← tCl_eq]
  exact ⟨fun pins s σ H Q I want => wpAny_Call_Name_kw (ld_glob I hg hm (PySem.W.callWith_K0 I.kIn kp (runG (us := []) F g room b .nil pass0 I .nil want)) hdb)⟩
end
/-! ### repr of data -/
theorem repr_ref {prog : Program} {w : World} {A : Around} {E : Value → Shared → Prop} {s : Shared} {Q : Value → Shared → Prop} {a : Addr} {d : PyData} {as : List Addr}
    (r : Reads s.heap (.ref a) d as) (hs : d.showable = true) (hsm : d.hasDict = true → sysModules ∉ as) (hsz : d.shown.length ≤ sizeLine) (g : Gd A) (hu : A.units + 1 + d.depth < cLine)
    (h : ∀ h' u tk, (∀ b o, s.heap.get? b = some o → h'.get? b = some o) → Q (.str d.shown u) { s with heap := h', toks := tk }) : wpAny (model prog w) A (call (.builtin "repr") [.ref a]) Q E s := by
  obtain ⟨T, idr, B⟩ := showsBy_of_reads (prog := prog) (w := w) r hs hsm hsz
  have hT := B.typeIs s fun _ _ e => e
  refine Calls.call_function_entry F.kind_repr F.plain_repr F.entry_repr (F.args_repr1 _) ?_
  unfold Builtin.«repr»
  refine wpAny_bind (m := oneArg "repr" _) (wpAny_pure ?_)
  refine wpAny_bind (wpAny_cRoomFor (by show A.units + 1 < cLine; omega) ?_)
  refine wpAny_bind (wpAny_specialOf (name := Str.ofString "__repr__") hT B.slotRepr.lookup ?_)
  refine wpAny_bind (m := callSpecialIfBound? (.ref a) (Str.ofString "__repr__")) (wpAny_callSpecialIfBound?_slotG (name := Str.ofString "__repr__") hT B.slotRepr (B.call _ _ s _ g (by show A.units + 1 + _ < cLine; omega) (fun _ _ e => e) fun h' u tk hk => ?_))
  refine wpAny_bind (wpAny_isInstance (T := "str") (b := true) rfl isSubtype_str_str ?_)
  exact wpAny_pure ⟨_, rfl, h h' u tk hk⟩
section
variable {X : Cx}
/-- repr(x), x data without dicts -/
def rRepr (K : PySem.W.Frag) : List V → Hp → VK → Prop := fun xs H Q => ∃ (x : V) (d : PyData), xs = [x] ∧ Dp K H x d ∧ d.showable = true ∧ d.hasDict = false ∧ d.depth ≤ 60 ∧ d.shown.length ≤ sizeLine ∧ Q (.str d.shown) H
theorem call_reprD (g : Gd X.A) (hu : X.A.units + 64 < cLine) : CallR X (.builtin "repr") (rRepr X.K) := by
  intro pins s σ H xs us Q I r h
  obtain ⟨x, d, rfl, hd, h1, h2, h3, h4, q⟩ := h
  obtain ⟨u, rfl, rx⟩ := vals1 r
  obtain ⟨as, hr⟩ := Dp.reads I d x u hd rx
  cases hr with
  | none => simp only [PyData.shown] at q; exact PySem.P.repr_of_none ⟨.str _, H, I.tok _, ⟨_, rfl⟩, q⟩
  | bool b => simp only [PyData.shown] at q; exact PySem.P.repr_of_bool ⟨.str _, H, I.tok _, ⟨_, rfl⟩, q⟩
  | int i t => simp only [PyData.shown] at q; exact PySem.P.repr_of_int (by simpa [PyData.showable] using h1) ⟨.str _, H, I.tok _, ⟨_, rfl⟩, q⟩
  | str y t => simp only [PyData.shown] at q h4; exact PySem.P.repr_of_str ⟨.str _, H, I.tok _, ⟨_, rfl⟩, q⟩ h4
  | list e1 e2 e3 e4 =>
    exact repr_ref (.list e1 e2 e3 e4) h1 (fun e => by rw [h2] at e; cases e) h4 g (by omega) fun h' u tk hk => ⟨.str _, H, I.kept (t' := tk) hk, ⟨_, rfl⟩, q⟩
  | tuple e1 e2 e3 e4 =>
    exact repr_ref (.tuple e1 e2 e3 e4) h1 (fun e => by rw [h2] at e; cases e) h4 g (by omega) fun h' u tk hk => ⟨.str _, H, I.kept (t' := tk) hk, ⟨_, rfl⟩, q⟩
  | dict e1 e2 e3 e4 e5 =>
    exact repr_ref (.dict e1 e2 e3 e4 e5) h1 (fun e => by rw [h2] at e; cases e) h4 g (by omega) fun h' u tk hk => ⟨.str _, H, I.kept (t' := tk) hk, ⟨_, rfl⟩, q⟩
end
/-! ### sorted of a tuple of texts -/
section
variable {X : Cx}
def rSortedTS (K : PySem.W.Frag) : List V → Hp → VK → Prop := fun vs H Q => ∃ (a : Addr) (xs : List Str), vs = [V.ref a] ∧ SqT K H a (xs.map V.str) ∧ xs.length ≤ 100000 ∧
  ∀ (ys : List Str) (p : Addr), ys.Perm xs → sortedS ys = true → H p = none → Q (.ref p) (upd H p (.lst (ys.map V.str)))
theorem cr_sortedTS : CallR X (.builtin "sorted") (rSortedTS X.K) := by
  intro pins s σ H vs us Q I r h
  obtain ⟨a, xs, rfl, ht, hz, q⟩ := h
  obtain ⟨its, rv, ⟨o, ho, hc, n, hd⟩, _⟩ := I.tuple ht
  rw [Vals.ref1 r]
  have hln : xs.length = its.length := by
    have e := rv.length
    rw [List.length_map] at e
    exact e
  have hS : StrsAre its xs := rv.strs
  have hL : its.length ≤ sizeLine := Nat.le_trans (by omega) (show 100000 ≤ sizeLine by decide)
  refine Calls.call_function_entry kind_sorted plain_sorted entry_sorted (args_sorted1 _) ?_
  unfold Builtin.«sorted»
  refine wpAny_bind (m := checkCount "sorted" 1 1 _) (wpAny_pure ?_)
  refine wpAny_bind (wpAny_collect_seq a (.inr rfl) ho hc hd (fun h' hk => ?_) (by rw [List.size_toArray]; exact hL))
  have I1 : Inv _ pins σ H { s with heap := h' } := I.kept (t' := s.toks) hk
  rw [List.toList_toArray]
  refine wpAny_bind (wpAny_newList ?_ hL)
  have hoL : (h'.push (seqObj "list" its.toArray 0)).get? h'.objs.size = some (seqObj "list" its.toArray 0) := Heap.get?_push_size _ rfl
  show wpAny _ _ _ _ _ { s with heap := h'.push (seqObj "list" its.toArray 0) }
  refine wpAny_bind (wpAny_holding (wpAny_call_entry slot_list_sort ⟨_, hoL, rfl⟩ entry_list_sort
    (list_sort_treeKAny strKind_oneLt (s := { s with heap := h'.push (seqObj "list" its.toArray 0) }) hoL hS.keysOf (fun v₁ v₂ rest e => keyKind_strs (by rw [← e]; exact hS)) hL fun st' hp hs => ⟨_, rfl, ?_⟩) (args_list_sort _)))
  obtain ⟨ys, g1, g2, g3⟩ := sorted_out_str hS hp hs
  obtain ⟨e', he'⟩ := sortedHeap_at (vs := its) (out := (arrOf st').map (·.2)) hoL
  have hlen : (ys.map V.str).length ≤ sizeLine := by
    rw [List.length_map, g2.length_eq, hln]
    exact hL
  refine wpAny_pure ⟨_, rfl, .ref h'.objs.size, upd H h'.objs.size (.lst (ys.map V.str)), I1.laid (t' := s.toks) (fun b u e => ?_) (Nat.le_refl _)
    (show ObjOk X.prog X.w _ _ _ (.lst (ys.map V.str)) from ⟨hlen, ((arrOf st').map (·.2)).toList, e', vals_of_strs g1, by rw [Array.toArray_toList]; exact he'⟩), rfl, q ys _ g2 g3 (I1.hok.fresh (Nat.le_refl _))⟩
  have hb : b < h'.objs.size := Heap.lt_size e
  rw [sortedHeap_old (Nat.ne_of_lt hb) (by rw [size_push']; exact Nat.lt_succ_of_lt hb)]
  exact Heap.get?_push_of_some _ e
end
/-! ### the end of a law whose promise holds where no repr is under way -/
/-- the abstract heap at the law's call: the script alone, if the module does not own it -/
def H00 (a : Addr) (o : Obj) (ns : List Int) (own : Bool) : Hp := fun b => if own = false ∧ b = a then some (.frz o (.lst (ns.map V.int))) else none
theorem h00_none {a b : Addr} {o : Obj} {ns : List Int} {own : Bool} (h : own = true ∨ b ≠ a) : H00 a o ns own b = none := by
  unfold H00
  rw [if_neg]
  rintro ⟨h1, h2⟩
  rcases h with h | h
  · rw [h1] at h; cases h
  · exact h h2
theorem h00_some {a b : Addr} {o : Obj} {ns : List Int} {own : Bool} {u : HO} (h : H00 a o ns own b = some u) : own = false ∧ b = a ∧ u = .frz o (.lst (ns.map V.int)) := by
  unfold H00 at h
  by_cases c : own = false ∧ b = a
  · rw [if_pos c] at h
    exact ⟨c.1, c.2, (Option.some.inj h).symm⟩
  · rw [if_neg c] at h
    cases h
theorem lawG {P : Program} {w : World} {K : PySem.W.Frag} {mg mb : Str → Option Value} {CX : CXT} {k : Nat} {fa a : Addr} {fd : FuncData} {x : Str} {sp : Sp} {t : Shared} {vs : List Value} {ns : List Int}
    (inK : K.In t.heap) (glob : t.heap.Ns mainGlobals mg) (blt : t.heap.Ns builtinsNs mb) (boot : ∀ y : Str, y ≠ "__name__" → mb y = bootBuiltins y) (noLim : t.heap.NoLimit) (gens : t.gens = #[])
    (scr : t.heap.get? a = some { cls := .type "list", data := .seq vs.toArray }) (hints : IntsAre vs ns) (short : ns.length ≤ sizeLine) (room : Room k callerA)
    (F : ∀ base : Heap, K.In base → base.Ns mainGlobals mg → FnG P w K mg base CX k fa fd [x] sp) (bind : ∀ (s : Shared) (u : Value), BindsTo s fd ⟨[u], []⟩ [(x, u)])
    (want : ∀ H : Hp, Only H → SqL K H a (ns.map V.int) → sp [.ref a] H (fun v _ => v = .bl true) fun _ _ _ => False)
    (noErr : ∀ H e s', CX [] H t (fun _ _ _ => False) e s' → False) :
    codeAny (model P w) callerA (.call (.ref fa) ⟨[.ref a], []⟩) (fun r s' => r = .ok (.ret (.bool true)) ∧ OldK t.heap s'.heap ∧ s'.os = t.os ∧ AllBare s'.gens) t := by
  have hv : Vals (ns.map V.int) vs := vals_ints hints
  have hlv : vs.length = ns.length := hints.length
  -- does the module own the script?
  obtain ⟨own, hown⟩ : ∃ own : Bool, own = (K.lookup a).isSome := ⟨_, rfl⟩
  let o : Obj := { cls := .type "list", data := .seq vs.toArray }
  have hOk : HOk P w (H00 a o ns own) t.heap := by
    intro b u e
    obtain ⟨_, rfl, rfl⟩ := h00_some e
    exact ⟨scr, by rw [List.length_map]; exact short, vs, _, hv, scr⟩
  have keepT : ∀ {b : Addr} {ob : Obj}, t.heap.get? b = some ob → own = true ∨ b ≠ a → (hidT t.heap (H00 a o ns own)).get? b = some ob := fun e n => hidT_get e (h00_none n)
  have notScr : ∀ {b : Addr} {m : Str → Option Value}, t.heap.Ns b m → b ≠ a := by
    rintro b m ⟨ob, es, ep, e, dd, _⟩ rfl
    rw [scr] at e
    cases e
    cases dd
  have nsKeep : ∀ {b : Addr} {m : Str → Option Value}, t.heap.Ns b m → (hidT t.heap (H00 a o ns own)).Ns b m := by
    intro b m n
    have ne := notScr n
    obtain ⟨ob, es, ep, e, r⟩ := n
    exact ⟨ob, es, ep, keepT e (.inr ne), r⟩
  have inK' : K.In (hidT t.heap (H00 a o ns own)) := by
    intro b ob e
    refine keepT (inK b ob e) ?_
    by_cases hb : b = a
    · subst hb
      left
      rw [hown, e]
      rfl
    · exact .inr hb
  have noLim' : (hidT t.heap (H00 a o ns own)).NoLimit := by
    obtain ⟨mc, h1, h2⟩ := noLim
    exact ⟨mc, nsKeep h1, h2⟩
  have env : Env0 P w K mg (hidT t.heap (H00 a o ns own)) callerA [] t (H00 a o ns own) := by
    refine ⟨rfl, ⟨inK', nsKeep glob, ⟨mb, nsKeep blt, boot⟩, noLim'⟩, fun b ob e => of_hidT e, Nat.le_of_eq (hidT_size _ _), trivial, ?_, hOk, .of_eq gens⟩
    intro b hb
    exact absurd (show b ∈ ([] : List Addr) from hb) List.not_mem_nil
  have only : Only (H00 a o ns own) := by
    intro b
    cases e : H00 a o ns own b with
    | none => exact .inl rfl
    | some u =>
      obtain ⟨_, _, rfl⟩ := h00_some e
      exact .inr ⟨_, _, rfl⟩
  have hS : SqL K (H00 a o ns own) a (ns.map V.int) := by
    cases own with
    | false => exact .inl (.inr ⟨o, by unfold H00; rw [if_pos ⟨rfl, rfl⟩]⟩)
    | true =>
      obtain ⟨ob, e⟩ := Option.isSome_iff_exists.mp hown.symm
      have e2 := inK a ob e
      rw [scr] at e2
      cases e2
      exact .inr ⟨_, vs.toArray, _, e, rfl, rfl, rfl, by rw [List.size_toArray, hlv]; exact short, by simpa using hv⟩
  have runs := (F _ inK' (nsKeep glob)).run callerA [] t (H00 a o ns own) ⟨[.ref a], []⟩ [.ref a] [.ref a] _ _ rfl room env (bind t (.ref a)) (.cons rfl .nil) (want _ only hS)
  refine codeAny_mono runs ?_
  intro res s' hres
  match res, hres with
  | .error e, hres => exact (noErr _ e s' hres).elim
  | .ok (.ret u), hres =>
    obtain ⟨v, H', hos, bare, un, ok', rel, rfl⟩ := hres
    obtain rfl : u = Value.bool true := rel
    refine ⟨rfl, OldK.of_keep fun b ob e => ?_, hos, bare⟩
    cases q : H00 a o ns own b with
    | none => exact un.keep b ob e q (fun z => absurd (show b ∈ ([] : List Addr) from z) List.not_mem_nil) List.not_mem_nil
    | some u =>
      obtain ⟨_, _, rfl⟩ := h00_some q
      have q' := un.frzs b _ _ q
      have e1 := (hOk b _ q).1
      rw [e] at e1
      cases e1
      exact (ok' b _ q').1
/-- what k_head leaves -/
theorem walkG {l : PySem.W.OpenLaw} {n k : Nat} {q : Program} {loose : List Str} {XP : (Str → Option Value) → Heap → Prop} {YP : World → Heap → Prop} {d : DefRec} {K : Params → PySem.W.Frag} {CX : World → CXT} {sp : World → Sp} {x : Str}
    (most : l.most = some n) (small : n ≤ sizeLine) (plain : d.params.defaults = []) (room : Room k callerA) (hY : ∀ (w : World) (h : Heap), YP w h → (K w.params).In h)
    (F : ∀ (w : World) (mg : Str → Option Value) (fa : Addr) (h : Heap), (K w.params).In h → h.Ns mainGlobals mg → mg d.name = some (.ref fa) →
      ∃ fd : FuncData, (∀ (s : Shared) (u : Value), BindsTo s fd ⟨[u], []⟩ [(x, u)]) ∧ ∀ base : Heap, (K w.params).In base → base.Ns mainGlobals mg → FnG l.prog w (K w.params) mg base (CX w) k fa fd [x] (sp w))
    (want : ∀ (w : World) (H : Hp) (a : Addr) (ns : List Int), ns.length ≤ n → Only H → SqL (K w.params) H a (ns.map V.int) → sp w [.ref a] H (fun v _ => v = .bl true) fun _ _ _ => False)
    (noErr : ∀ (w : World) (H : Hp) (s : Shared) (e : Value) (s' : Shared), CX w [] H s (fun _ _ _ => False) e s' → False) :
    PySem.W.WalkO q loose XP YP l.row.toRowW d [] (fun f vs => PySem.call f vs) := by
  refine Att.attach_call most plain fun w s₀ t mg mb fa o pm cd doc a vs ns G Y ho hd hcd hmg scr hints hlen gens => ?_
  obtain ⟨fd, bind, body⟩ := F w mg fa _ (hY w _ Y) G.T.g hmg
  exact lawG (hY w _ Y) G.T.g G.T.b G.T.builtins G.T.nolimit gens scr hints (Nat.le_trans hlen small) room body bind (fun H hO hS => want w H a ns hlen hO hS) fun H e s' => noErr w H t e s'
end Gx

set_option maxRecDepth 100000
set_option maxHeartbeats 4000000
namespace Gx
open PySem PySem.Spec PySem.W PySem.Calls Builtin Builtin.ObjectAttr
section
variable {prog : Program} {w : World} {A : Around} {R : Result → Shared → Prop} {hp : Heap} {g : Array GenState} {d : Drawn} {t : Nat} {os : OsState} {K : Frag}
/-- the first field of an own exception, over any built-in base -/
theorem exc_storeX {B : String} {bmB : List Value} {name : Str} {tk : Tok} {v : Value} {x C t0 : Addr} (SF : StoreFacts B bmB "object.__setattr__" "object")
    (inK : K.In hp) (hx : hp.get? x = some (excObj C t0 none .none)) (over : excOver K C bmB = true) (noTake : takerIn K C name = some none) (hasD : hasDictIn K C = true)
    (hq : ∀ (h' : Heap) (tk' : Nat) (dx : Addr), (∀ b o, b ≠ x → hp.get? b = some o → h'.get? b = some o) → hp.objs.size ≤ dx → dx ≠ x → h'.get? x = some (excObj C t0 (some dx) .none) →
      h'.Ns1 dx (fun y => if y = name then some v else none) → R (.ok (.ret .none)) ⟨h', g, d, tk', os⟩) :
    codeAny (model prog w) A (.call (.builtin "object.__setattr__") ⟨[.ref x, .str name tk, v], []⟩) R ⟨hp, g, d, t, os⟩ := by
  have xs : x ≠ hp.objs.size := Nat.ne_of_lt (Heap.lt_size hx)
  refine osa_openX (s := ⟨hp, g, d, t, os⟩) (od := none) SF inK ⟨hx, rfl, rfl, trivial⟩ over noTake fun b => ?_
  obtain ⟨cd, hc, hd⟩ := any_some hasD
  refine wpAny_bind (wpAny_pure (wpAny_bind (instanceDict_exc (s := ⟨hp, g, d, t, os⟩) hx (looks_clsIn inK hc) hd ?_)))
  show wpAny _ _ (storeInDict hp.objs.size (.str name tk) name v) _ _ _
  have hx1 : (hp.push (dictOf [] 0)).get? x = some (excObj C t0 none .none) := Heap.get?_push_of_some _ hx
  refine PySem.HandSPX.store_in_new ⟨_, #[], _, (Heap.get?_update_ne _ _ _ _ xs.symm).trans (Heap.get?_push_at rfl rfl), rfl, fun e he => absurd he (by simp), fun _ => rfl⟩ fun h' tk' hn hs => ?_
  refine hq h' tk' hp.objs.size (fun b o hb ho => ?_) (Nat.le_refl _) xs.symm ((hs.2 x xs).trans (Heap.get?_update_self _ hx1 rfl)) hn
  have bl : b ≠ hp.objs.size := Nat.ne_of_lt (Heap.lt_size ho)
  exact (hs.2 b bl).trans ((Heap.get?_update_ne _ _ _ _ hb).trans (Heap.get?_push_of_some _ ho))
end
end Gx
namespace Gx
open PySem PySem.Spec PySem.W PySem.Calls PyProof.Rows L2
/-! ### own exceptions with one field: class cn(B): def __init__(self, fld): self.fld = fld -/
/-- what the written part says of the class -/
structure XTxt (K : Frag) (mg : Str → Option Value) (cn fld : Str) (newId : String) (bmB : List Value) (C fI : Addr) : Prop where
  gC : mg cn = some (.ref C)
  cls : ∃ nm q N bs bm sn sub ab col dd k0 k1 k2 k3 k5, K.lookup C = some (excClassObj nm q C N bs bm true sn sub ab col dd k0 k1 k2 k3 k5 newId) ∧ excTail bmB bm = true
  over : excOver K C bmB = true
  tak : takerIn K C fld = some none
  hdC : hasDictIn K C = true
  sa : findIn K (.ref C) "__setattr__" = some (some (.builtin "object.__setattr__"))
  ga : findIn K (.ref C) "__getattribute__" = some (some (.builtin "BaseException.__getattribute__"))
  gg : findIn K (.ref C) "__getattr__" = some none
  noN : findIn K (.ref C) fld = some none
  iC : findIn K (.ref C) "__init__" = some (some (.ref fI))
  tC : typeIn K (.ref fI) = some (.type "function")
  kC : keepIn K (.ref C) = true
  exC : subIn K (.ref C) (.type "BaseException") = some true
  tyC : typeIn K (.ref C) = some (.type "type")
  te : exmOne K (.ref C) (.ref C) = some true
/-- what __init__ leaves of a new exception at x -/
structure XInit (h h' : Heap) (x C dx t0 : Addr) (fld : Str) (v : Value) : Prop where
  keep : ∀ b o, b ≠ x → h.get? b = some o → h'.get? b = some o
  obj : h'.get? x = some (excObj C t0 (some dx) .none)
  big : h.objs.size ≤ dx
  ne : dx ≠ x
  ns : h'.Ns1 dx (fun y => if y = fld then some v else none)
/-- __init__ stores the field -/
def InitDoes (K : Frag) (C fI : Addr) (fld : Str) : Prop := ∀ (prog : Program) (w : World) (A : Around) (R : Result → Shared → Prop) (s : Shared) (x t0 : Addr) (v : Value),
  K.In s.heap → s.heap.NoLimit → s.heap.get? x = some (excObj C t0 none .none) → K.lookup x = none → A.depth < recursionLimit →
  (∀ h' tk dx, XInit s.heap h' x C dx t0 fld v → R (.ok (.ret .none)) { s with heap := h', toks := tk }) → codeAny (model prog w) A (.call (.ref fI) ⟨[.ref x, v], []⟩) R s
/-- such an exception, made -/
structure XMade (h h' : Heap) (e C d : Addr) (fld : Str) (v : Value) : Prop where
  keep : ∀ b o, h.get? b = some o → h'.get? b = some o
  new : h.objs.size ≤ e
  obj : ∃ oe vs, h'.get? e = some oe ∧ oe.cls = .ref C ∧ oe.dict = some d ∧ oe.data = .fields vs ∧ vs[1]? = some .none
  big : h.objs.size ≤ d
  ne : d ≠ e
  ns : h'.Ns1 d (fun y => if y = fld then some v else none)
theorem one_line (v : Value) : [v].length ≤ sizeLine := by
  show 1 ≤ sizeLine
  decide
section
variable {prog : Program} {w : World} {A : Around} {R : Result → Shared → Prop} {s : Shared} {K : Frag} {mg : Str → Option Value} {C fI : Addr} {cn fld : Str} {B newId initId : String} {bmB : List Value}
theorem x_made (FB : ExcBaseFacts B newId initId bmB) (T : XTxt K mg cn fld newId bmB C fI) (D : InitDoes K C fI fld) {v : Value} (inK : K.In s.heap) (lim : s.heap.NoLimit) (room : A.depth + 1 < recursionLimit)
    (hq : ∀ h' tk e d, XMade s.heap h' e C d fld v → R (.ok (.ret (.ref e))) { s with heap := h', toks := tk }) : codeAny (model prog w) A (.call (.ref C) ⟨[v], []⟩) R s := by
  obtain ⟨nm, q, N, bs, bm, sn, sub, ab, col, dd, k0, k1, k2, k3, k5, hC, tail⟩ := T.cls
  obtain ⟨hp, g, dr, tk, os⟩ := s
  have stay : ∀ b o, hp.get? b = some o → ((hp.push (kdv_tup [v])).push (excObj C hp.objs.size none .none)).get? b = some o := fun b o e => Heap.get?_push_of_some _ (Heap.get?_push_of_some _ e)
  have there : ((hp.push (kdv_tup [v])).push (excObj C hp.objs.size none .none)).get? (hp.objs.size + 1) = some (excObj C hp.objs.size none .none) := by heap_get
  have fresh : K.lookup (hp.objs.size + 1) = none := by
    cases e : K.lookup (hp.objs.size + 1) with
    | none => rfl
    | some o => exact absurd (Nat.lt_of_succ_lt (Heap.lt_size (inK _ _ e))) (Nat.lt_irrefl _)
  refine PySem.HandSPX.call_own FB (fun Y => excTail_contains Y bm tail) (inK _ _ hC) (looks_findIn inK T.iC) (fun self => bind_fn inK self T.tC) (one_line v) ?_
  refine D prog w _ _ ⟨(hp.push (kdv_tup [v])).push (excObj C hp.objs.size none .none), g, dr, tk, os⟩ _ _ v (inK.keeps stay) (lim.keeps stay) there fresh room fun h' tk' dx M => ?_
  have old : ∀ b o, hp.get? b = some o → h'.get? b = some o := fun b o e => M.keep b o (Nat.ne_of_lt (Nat.lt_succ_of_lt (Heap.lt_size e))) (stay b o e)
  have z : hp.objs.size + 1 + 1 ≤ dx := by
    have q := M.big
    first
      | exact q
      | simpa only [Heap.size_push] using q
  exact ⟨rfl, hq h' tk' (hp.objs.size + 1) dx ⟨old, Nat.le_succ _, ⟨_, _, M.obj, rfl, rfl, rfl, rfl⟩, Nat.le_trans (Nat.le_trans (Nat.le_succ _) (Nat.le_succ _)) z, M.ne, M.ns⟩⟩
end
theorem relO_one {fld : Str} {v : V} {u : Value} (r : RelV v u) (f : Str) : RelO (List.lookup f [(fld, v)]) (if f = fld then some u else none) := by
  by_cases e : f = fld
  · subst e
    rw [if_pos rfl, show List.lookup f [(f, v)] = some v by simp [List.lookup]]
    exact r
  · have q : (f == fld) = false := by simpa using e
    rw [if_neg e, show List.lookup f [(fld, v)] = none by simp [List.lookup, q]]
    trivial
section
variable {X : Cx} {C fI : Addr} {cn fld : Str} {B newId initId : String} {bmB : List Value}
/-- cn(e) -/
def tMkX (C : Addr) (fld : Str) (ta : TA) : L2.St → Hp → XK → Prop := fun σ H Q => ta σ H fun vs H1 => ∃ v, vs = [v] ∧ ∀ d, H1 d = none → Q (.ref C) (some d) (upd H1 d (.xd [(fld, v)]))
theorem pmk_x {a : Expr} {ta : TA} {p pos : Pos} {k : Nat} (FB : ExcBaseFacts B newId initId bmB) (T : XTxt X.K X.mg cn fld newId bmB C fI) (D : InitDoes X.K C fI fld) (room : Room k X.A) (ha : PA X [a] ta) (hg : Gl X cn)
    (hdb : (cn == ("__debug__" : Str)) = false := by decide) (hst : starEach (a :: []) X.env = (false, eval a X.env) :: starEach [] X.env := by rfl) (hpl : (backTo pos (starEach [] X.env)).any (·.1) = false := by rfl) :
    PMk X (.Call (.Name cn p) [a] [] pos) (tMkX C fld ta) := by
  intro pins s σ H Q I h
  refine wpAny_Call_Name_kw (ld_glob I hg T.gC ?_ hdb)
  refine PySem.W.callWith_K (h₀ := X.base) I.ok.mod.kin T.kC (thn (ha.run pos pins s σ H _ I h) ?_) hst hpl
  rintro us s1 ⟨vs, H1, I1, r1, v, rfl, q1⟩
  refine ⟨I1.kIn, ?_⟩
  obtain ⟨u, rfl, rv⟩ := vals1 r1
  show wpAny _ _ (call (.ref C) [u]) _ _ _
  have lim := I1.nolimit
  obtain ⟨hp, g, dr, tk, os⟩ := s1
  refine wpAny_call (x_made FB T D I1.kIn lim (by have := room.dp; omega) fun h' tk' e d M => ?_)
  show MkP X pins σ Q (.ref e) ⟨h', g, dr, tk', os⟩
  obtain ⟨oe, fv, hoe, hc, hd, hdat, h1⟩ := M.obj
  obtain ⟨G', g1, g2⟩ := restrict h' fun b => decide (b ≠ e)
  have off : ∀ b, b ≠ e → G'.get? b = h'.get? b := fun b hb => g1 b (decide_eq_true hb)
  have gone : G'.get? e = none := g2 e (by simp)
  have old : ∀ b o, hp.get? b = some o → G'.get? b = some o := fun b o q => (off b (Nat.ne_of_lt (Nat.lt_of_lt_of_le (Heap.lt_size q) M.new))).trans (M.keep b o q)
  have ob : ObjOk X.prog X.w (upd H1 d (.xd [(fld, v)])) G' d (.xd [(fld, v)]) := ⟨_, M.ns.at (fun o q => (off d M.ne).trans q), fun f => relO_one rv f⟩
  have J : Inv X pins σ (upd H1 d (.xd [(fld, v)])) ⟨G', g, dr, tk', os⟩ := I1.laid (t' := tk') old M.big ob
  refine ⟨e, oe, fv, ⟨G', g, dr, tk', os⟩, _, .ref C, some d, rfl, J, ?_, gone, hoe, ⟨hc, hd⟩, hdat, h1, ?_, rfl, I1.bare, raises_own T.exC T.tyC, q1 d (I1.hok.fresh M.big)⟩
  · intro b o q
    have q' : G'.get? b = some o := q
    by_cases hb : b = e
    · rw [hb, gone] at q'
      cases q'
    · exact (off b hb).symm.trans q
  · rw [upd_ne (Ne.symm M.ne)]
    exact I1.hok.fresh M.new
/-- raise cn(e) -/
def tRaiseX (C : Addr) (fld : Str) (W : WX) (ta : TA) : TS := fun _ σ H => tMkX C fld ta σ H fun cls d H' => W cls d σ H'
theorem ps_raiseX {a : Expr} {ta : TA} {W : WX} {p pos pos2 : Pos} {k : Nat} (hc : X.calm = true) (FB : ExcBaseFacts B newId initId bmB) (T : XTxt X.K X.mg cn fld newId bmB C fI) (D : InitDoes X.K C fI fld) (room : Room k X.A) (tk : Takes X W) (ha : PA X [a] ta) (hg : Gl X cn)
    (hdb : (cn == ("__debug__" : Str)) = false := by decide) (hst : starEach (a :: []) X.env = (false, eval a X.env) :: starEach [] X.env := by rfl) (hpl : (backTo pos (starEach [] X.env)).any (·.1) = false := by rfl) :
    PS X (.Raise (some (.Call (.Name cn p) [a] [] pos)) none pos2) (tRaiseX C fld W ta) := ps_raise hc tk (pmk_x FB T D room ha hg hdb hst hpl)
/-- e.fld, e the exception that the suite holds (at a; its class cls, its dict d) -/
def tByX (C : Addr) (fld : Str) (a : Addr) (cls : Value) (d : Option Addr) (te : TE) : TE := fun σ H Q => te σ H fun x H1 => x = .ref a ∧ cls = .ref C ∧ ∃ (dd : Addr) (v : V), d = some dd ∧ H1 dd = some (.xd [(fld, v)]) ∧ Q v H1
theorem pe_byX {a : Addr} {oe : Obj} {cls : Value} {d : Option Addr} {pn : List (Addr × Obj)} {e : Expr} {te : TE} {pos : Pos} (T : XTxt X.K X.mg cn fld newId bmB C fI) (hz : Zc cls d oe) (hf : ∃ vs, oe.data = .fields vs) (he : PE (X.suite a ((a, oe) :: pn)) e te)
    (hb : attributeBase e fld X.env (eval e X.env) = eval e X.env := by rfl) : PE (X.suite a ((a, oe) :: pn)) (.Attribute e fld pos) (tByX C fld a cls d te) := by
  constructor
  intro pins s σ H Q I h
  refine attr_of hb (thn (he.run pins s σ H _ I h) ?_)
  rintro u s1 ⟨x, H1, I1, rx, rfl, rfl, dd, v, rfl, ea, q⟩
  obtain rfl : u = Value.ref a := rx
  obtain ⟨here, _⟩ := I1.pin (a, oe) (List.mem_append_left _ List.mem_cons_self)
  obtain ⟨vs, hd⟩ := hf
  obtain ⟨mA, hns, hr⟩ := (show ObjOk X.prog X.w H1 s1.heap dd (.xd [(fld, v)]) from I1.hok dd _ ea)
  obtain ⟨od, ho, hl⟩ := lookIn_ns hns
  have l : List.lookup fld [(fld, v)] = some v := by simp [List.lookup]
  have hrf := hr fld
  rw [l] at hrf
  obtain ⟨u, hu, ru⟩ := RelO.some_of (v := v) (o := mA fld) hrf
  have J : PySem.W.InstAt s1.heap a oe C (some od) := ⟨here, hz.1, by unfold PySem.W.notCls; rw [hd] <;> rfl, by rw [hz.2]; exact ho⟩
  exact HandSPX.exc_get I1.kIn J T.ga T.gg T.exC (PySem.W.findObj_own T.hdC T.noN rfl (by rw [hl, hu])) (handed_of ru) ⟨v, H1, I1.tok _, ru, q⟩
end
end Gx
namespace Gx
open PySem PySem.Spec PySem.Calls PyProof.Rows L2
/-! ### calls of defs that may raise, also with keywords, where no repr is under way -/
section
variable {P : Program} {w : World} {K : PySem.W.Frag} {mg : Str → Option Value} {base : Heap}
theorem FnG.toX {k : Nat} {f : Addr} {fd : FuncData} {ps : List Str} {sp : Sp} (F : FnG P w K mg base CX0 k f fd ps sp) : FnG P w K mg base (L2.CX P w) k f fd ps sp := by
  refine ⟨F.len, fun A outer s H args us vs Q E g hr he hb hv hs => codeAny_mono (F.run A outer s H args us vs Q E g hr he hb hv hs) ?_⟩
  intro r s' h
  match r, h with
  | .error e, h => exact h.elim
  | .ok (.ret u), h => exact h
/-- the name x is a def that keeps sp, and may raise -/
def CalX (P : Program) (w : World) (K : PySem.W.Frag) (mg : Str → Option Value) (base : Heap) (k : Nat) (x : Str) (ps : List Str) (sp : Sp) : Prop :=
  ∃ (f : Addr) (fd : FuncData), FnG P w K mg base (L2.CX P w) k f fd ps sp ∧ PySem.W.keepIn K (.ref f) = true ∧ Binds K fd ps [] ∧ mg x = some (.ref f)
theorem CalX.up {j k : Nat} {x : Str} {ps : List Str} {sp : Sp} (c : CalX P w K mg base j x ps sp) (h : j ≤ k) : CalX P w K mg base k x ps sp := by
  obtain ⟨f, fd, F, r⟩ := c
  exact ⟨f, fd, F.up h, r⟩
theorem CalG.toX {k : Nat} {x : Str} {ps : List Str} {sp : Sp} (c : CalG P w K mg base k x ps sp) : CalX P w K mg base k x ps sp := by
  obtain ⟨f, fd, F, r⟩ := c
  exact ⟨f, fd, F.toX, r⟩
theorem Def.calX {x qual : Str} {st : Stmt} {ps : List Str} (d : Def K mg x qual st ps) {k : Nat} {sp : Sp} (h : ∀ f fd, Fun K x qual st f fd → FnG P w K mg base (L2.CX P w) k f fd ps sp) : CalX P w K mg base k x ps sp := by
  obtain ⟨f, fd, F, b, g⟩ := d
  exact ⟨f, fd, h f fd F, F.kp, b, g⟩
/-- .. called with n values by position and keywords ks; gV puts them in the parameters' order -/
def CalK (P : Program) (w : World) (K : PySem.W.Frag) (mg : Str → Option Value) (base : Heap) (k : Nat) (x : Str) (ps : List Str) (n : Nat) (ks : List Str) (gV : List V → List V → List V) (sp : Sp) : Prop :=
  ∃ (f : Addr) (fd : FuncData) (g : List Value → List Value → List Value), FnG P w K mg base (L2.CX P w) k f fd ps sp ∧ PySem.W.keepIn K (.ref f) = true ∧ KBn K fd ps n ks g gV ∧ mg x = some (.ref f)
theorem CalK.up {j k n : Nat} {x : Str} {ps ks : List Str} {gV : List V → List V → List V} {sp : Sp} (c : CalK P w K mg base j x ps n ks gV sp) (h : j ≤ k) : CalK P w K mg base k x ps n ks gV sp := by
  obtain ⟨f, fd, g, F, r⟩ := c
  exact ⟨f, fd, g, F.up h, r⟩
/-- the top's def with keyword-only parameters and no defaults -/
def DefK (K : PySem.W.Frag) (mg : Str → Option Value) (x qual : Str) (st : Stmt) (ps : List Str) (n : Nat) (ks : List Str) : Prop :=
  ∃ (f : Addr) (fd : FuncData), Fun K x qual st f fd ∧ KBn K fd ps n ks (fun us ws => us ++ ws) (fun vs zs => vs ++ zs) ∧ mg x = some (.ref f)
theorem DefK.calK {x qual : Str} {st : Stmt} {ps ks : List Str} {n : Nat} (d : DefK K mg x qual st ps n ks) {k : Nat} {sp : Sp} (h : ∀ f fd, Fun K x qual st f fd → FnG P w K mg base (L2.CX P w) k f fd ps sp) : CalK P w K mg base k x ps n ks (fun vs zs => vs ++ zs) sp := by
  obtain ⟨f, fd, F, b, g⟩ := d
  exact ⟨f, fd, _, h f fd F, F.kp, b, g⟩
theorem kbn_of {fd : FuncData} {ps ks : List Str} {n : Nat} (h : ∀ us ws : List Value, us.length = n → ws.length = ks.length → bindArgs fd ⟨us, ks.zip ws⟩ = pure (ps.zip (us ++ ws))) : KBn K fd ps n ks (fun us ws => us ++ ws) (fun vs zs => vs ++ zs) :=
  ⟨fun s us ws _ h1 h2 => .of_eq (h us ws h1 h2), fun r1 r2 => r1.append r2⟩
end
section
variable {X : Cx}
/-- nothing is raised -/
theorem neverAt (σ : L2.St) : PassesAt (L2.CX X.prog X.w) X σ ((fun _ => E0) σ) := by
  rintro pins H s e s' I ⟨a, B, H', cls, d, _, _, _, _, _, _, _, no⟩
  exact no.elim
theorem runX {k : Nat} {f : Addr} {fd : FuncData} {ps : List Str} {sp : Sp} {E : L2.St → XK} {args : Args} {pins : List (Addr × Obj)} {σ : L2.St} {H : Hp} {s : Shared} {Q : VK} {us : List Value} {vs : List V}
    (F : FnG X.prog X.w X.K X.mg X.base (L2.CX X.prog X.w) k f fd ps sp) (g : Gd X.A) (room : Room k X.A) (hb : BindsTo s fd args (ps.zip us)) (hx : PassesAt (L2.CX X.prog X.w) X σ (E σ))
    (I : Inv X pins σ H s) (r : Vals vs us) (want : sp vs H Q (E σ)) : wpAny (model X.prog X.w) X.A (call (.ref f) args.pos args.kw) (EP X pins σ Q) X.xe s := by
  have hc := F.run X.A X.stack s H args us vs Q (E σ) g room I.env0 hb r want
  refine wpAny_call (codeAny_mono hc ?_)
  intro res s' hres
  match res, hres with
  | .error e, hres => exact hx pins H s e s' I hres
  | .ok (.ret u), hres => exact I.after hres
def tClX (sp : Sp) (E : L2.St → XK) (t : TA) : TE := fun σ H Q => t σ H fun vs H1 => sp vs H1 Q (E σ)
theorem pe_calX {x : Str} {ps : List Str} {sp : Sp} {k : Nat} {e : Expr} {es : List Expr} {t : TA} {E : L2.St → XK} {p pos : Pos} (c : CalX X.prog X.w X.K X.mg X.base k x ps sp) (g : Gd X.A) (room : Room k X.A) (hg : Gl X x) (hx : ∀ σ, PassesAt (L2.CX X.prog X.w) X σ (E σ)) (h : PA X (e :: es) t)
    (hdb : (x == ("__debug__" : Str)) = false := by decide) (hst : starEach (e :: es) X.env = (false, eval e X.env) :: starEach es X.env := by rfl) (hpl : (backTo pos (starEach es X.env)).any (·.1) = false := by rfl) :
    PE X (.Call (.Name x p) (e :: es) [] pos) (tClX sp E t) := by
  obtain ⟨f, fd, F, kp, b, hm⟩ := c
  refine ⟨fun pins s σ H Q I want => wpAny_Call_Name_kw (ld_glob I hg hm ?_ hdb)⟩
  refine PySem.W.callWith_K (h₀ := X.base) I.ok.mod.kin kp (thn (h.run pos pins s σ H _ I want) fun us s1 ⟨vs, H1, I1, r, q⟩ => ⟨I1.kIn, ?_⟩) hst hpl
  have hl : us.length = ps.length := r.length.symm.trans (F.len _ _ _ _ q)
  have b1 := b s1 us I1.kIn (by rw [List.append_nil]; exact hl)
  rw [List.append_nil] at b1
  exact runX (args := ⟨us, []⟩) F g room b1 (hx σ) I1 r q
def tClK (n m : Nat) (sp : Sp) (gV : List V → List V → List V) (E : L2.St → XK) (t tk : TA) : TE := fun σ H Q => t σ H fun vs H1 => tk σ H1 fun zs H2 => vs.length = n ∧ zs.length = m ∧ sp (gV vs zs) H2 Q (E σ)
theorem pe_calK {x : Str} {ps ks : List Str} {n : Nat} {gV : List V → List V → List V} {sp : Sp} {k : Nat} {e : Expr} {es : List Expr} {kws : List Keyword} {t tk : TA} {E : L2.St → XK} {p pos : Pos} (c : CalK X.prog X.w X.K X.mg X.base k x ps n ks gV sp) (g : Gd X.A) (room : Room k X.A) (hg : Gl X x)
    (hx : ∀ σ, PassesAt (L2.CX X.prog X.w) X σ (E σ)) (h : PA X (e :: es) t) (hk : PK X kws tk) (hall : (backToKw pos (keywordEach kws X.env)).all (·.1.isSome) = true := by rfl) (hks : (backToKw pos (keywordEach kws X.env)).filterMap (·.1) = ks := by rfl)
    (hdb : (x == ("__debug__" : Str)) = false := by decide) (hst : starEach (e :: es) X.env = (false, eval e X.env) :: starEach es X.env := by rfl)
    (hpl : ((backTo pos (starEach (e :: es) X.env)).any (·.1) || (backToKw pos (keywordEach kws X.env)).any (·.1.isNone)) = false := by rfl) :
    PE X (.Call (.Name x p) (e :: es) kws pos) (tClK n ks.length sp gV E t tk) := by
  obtain ⟨f, fd, gg, F, kp, b, hm⟩ := c
  refine ⟨fun pins s σ H Q I want => wpAny_Call_Name_kw (ld_glob I hg hm ?_ hdb)⟩
  refine PySem.W.callWith_KW (h₀ := X.base) I.ok.mod.kin kp hall (thn (h.run pos pins s σ H _ I want) ?_) hpl hst
  rintro us s1 ⟨vs, H1, I1, r, q⟩
  refine thn (hk.run pos pins s1 σ H1 _ I1 q) ?_
  rintro ws s2 ⟨zs, H2, I2, rz, l1, l2, q2⟩
  refine ⟨I2.kIn, ?_⟩
  rw [hks]
  exact runX (args := ⟨us, ks.zip ws⟩) F g room (b.to s2 us ws I2.kIn (r.length.symm.trans l1) (rz.length.symm.trans l2)) (hx σ) I2 (b.rel r rz) q2
end
end Gx

set_option maxRecDepth 100000
set_option maxHeartbeats 4000000
namespace Mx
open PySem PySem.Spec PyProof.Rows L2 Gx
/-! ### names: the mathematics -/
def isLow (c : Nat) : Bool := decide (97 ≤ c ∧ c ≤ 122)
/-- whether a text is a name -/
def nameB (z : Str) : Bool := (decide (1 ≤ z.cps.size) && decide (z.cps.size ≤ 8)) && z.cps.toList.all isLow
theorem low_facts : ∀ c, c < 128 → (isLow c = true → Unicode.isAlpha c = true ∧ Unicode.isLower c = true ∧ Unicode.isUpper c = false ∧ Unicode.isTitle c = false) ∧ (Unicode.isAlpha c = true → Unicode.isUpper c = false → isLow c = true) := by decide +kernel
theorem isLow_lt {c : Nat} (h : isLow c = true) : c < 128 := by
  have := of_decide_eq_true h
  omega
/-- what is_name reckons of a text -/
theorem name_by (z : Str) (h1 : 1 ≤ z.cps.size) : (Txt.isascii z && (Txt.isalpha z && Txt.islower z)) = z.cps.toList.all isLow := by
  have hl : z.length = z.cps.size := rfl
  unfold Txt.isascii Txt.isalpha Txt.islower
  rw [Bool.eq_iff_iff]
  simp only [Bool.and_eq_true, Array.all_eq_true', Array.any_eq_true', List.all_eq_true, decide_eq_true_eq, Bool.not_eq_true', Array.any_eq_false', Bool.or_eq_true, not_or, Bool.not_eq_true, Array.mem_toList_iff, hl]
  constructor
  · rintro ⟨ha, ⟨_, hb⟩, _, hd⟩ c hc
    exact (low_facts c (ha c hc)).2 (hb c hc) (hd c hc).1
  · intro h
    have f := fun c hc => (low_facts c (isLow_lt (h c hc))).1 (h c hc)
    refine ⟨fun c hc => isLow_lt (h c hc), ⟨h1, fun c hc => (f c hc).1⟩, ⟨z.cps[0], Array.getElem_mem (by omega), (f _ (Array.getElem_mem (by omega))).2.1⟩, fun c hc => ⟨(f c hc).2.2.1, (f c hc).2.2.2⟩⟩
/-! ### counts -/
def abcL : List Nat := [97,98,99,100,101,102,103,104,105,106,107,108,109,110,111,112,113,114,115,116,117,118,119,120,121,122]
theorem count_cnt (x : Str) (c : Nat) : Txt.count x ⟨#[c]⟩ = cnt c x.cps.toList := count_is x c
theorem one_sum (n : Nat) : ∀ L : List Nat, L.Nodup → (L.map fun c => if n = c then (1 : Int) else 0).sum = if n ∈ L then 1 else 0
  | [], _ => rfl
  | a :: L, h => by
    obtain ⟨h1, h2⟩ := List.nodup_cons.mp h
    rw [List.map_cons, List.sum_cons, one_sum n L h2]
    by_cases e : n = a
    · subst e
      rw [if_pos rfl, if_neg h1, if_pos (List.mem_cons_self ..)]
      rfl
    · rw [if_neg e]
      by_cases m : n ∈ L
      · rw [if_pos m, if_pos (List.mem_cons_of_mem _ m)]; rfl
      · rw [if_neg m, if_neg (by
          rw [List.mem_cons]
          rintro (z | z)
          · exact e z
          · exact m z)]; rfl
theorem cnt_sum (L : List Nat) (hL : L.Nodup) : ∀ l : List Nat, (L.map fun c => cnt c l).sum = (l.countP (fun n => decide (n ∈ L)) : Nat)
  | [] => by
    have : ∀ L : List Nat, (L.map fun c => cnt c []).sum = 0 := fun L => by
      induction L with
      | nil => rfl
      | cons a L ih => rw [List.map_cons, List.sum_cons, ih]; rfl
    rw [this]
    rfl
  | n :: r => by
    have h : ∀ L : List Nat, (L.map fun c => cnt c (n :: r)).sum = (L.map fun c => if n = c then (1 : Int) else 0).sum + (L.map fun c => cnt c r).sum := fun L => by
      induction L with
      | nil => rfl
      | cons a L ih => rw [List.map_cons, List.sum_cons, ih, cnt_cons, List.map_cons, List.sum_cons, List.map_cons, List.sum_cons]; omega
    rw [h, one_sum n L hL, cnt_sum L hL r, List.countP_cons]
    by_cases m : n ∈ L
    · rw [if_pos m, if_pos (decide_eq_true m)]; omega
    · rw [if_neg m, if_neg (by rw [decide_eq_false m]; decide)]; omega
theorem mem_abc (n : Nat) : n ∈ abcL ↔ isLow n = true := by
  unfold isLow
  rw [decide_eq_true_eq]
  constructor
  · intro h
    have : ∀ n ∈ abcL, 97 ≤ n ∧ n ≤ 122 := by decide
    exact this n h
  · intro h
    have : ∀ n, n < 123 → 97 ≤ n → n ∈ abcL := by decide
    exact this n (by omega) h.1
/-- all letters' counts together -/
def known (z : Str) (L : List Nat) : Int := (L.map fun c => Txt.count z ⟨#[c]⟩).sum
theorem known_eq (z : Str) : known z abcL = (z.cps.toList.countP isLow : Nat) := by
  unfold known
  have e : (abcL.map fun c => Txt.count z ⟨#[c]⟩) = abcL.map fun c => cnt c z.cps.toList := List.map_congr_left fun c _ => count_cnt z c
  rw [e, cnt_sum abcL (by decide)]
  congr 2
  funext n
  rw [Bool.eq_iff_iff, decide_eq_true_eq, mem_abc]
theorem due_eq (z : Str) : (decide (known z abcL = (z.cps.size : Int)) && (decide ((0 : Int) < known z abcL) && decide (known z abcL < 9))) = nameB z := by
  rw [known_eq]
  unfold nameB
  have hz : z.cps.size = z.cps.toList.length := by simp
  have hle := List.countP_le_length (p := isLow) (l := z.cps.toList)
  by_cases h : z.cps.toList.countP isLow = z.cps.toList.length
  · have ha : z.cps.toList.all isLow = true := by
      rw [List.all_eq_true]
      exact List.countP_eq_length.mp h
    rw [ha, h, hz]
    generalize z.cps.toList.length = n
    rw [Bool.and_true, decide_eq_true (show (n : Int) = (n : Int) from rfl), Bool.true_and]
    have e1 : decide ((0 : Int) < (n : Int)) = decide (1 ≤ n) := decide_eq_decide.mpr (by omega)
    have e2 : decide ((n : Int) < 9) = decide (n ≤ 8) := decide_eq_decide.mpr (by omega)
    rw [e1, e2]
  · have ha : z.cps.toList.all isLow = false := by
      rw [Bool.eq_false_iff]
      intro q
      rw [List.all_eq_true] at q
      exact h (List.countP_eq_length.mpr q)
    rw [ha, Bool.and_false, decide_eq_false (by omega), Bool.false_and]
theorem known_step (z : Str) {L : List Nat} {i c : Nat} (h : L[i]? = some c) : known z (L.take (i + 1)) = known z (L.take i) + Txt.count z ⟨#[c]⟩ := by
  unfold known
  have e : (L.map fun c => Txt.count z ⟨#[c]⟩)[i]? = some (Txt.count z ⟨#[c]⟩) := by rw [List.getElem?_map, h]; rfl
  rw [List.map_take, List.map_take, sum_take e]
end Mx

set_option maxRecDepth 100000
set_option maxHeartbeats 4000000
namespace Mx
open PySem PySem.Spec PyProof.Rows L2 Gx
/-! ### the order of texts -/
/-- a is not behind b -/
def leS (a b : Str) : Prop := ¬ b.cps.toList < a.cps.toList
theorem leS_iff (a b : Str) : leS a b ↔ ltCps b.cps.toList a.cps.toList = false := by
  rw [ltCps_eq, decide_eq_false_iff_not]
  exact Iff.rfl
theorem leS_anti {a b : Str} (h1 : leS a b) (h2 : leS b a) : a = b := by
  have e : a.cps.toList = b.cps.toList := List.le_antisymm (as := a.cps.toList) (bs := b.cps.toList) h1 h2
  cases a
  cases b
  simp only [Str.mk.injEq]
  exact Array.toList_inj.mp e
theorem leS_refl (a : Str) : leS a a := List.lt_irrefl _
theorem leS_trans {a b c : Str} (h1 : leS a b) (h2 : leS b c) : leS a c :=
  List.le_trans (l₁ := a.cps.toList) (l₂ := b.cps.toList) (l₃ := c.cps.toList) h1 h2
theorem leS_total (a b : Str) : leS a b ∨ leS b a := List.le_total a.cps.toList b.cps.toList
theorem risingS_iff : ∀ (l : List Str) (p : Str), risingS p l = true ↔ (p :: l).Pairwise leS
  | [], p => by simp [risingS]
  | x :: r, p => by
    rw [risingS, Bool.and_eq_true, risingS_iff r x, Bool.not_eq_true', ← leS_iff]
    constructor
    · rintro ⟨h1, h2⟩
      refine List.pairwise_cons.mpr ⟨fun y hy => ?_, h2⟩
      rcases List.mem_cons.mp hy with rfl | hy
      · exact h1
      · exact leS_trans h1 ((List.pairwise_cons.mp h2).1 y hy)
    · intro h
      obtain ⟨h1, h2⟩ := List.pairwise_cons.mp h
      exact ⟨h1 x (List.mem_cons_self ..), h2⟩
theorem sortedS_iff (l : List Str) : sortedS l = true ↔ l.Pairwise leS := by
  cases l with
  | nil => simp [sortedS]
  | cons x r => exact risingS_iff r x
theorem sortedS_unique {l m : List Str} (h : l.Perm m) (hl : sortedS l = true) (hm : sortedS m = true) : l = m :=
  List.Perm.eq_of_pairwise (fun _ _ _ _ => leS_anti) ((sortedS_iff l).mp hl) ((sortedS_iff m).mp hm) h
/-- a list of texts is what sorting makes of it just if it is sorted -/
theorem eq_sorted_iff {l m : List Str} (h : m.Perm l) (hm : sortedS m = true) : decide (l = m) = sortedS l := by
  cases e : sortedS l with
  | true => exact decide_eq_true (sortedS_unique h.symm e hm)
  | false => exact decide_eq_false fun q => by rw [q, hm] at e; cases e
/-! ### data of texts -/
def tD (xs : List Str) : List PyData := xs.map PyData.str
theorem eqv_texts : ∀ xs ys : List Str, PyData.eqvAll (tD xs) (tD ys) = decide (xs = ys)
  | [], [] => by simp [tD, PyData.eqvAll]
  | [], y :: ys => by simp [tD, PyData.eqvAll]
  | x :: xs, [] => by simp [tD, PyData.eqvAll]
  | x :: xs, y :: ys => by
    have ih := eqv_texts xs ys
    unfold tD at ih ⊢
    rw [List.map_cons, List.map_cons, PyData.eqvAll, ih, PyData.eqv]
    by_cases h : x = y
    · subst h
      by_cases h2 : xs = ys
      · subst h2
        simp
      · rw [decide_eq_false h2, Bool.and_false, decide_eq_false fun q => h2 (List.cons.inj q).2]
    · rw [decide_eq_false fun q => h (List.cons.inj q).1, beq_eq_false_iff_ne.mpr h, Bool.false_and]
theorem dp_texts {K : PySem.W.Frag} {H : Hp} : ∀ xs : List Str, DpAll K H (xs.map V.str) (tD xs)
  | [] => .nil
  | x :: xs => .cons (.str x) (dp_texts xs)
theorem canLay_texts : ∀ xs : List Str, (∀ x ∈ xs, PyData.strOk x = true) → PyData.canLayAll0 (tD xs) = true
  | [], _ => by simp [tD, PyData.canLayAll0]
  | x :: xs, h => by
    have ih := canLay_texts xs fun y hy => h y (List.mem_cons_of_mem _ hy)
    unfold tD at ih ⊢
    rw [List.map_cons, PyData.canLayAll0, ih, PyData.canLay0, h x (List.mem_cons_self ..)]
    rfl
theorem depth_texts : ∀ xs : List Str, PyData.depthAll (tD xs) ≤ 1
  | [] => by simp [tD, PyData.depthAll]
  | x :: xs => by
    have ih := depth_texts xs
    unfold tD at ih ⊢
    rw [List.map_cons, PyData.depthAll]
    simp only [PyData.depth]
    omega
theorem shaped_texts {xs : List Str} (h : ∀ x ∈ xs, PyData.strOk x = true) : SeqAt.shaped (.list (tD xs)) = true := by
  unfold SeqAt.shaped
  rw [Bool.and_eq_true]
  refine ⟨by simp only [PyData.canLay0]; exact canLay_texts xs h, decide_eq_true ?_⟩
  have := depth_texts xs
  simp only [PyData.depth]
  omega
theorem shaped_textsT {xs : List Str} (h : ∀ x ∈ xs, PyData.strOk x = true) : SeqAt.shaped (.tuple (tD xs)) = true := by
  unfold SeqAt.shaped
  rw [Bool.and_eq_true]
  refine ⟨by simp only [PyData.canLay0]; exact canLay_texts xs h, decide_eq_true ?_⟩
  have := depth_texts xs
  simp only [PyData.depth]
  omega
end Mx

set_option maxRecDepth 100000
set_option maxHeartbeats 4000000
namespace Gx
open PySem PySem.Spec PyProof.Rows L2 SeqAt
open AutoSeq1 (wpAny_loadPart')
/-! ### a dict is no tuple -/
theorem tup_eq_dict (l b : Addr) (items : Array Value) (n : Nat) (dd dd2 : Option Addr) (sl sl2 : Array (Option Value)) (d2 : Data) :
    Meets (Builtin.«tuple.__eq__» ⟨[.ref l, .ref b], []⟩) (fun _ R s => s.heap.get? l = some { cls := .type "tuple", dict := dd, data := .seq items n, slots := sl } ∧ s.heap.get? b = some { cls := .type "dict", dict := dd2, data := d2, slots := sl2 } ∧ R (.ok (.ret .notImplemented)) s) :=
  .of_wp fun prog w A R s h => by obtain ⟨hp, g, d, tk, os⟩ := s; obtain ⟨hl, hb, h⟩ := h; have f1 := F.sub_dict_tuple; wp_walk using wpAny_loadPart' hl, wpAny_loadPart' hb; exact ⟨_, rfl, h⟩
theorem dict_eq_tup {prog : Program} {w : World} {A : Around} {E : Value → Shared → Prop} {s : Shared} {Q : Value → Shared → Prop} {a b : Addr} (da : s.TypeIs (.ref a) "dict") (hb : s.TypeIs (.ref b) "tuple") (h : Q .notImplemented s) :
    wpAny (model prog w) A (call (.builtin "dict.__eq__") [.ref a, .ref b]) Q E s := by
  refine wpAny_call_entry PySem.F.slot_dict_eq da PySem.F.entry_dict_eq ?_ (PySem.F.args_dict_eq_2 _ _)
  show wpAny _ _ (Builtin.Dict.dictSlotArgs "__eq__" ⟨[.ref a, .ref b], []⟩ >>= _) _ _ s
  refine wpAny_bind ?_
  unfold Builtin.Dict.dictSlotArgs
  refine wpAny_bind (wpAny_notOrdered_dict da ?_)
  show wpAny _ _ (pure (Value.ref a, Value.ref b)) _ _ s
  refine wpAny_pure ?_
  refine wpAny_bind (wpAny_isInstance (T := "tuple") hb PySem.F.sub_tuple_dict ?_)
  simp only [Bool.not_false, if_true]
  exact wpAny_bind (wpAny_rule (wpAny_bind (wpAny_pure (wpAny_pure ⟨_, rfl, h⟩))))
section
variable {A : Around} {s : Shared}
theorem eqAt_tup_dict {l b : Addr} {items : Array Value} {ob : Obj} (hl : s.heap.IsTuple l items) (hb : s.heap.get? b = some ob) (hcb : ob.cls = .type "dict") (hu : A.units < cLine) : EqAt A s (.ref l) (.ref b) false := by
  obtain ⟨⟨cls, dd, data, sl⟩, ho, hc, n, hd⟩ := id hl
  simp only at hc hd
  subst hc hd
  obtain ⟨cls2, dd2, data2, sl2⟩ := ob
  simp only at hcb
  subst hcb
  have hne : l ≠ b := fun e => by
    subst e
    rw [ho] at hb
    exact absurd (congrArg Obj.cls (Option.some.inj hb)) (by simp)
  refine .of_refs hne fun prog w E Q h => ?_
  exact rc_eq_decline_or (k := false) ⟨_, ho, rfl⟩ ⟨_, hb, rfl⟩ (by decide) F.sub_dict_tuple F.slot_tuple_eq F.slot_dict_eq_refl
    (fun _ hq => call_meets F.slot_tuple_eq ⟨_, ho, rfl⟩ F.entry_tuple_eq (F.args_tuple_eq_2 _ _) (tup_eq_dict l b items n dd dd2 sl sl2 data2) ⟨ho, hb, hq⟩)
    (fun _ hq => dict_eq_tup ⟨_, hb, rfl⟩ ⟨_, ho, rfl⟩ hq)
    (fun _ hq => wpAny_isSame_ref_other' hne ho hb (by simp) hq) (.inr hu) h
end
section
variable {X : Cx}
/-- x in a list, data that are not deep -/
def rInF (K : PySem.W.Frag) : R2 := fun x y H Q => ∃ d ds, Dp K H x d ∧ Dp K H y (.list ds) ∧ d.canLay0 = true ∧ PyData.canLayAll0 ds = true ∧ d.depth ≤ 10 ∧ Q (.bl (ds.any fun z => PyData.eqv z d)) H
theorem op_inF (hu : X.A.units + 64 < cLine) : OpR X (compareOp .In) (rInF X.K) := by
  intro pins s σ H x y v u Q I rx ry h
  obtain ⟨d, ds, hd, he, sd, se, dp, q⟩ := h
  obtain ⟨as, r1⟩ := Dp.reads I d x v hd rx
  obtain ⟨bs, r2⟩ := Dp.reads I (.list ds) y u he ry
  exact SeqAt.in_list_reads r2 r1 se sd (by omega) ⟨.bl _, H, I, rfl, q⟩
/-- a dict in a list of tuples: it is not in it -/
def rInDict (K : PySem.W.Frag) : R2 := fun x y H Q => ∃ (a l : Addr) (kvs : List (Key × V)) (ps : List Addr), x = .ref a ∧ H a = some (.dK kvs) ∧ y = .ref l ∧ SqL K H l (ps.map V.ref) ∧ (∀ p ∈ ps, ∃ xs, SqT K H p xs) ∧ Q (.bl false) H
theorem op_inDict (hu : X.A.units + 64 < cLine) : OpR X (compareOp .In) (rInDict X.K) := by
  intro pins s σ H x y v u Q I rx ry h
  obtain ⟨a, l, kvs, ps, rfl, ea, rfl, hl, hp, q⟩ := h
  cases rx
  cases ry
  obtain ⟨its, rv, pl, hz⟩ := I.list hl
  have ei := refs_at rv
  subst ei
  obtain ⟨_, _, vs, _, hd⟩ := dk_of I.hok ea
  obtain ⟨ob, hb, hD⟩ := Heap.dictOf_iff.mp hd
  have hcb : ob.cls = .type "dict" := by
    obtain ⟨es, ep, ex, _⟩ := hD
    exact ex.1
  refine SeqAt.in_listAt (fun _ => false) pl.isList (fun y hy => ?_) ⟨.bl false, H, I, ?_, q⟩
  · rw [List.mem_toArray] at hy
    obtain ⟨p, hpm, rfl⟩ := List.mem_map.mp hy
    obtain ⟨xs, hx⟩ := hp p hpm
    obtain ⟨its2, _, ht, _⟩ := I.tuple hx
    exact eqAt_tup_dict ht hb hcb (by show X.A.units + 1 < cLine; omega)
  · show Value.bool _ = Value.bool false
    rw [Array.any_eq_false' |>.mpr (fun _ _ => by simp)]
end
end Gx

set_option maxRecDepth 100000
set_option maxHeartbeats 4000000
/-! own errors over a built-in error that takes another's maker (KeyError takes LookupError's) -/
namespace Gx
open PySem PySem.Spec PySem.Calls Builtin
/-- what making asks of the chain -/
structure Chn (B : String) (bm : List Value) : Prop where
  own : bm.contains (.type B) = true
  att : bm.contains (.type "AttributeError") = false
  nam : bm.contains (.type "NameError") = false
section
variable {M : Model} {prog : Program} {w : World} {A : Around} {E : Value → Shared → Prop} {R : Result → Shared → Prop} {hp : Heap} {gn : Array GenState} {dr : Drawn} {tk : Nat} {os : OsState}
variable {nm q : Str} {C N : Addr} {bs bm bmB : List Value} {hdct : Bool} {sn : List Str} {sub : List Value} {ab : Bool} {col : Option Bool} {dd : Option Addr} {k0 k1 k2 k3 k5 : Option Value} {B mk ini : String}
theorem kx_check (F : ExcBaseFacts B mk ini bmB) (ch : Chn B bm) {us : List Value} {Q : Unit → Shared → Prop} (cc : hp.get? C = some (excClassObj nm q C N bs bm hdct sn sub ab col dd k0 k1 k2 k3 k5 mk)) (hq : Q () ⟨hp, gn, dr, tk, os⟩) :
    wpAny M A (checkBuiltinCall mk ⟨.ref C :: us, []⟩) Q E ⟨hp, gn, dr, tk, os⟩ := by
  have c1 : (Value.ref C :: bm).contains (.type B) = true := by rw [List.contains_cons, ch.own, Bool.or_true]
  have st := F.noStar
  simp only [F.newRow, F.newSplit, F.newKind, checkBuiltinCall]
  repeat (first | refine wpAny_loadPart_at cc ?_ | (refine wpAny_isSubtype_exc cc ?_; rw [c1]) | refine wpAny_staticBase_exc cc ?_ | refine wpAny_madeBy_exc cc ?_ | simp only [bne_self_eq_false, Bool.false_eq_true, if_false] | wp_step)
  exact hq
theorem kx_new (F : ExcBaseFacts B mk ini bmB) (ch : Chn B bm) {us : List Value} (cc : hp.get? C = some (excClassObj nm q C N bs bm hdct sn sub ab col dd k0 k1 k2 k3 k5 mk))
    (hq : R (.ok (.ret (.ref (hp.objs.size + 1)))) ⟨(hp.push (W.kdv_tup us)).push (W.excObj C hp.objs.size none .none), gn, dr, tk, os⟩) (hz : us.length ≤ sizeLine) :
    codeAny (model prog w) A (.builtin mk ⟨.ref C :: us, []⟩) R ⟨hp, gn, dr, tk, os⟩ := by
  have fe := F.ends
  have c1 : (Value.ref C :: bm).contains (.type B) = true := by rw [List.contains_cons, ch.own, Bool.or_true]
  have c2 : (Value.ref C :: bm).contains (.type "AttributeError") = false := by rw [List.contains_cons, ch.att]; rfl
  have c3 : (Value.ref C :: bm).contains (.type "NameError") = false := by rw [List.contains_cons, ch.nam]; rfl
  refine codeAny_builtinAt F.entry ?_
  unfold Builtin.«BaseException.__new__»
  refine wpAt_bind ?_
  show wpAt _ _ _ (stack >>= _) _ _ _
  refine wpAt_bind (wpAt_stack fun p0 low => wpAt_of_wpAny ?_)
  wp_walk
  refine wpAt_of_wpAny ?_
  rw [F.owner]
  repeat (first | with_reducible refine wpAny_madeHere_exc F.canon cc ?_ | with_reducible refine wpAny_loadPart_at cc ?_ | (with_reducible refine wpAny_isSubtype_exc cc ?_; first | rw [c1] | rw [c2] | rw [c3]) | wp_step)
  show R _ _
  rw [Heap.size_push]
  exact hq
theorem kx_type (F : ExcBaseFacts B mk ini bmB) (ch : Chn B bm) {us : List Value} {fI : Addr} {Q : Fin → Shared → Prop} (cc : hp.get? C = some (excClassObj nm q C N bs bm hdct sn sub ab col dd k0 k1 k2 k3 k5 mk))
    (li : W.Looks (model prog w) hp (typeLookup (.ref C) "__init__") (some (.ref fI))) (lb : ∀ o, W.Looks (model prog w) hp (bindSpecial (.ref fI) o) (.ref fI, [o])) (hz : us.length ≤ sizeLine)
    (hq : codeAny (model prog w) A (.call (.ref fI) ⟨.ref (hp.objs.size + 1) :: us, []⟩)
      (fun r s' => match r with | .ok (.ret v) => v = .none ∧ Q (.done (.ret (.ref (hp.objs.size + 1)))) s' | .ok _ => False | .error e => E e s')
      ⟨(hp.push (W.kdv_tup us)).push (W.excObj C hp.objs.size none .none), gn, dr, tk, os⟩) : wpAny (model prog w) A (Builtin.«type.__call__» ⟨.ref C :: us, []⟩) Q E ⟨hp, gn, dr, tk, os⟩ := by
  repeat (first | with_reducible refine wpAny_loadPart_at cc ?_ | with_reducible refine wpAny_madeBy_exc cc ?_ | wp_step)
  refine codeAny_call_builtin_code (Code.quiet_builtin _ F.quiet) (kx_check F ch cc ?_)
  refine kx_new F ch cc ?_ hz
  show wpAny _ _ _ _ _ _
  have old : ∀ b o, hp.get? b = some o → ((hp.push (W.kdv_tup us)).push (W.excObj C hp.objs.size none .none)).get? b = some o := fun b o e => Heap.get?_push_of_some _ (Heap.get?_push_of_some _ e)
  have cc1 := old _ _ cc
  have ne : ((hp.push (W.kdv_tup us)).push (W.excObj C hp.objs.size none .none)).get? (hp.objs.size + 1) = some (W.excObj C hp.objs.size none .none) := by heap_get
  have cs : (Value.ref C :: bm).contains (.ref C) = true := by simp
  have li1 := li.keeps old
  have lb1 := (lb (.ref (hp.objs.size + 1))).keeps old
  unfold isInstance
  repeat (first | with_reducible refine wpAny_loadPart_at ne ?_ | (with_reducible refine wpAny_isSubtype_exc cc1 ?_; rw [cs]) | wp_step)
  show wpAny _ _ (typeLookup (.ref C) _) _ _ _
  refine li1.at ?_
  refine wpAny_holding (wpAny_bind (lb1.at ?_))
  refine wpAny_bind (wpAny_call (codeAny_mono hq fun r s1 z => ?_))
  rcases r with e | (v | _ | _ | _) <;> first | exact z | exact z.elim | skip
  obtain ⟨rfl, z⟩ := z
  first | exact wpAny_pure (wpAny_pure z) | (wp_walk; exact z)
theorem kx_call (F : ExcBaseFacts B mk ini bmB) (ch : Chn B bm) {us : List Value} {fI : Addr} (cc : hp.get? C = some (excClassObj nm q C N bs bm hdct sn sub ab col dd k0 k1 k2 k3 k5 mk))
    (li : W.Looks (model prog w) hp (typeLookup (.ref C) "__init__") (some (.ref fI))) (lb : ∀ o, W.Looks (model prog w) hp (bindSpecial (.ref fI) o) (.ref fI, [o])) (hz : us.length ≤ sizeLine)
    (hq : codeAny (model prog w) (A.under (.builtin "type.__call__" ⟨.ref C :: us, []⟩)) (.call (.ref fI) ⟨.ref (hp.objs.size + 1) :: us, []⟩) (W.InitBack (hp.objs.size + 1) R)
      ⟨(hp.push (W.kdv_tup us)).push (W.excObj C hp.objs.size none .none), gn, dr, tk, os⟩) : codeAny (model prog w) A (.call (.ref C) ⟨us, []⟩) R ⟨hp, gn, dr, tk, os⟩ := by
  have t1 := tc_lookup
  have t2 := tc_bind (.ref C)
  have t3 : (⟨hp, gn, dr, tk, os⟩ : Shared).TypeIs (.ref C) "type" := ⟨_, cc, rfl⟩
  refine codeAny_of_tree ?_
  show wpAny _ _ (callAny (.ref C) _) _ _ _
  repeat (any_goals (first | assumption | with_reducible refine wpAny_loadPart_at cc ?_ | wp_step))
  refine ⟨rfl, ?_⟩
  refine codeAny_call_builtin_at (Code.quiet_builtin _ (by decide +kernel)) entry_typeCall (wpAny_check_type_call_sub cc (kx_type F ch cc li lb hz ?_))
  refine codeAny_mono hq fun r s1 z => ?_
  rcases r with e | (v | _ | _ | _) <;> exact z
end
end Gx
namespace Gx
open PySem PySem.Spec PySem.W PySem.Calls PyProof.Rows L2
/-! ### own errors with one field, made, over any base -/
/-- a base: the maker's facts, and what each chain over it holds -/
structure XBase (B mk ini : String) (bmF bmB : List Value) : Prop where
  F : ExcBaseFacts B mk ini bmF
  ch : ∀ bm : List Value, excTail bmB bm = true → Chn B bm
theorem xbase_of {B mk ini : String} {bmB : List Value} (F : ExcBaseFacts B mk ini bmB) : XBase B mk ini bmB bmB :=
  ⟨F, fun bm t => ⟨by rw [excTail_contains _ bm t]; exact F.hasB, by rw [excTail_contains _ bm t]; exact F.noAttr, by rw [excTail_contains _ bm t]; exact F.noName⟩⟩
abbrev bmKey : List Value := [.type "KeyError", .type "LookupError", .type "Exception", .type "BaseException", .type "object"]
theorem xbase_KeyError : XBase "LookupError" "LookupError.__new__" "LookupError.__init__" [.type "LookupError", .type "Exception", .type "BaseException", .type "object"] bmKey :=
  ⟨PySem.F.excBase_LookupError, fun bm t => ⟨by rw [excTail_contains _ bm t]; decide +kernel, by rw [excTail_contains _ bm t]; decide +kernel, by rw [excTail_contains _ bm t]; decide +kernel⟩⟩
section
variable {prog : Program} {w : World} {A : Around} {R : Result → Shared → Prop} {s : Shared} {K : Frag} {mg : Str → Option Value} {C fI : Addr} {cn fld : Str} {B mk ini : String} {bmF bmB : List Value}
theorem x_madeC (FB : XBase B mk ini bmF bmB) (T : XTxt K mg cn fld mk bmB C fI) (D : InitDoes K C fI fld) {v : Value} (inK : K.In s.heap) (lim : s.heap.NoLimit) (room : A.depth + 1 < recursionLimit)
    (hq : ∀ h' tk e d, XMade s.heap h' e C d fld v → R (.ok (.ret (.ref e))) { s with heap := h', toks := tk }) : codeAny (model prog w) A (.call (.ref C) ⟨[v], []⟩) R s := by
  obtain ⟨nm, q, N, bs, bm, sn, sub, ab, col, dd, k0, k1, k2, k3, k5, hC, tail⟩ := T.cls
  obtain ⟨hp, g, dr, tk, os⟩ := s
  have stay : ∀ b o, hp.get? b = some o → ((hp.push (kdv_tup [v])).push (excObj C hp.objs.size none .none)).get? b = some o := fun b o e => Heap.get?_push_of_some _ (Heap.get?_push_of_some _ e)
  have there : ((hp.push (kdv_tup [v])).push (excObj C hp.objs.size none .none)).get? (hp.objs.size + 1) = some (excObj C hp.objs.size none .none) := by heap_get
  have fresh : K.lookup (hp.objs.size + 1) = none := by
    cases e : K.lookup (hp.objs.size + 1) with
    | none => rfl
    | some o => exact absurd (Nat.lt_of_succ_lt (Heap.lt_size (inK _ _ e))) (Nat.lt_irrefl _)
  refine kx_call FB.F (FB.ch bm tail) (inK _ _ hC) (looks_findIn inK T.iC) (fun self => bind_fn inK self T.tC) (one_line v) ?_
  refine D prog w _ _ ⟨(hp.push (kdv_tup [v])).push (excObj C hp.objs.size none .none), g, dr, tk, os⟩ _ _ v (inK.keeps stay) (lim.keeps stay) there fresh room fun h' tk' dx M => ?_
  have old : ∀ b o, hp.get? b = some o → h'.get? b = some o := fun b o e => M.keep b o (Nat.ne_of_lt (Nat.lt_succ_of_lt (Heap.lt_size e))) (stay b o e)
  have z : hp.objs.size + 1 + 1 ≤ dx := by
    have q := M.big
    first
      | exact q
      | simpa only [Heap.size_push] using q
  exact ⟨rfl, hq h' tk' (hp.objs.size + 1) dx ⟨old, Nat.le_succ _, ⟨_, _, M.obj, rfl, rfl, rfl, rfl⟩, Nat.le_trans (Nat.le_trans (Nat.le_succ _) (Nat.le_succ _)) z, M.ne, M.ns⟩⟩
end
/-! ### errors as values -/
/-- the error at e, of the class C, its dict at d -/
def ExV (C e : Addr) (d : Option Addr) : HO := .ext fun h => ∃ (oe : Obj) (vs : Array Value), h.get? e = some oe ∧ oe.cls = .ref C ∧ oe.dict = d ∧ oe.data = .fields vs
theorem exV_ok {P : Program} {w : World} {H : Hp} {h : Heap} {C e : Addr} {d : Option Addr} {oe : Obj} {vs : Array Value} (he : h.get? e = some oe) (hc : oe.cls = .ref C) (hd : oe.dict = d) (hf : oe.data = .fields vs) : ObjOk P w H h e (ExV C e d) :=
  ⟨⟨oe, vs, he, hc, hd, hf⟩, ⟨oe, he⟩, fun h1 h2 ⟨o, us, a, b, c, f⟩ k => ⟨o, us, k _ a, b, c, f⟩⟩
theorem exV_at {P : Program} {w : World} {H : Hp} {h : Heap} {C e : Addr} {d : Option Addr} (ok : HOk P w H h) (he : H e = some (ExV C e d)) : ∃ (oe : Obj) (vs : Array Value), h.get? e = some oe ∧ oe.cls = .ref C ∧ oe.dict = d ∧ oe.data = .fields vs :=
  (show ObjOk P w H h e (ExV C e d) from ok e _ he).1
section
variable {X : Cx} {C fI : Addr} {cn fld : Str} {B mk ini : String} {bmF bmB : List Value}
/-- cn(e), the error kept -/
def tMkV (C : Addr) (fld : Str) (ta : TA) : TE := fun σ H Q => ta σ H fun vs H1 => ∃ v, vs = [v] ∧ ∀ d e, H1 d = none → H1 e = none → e ≠ d → Q (.ref e) (upd (upd H1 d (.xd [(fld, v)])) e (ExV C e (some d)))
theorem pe_mkV {a : Expr} {ta : TA} {p pos : Pos} {k : Nat} (FB : XBase B mk ini bmF bmB) (T : XTxt X.K X.mg cn fld mk bmB C fI) (D : InitDoes X.K C fI fld) (room : Room k X.A) (ha : PA X [a] ta) (hg : Gl X cn)
    (hdb : (cn == ("__debug__" : Str)) = false := by decide) (hst : starEach (a :: []) X.env = (false, eval a X.env) :: starEach [] X.env := by rfl) (hpl : (backTo pos (starEach [] X.env)).any (·.1) = false := by rfl) :
    PE X (.Call (.Name cn p) [a] [] pos) (tMkV C fld ta) := by
  refine ⟨fun pins s σ H Q I h => ?_⟩
  refine wpAny_Call_Name_kw (ld_glob I hg T.gC ?_ hdb)
  refine PySem.W.callWith_K (h₀ := X.base) I.ok.mod.kin T.kC (thn (ha.run pos pins s σ H _ I h) ?_) hst hpl
  rintro us s1 ⟨vs, H1, I1, r1, v, rfl, q1⟩
  refine ⟨I1.kIn, ?_⟩
  obtain ⟨u, rfl, rv⟩ := vals1 r1
  show wpAny _ _ (call (.ref C) [u]) _ _ _
  have lim := I1.nolimit
  obtain ⟨hp, g, dr, tk, os⟩ := s1
  refine wpAny_call (x_madeC FB T D I1.kIn lim (by have := room.dp; omega) fun h' tk' e d M => ?_)
  obtain ⟨oe, fv, hoe, hc, hd, hdat, h1⟩ := M.obj
  obtain ⟨G', g1, g2⟩ := restrict h' fun b => decide (b ≠ e)
  have off : ∀ b, b ≠ e → G'.get? b = h'.get? b := fun b hb => g1 b (decide_eq_true hb)
  have gone : G'.get? e = none := g2 e (by simp)
  have old : ∀ b o, hp.get? b = some o → G'.get? b = some o := fun b o q => (off b (Nat.ne_of_lt (Nat.lt_of_lt_of_le (Heap.lt_size q) M.new))).trans (M.keep b o q)
  have ob : ObjOk X.prog X.w (upd H1 d (.xd [(fld, v)])) G' d (.xd [(fld, v)]) := ⟨_, M.ns.at (fun o q => (off d M.ne).trans q), fun f => relO_one rv f⟩
  have J : Inv X pins σ (upd H1 d (.xd [(fld, v)])) ⟨G', g, dr, tk', os⟩ := I1.laid (t' := tk') old M.big ob
  have ne0 : H1 e = none := I1.hok.fresh M.new
  have J2 := J.laidN (h' := h') (t' := tk') (o := ExV C e (some d)) (fun b o q => by
    by_cases hb : b = e
    · have q' : G'.get? b = some o := q
      rw [hb, gone] at q'
      cases q'
    · exact (off b hb).symm.trans q) gone (by rw [upd_ne (Ne.symm M.ne)]; exact ne0) (exV_ok hoe hc hd hdat)
  exact ⟨.ref e, _, J2, rfl, q1 d e (I1.hok.fresh M.big) ne0 (Ne.symm M.ne)⟩
end
end Gx

set_option maxRecDepth 100000
set_option maxHeartbeats 4000000
namespace Gx
open PySem PySem.Spec PySem.W PySem.Calls PyProof.Rows L2
/-! ### own errors without an __init__ of their own, as values -/
/-- what the written part says of such a class -/
structure XPln (K : Frag) (mg : Str → Option Value) (cn : Str) (mk ini : String) (bmB : List Value) (C : Addr) : Prop where
  gC : mg cn = some (.ref C)
  cls : ∃ nm q N bs bm hd sn sub ab col dd k0 k1 k2 k3 k5, K.lookup C = some (excClassObj nm q C N bs bm hd sn sub ab col dd k0 k1 k2 k3 k5 mk) ∧ excTail bmB bm = true
  iC : findIn K (.ref C) "__init__" = some (some (.builtin ini))
  kC : keepIn K (.ref C) = true
/-- .. of any own class of errors, for isinstance -/
structure XCls (K : Frag) (C : Addr) : Prop where
  isC : isClsIn K C = true
  ga : findIn K (.ref C) "__getattribute__" = some (some (.builtin "BaseException.__getattribute__"))
  gg : findIn K (.ref C) "__getattr__" = some none
  ex : subIn K (.ref C) (.type "BaseException") = some true
  cl : findIn K (.ref C) "__class__" = some (some (.builtin "object.__class__"))
  sp : specialIn K (.builtin "object.__class__") "__get__" = some (some (.builtin "getset_descriptor.__get__"))
  ta : takesIn K (.builtin "object.__class__") = some true
  ob : mroIn K C (.type "object") = some true
section
variable {X : Cx} {C : Addr} {cn : Str} {B mk ini : String} {bmB : List Value}
def tMkP (C : Addr) (ta : TA) : TE := fun σ H Q => ta σ H fun vs H1 => vs.length ≤ 1000 ∧ ∀ e, H1 e = none → Q (.ref e) (upd H1 e (ExV C e none))
theorem pe_mkP {a : Expr} {ta : TA} {p pos : Pos} (F : ExcBaseFacts B mk ini bmB) (T : XPln X.K X.mg cn mk ini bmB C) (ha : PA X [a] ta) (hg : Gl X cn)
    (hdb : (cn == ("__debug__" : Str)) = false := by decide) (hst : starEach (a :: []) X.env = (false, eval a X.env) :: starEach [] X.env := by rfl) (hpl : (backTo pos (starEach [] X.env)).any (·.1) = false := by rfl) :
    PE X (.Call (.Name cn p) [a] [] pos) (tMkP C ta) := by
  refine ⟨fun pins s σ H Q I h => ?_⟩
  refine wpAny_Call_Name_kw (ld_glob I hg T.gC ?_ hdb)
  refine PySem.W.callWith_K (h₀ := X.base) I.ok.mod.kin T.kC (thn (ha.run pos pins s σ H _ I h) ?_) hst hpl
  rintro us s1 ⟨vs, H1, I1, r1, hz, q1⟩
  refine ⟨I1.kIn, ?_⟩
  obtain ⟨nm, q, N, bs, bm, hd, sn, sub, ab, col, dd, k0, k1, k2, k3, k5, hC, tail⟩ := T.cls
  have hl : us.length ≤ sizeLine := by
    rw [← r1.length]
    exact Nat.le_trans hz (by decide)
  obtain ⟨hp, g, dr, tk, os⟩ := s1
  refine PySem.W.call_B F (fun Y => excTail_contains Y bm tail) (I1.kIn _ _ hC) (looks_findIn I1.kIn T.iC) hl fun h' k he ht => ?_
  have fr := I1.hok.fresh (Nat.le_succ hp.objs.size)
  exact ⟨.ref (hp.objs.size + 1), _, I1.laid (t' := tk) k (Nat.le_succ _) (exV_ok he rfl rfl rfl), rfl, q1 _ fr⟩
end
/-- the error at e stands, with its dict if it has one -/
def ExAt (H : Hp) (e C : Addr) (d : Option Addr) (fs : List (Str × V)) : Prop := H e = some (ExV C e d) ∧ ∀ dd, d = some dd → H dd = some (.xd fs)
section
variable {X : Cx} {pins : List (Addr × Obj)} {σ : L2.St} {H : Hp} {s : Shared}
theorem exAt_inst {e C : Addr} {d : Option Addr} {fs : List (Str × V)} (I : Inv X pins σ H s) (h : ExAt H e C d fs) : ∃ (oe : Obj) (od : Option Obj), PySem.W.InstAt s.heap e oe C od := by
  obtain ⟨h1, h2⟩ := h
  obtain ⟨oe, vs, he, hc, hd, hf⟩ := exV_at I.hok h1
  have nc : PySem.W.notCls oe = true := by unfold PySem.W.notCls; rw [hf] <;> rfl
  cases d with
  | none => exact ⟨oe, none, he, hc, nc, by rw [hd]; trivial⟩
  | some dd =>
    obtain ⟨mA, hns, _⟩ := (show ObjOk X.prog X.w H s.heap dd (.xd fs) from I.hok dd _ (h2 dd rfl))
    obtain ⟨od, ho, _⟩ := lookIn_ns hns
    exact ⟨oe, some od, he, hc, nc, by rw [hd]; exact ho⟩
end
/-- isinstance(e, c), e an own error -/
def rIsV (K : PySem.W.Frag) : List V → Hp → VK → Prop := fun xs H Q => ∃ (e C : Addr) (d : Option Addr) (fs : List (Str × V)) (c : V) (u : Value) (b : Bool), xs = [.ref e, c] ∧ ExAt H e C d fs ∧ XCls K C ∧ ClsV c u ∧ PySem.W.kitOne K (.ref C) u = some b ∧ Q (.bl b) H
section
variable {X : Cx}
theorem call_isV : CallR X (.builtin "isinstance") (rIsV X.K) := by
  intro pins s σ H xs us Q I r h
  obtain ⟨e, C, d, fs, c, u, b, rfl, hx, T, k, hb, q⟩ := h
  obtain ⟨u1, u2, rfl, r1, r2⟩ := vals2 r
  have e2 := k.eq r2
  subst e2
  cases (show u1 = Value.ref e from r1)
  obtain ⟨oe, od, J⟩ := exAt_inst I hx
  exact PySem.W.kia_one (PySem.W.kitx_exc (ox := oe) (od := od) T.isC T.ga T.gg T.ex T.cl T.sp T.ta T.ob) I.kIn J hb (fun z => nomatch z) fun tk => ⟨.bl b, H, I.tok tk, rfl, q⟩
/-- e.fld, e an own error with that field -/
def tGetV (C : Addr) (fld : Str) (te : TE) : TE := fun σ H Q => te σ H fun x H1 => ∃ (e dd : Addr) (v : V), x = .ref e ∧ ExAt H1 e C (some dd) [(fld, v)] ∧ Q v H1
theorem pe_getV {C fI : Addr} {cn fld : Str} {mk : String} {bmB : List Value} {e : Expr} {te : TE} {pos : Pos} (T : XTxt X.K X.mg cn fld mk bmB C fI) (he : PE X e te)
    (hb : attributeBase e fld X.env (eval e X.env) = eval e X.env := by rfl) : PE X (.Attribute e fld pos) (tGetV C fld te) := by
  constructor
  intro pins s σ H Q I h
  refine attr_of hb (thn (he.run pins s σ H _ I h) ?_)
  rintro u s1 ⟨x, H1, I1, rx, e1, dd, v, rfl, ⟨h1, h2⟩, q⟩
  obtain rfl : u = Value.ref e1 := rx
  obtain ⟨oe, vs, here, hc, hd, hf⟩ := exV_at I1.hok h1
  obtain ⟨mA, hns, hr⟩ := (show ObjOk X.prog X.w H1 s1.heap dd (.xd [(fld, v)]) from I1.hok dd _ (h2 dd rfl))
  obtain ⟨od, ho, hl⟩ := lookIn_ns hns
  have l : List.lookup fld [(fld, v)] = some v := by simp [List.lookup]
  have hrf := hr fld
  rw [l] at hrf
  obtain ⟨u, hu, ru⟩ := RelO.some_of (v := v) (o := mA fld) hrf
  have J : PySem.W.InstAt s1.heap e1 oe C (some od) := ⟨here, hc, by unfold PySem.W.notCls; rw [hf] <;> rfl, by rw [hd]; exact ho⟩
  exact HandSPX.exc_get I1.kIn J T.ga T.gg T.exC (PySem.W.findObj_own T.hdC T.noN rfl (by rw [hl, hu])) (handed_of ru) ⟨v, H1, I1.tok _, ru, q⟩
end
end Gx

set_option maxRecDepth 100000
set_option maxHeartbeats 4000000
namespace Gx
open PySem PySem.Spec PySem.W PySem.Calls PyProof.Rows L2
/-! ### stores over KeyError -/
theorem store_KeyErr : StoreFacts "KeyError" bmKey "object.__setattr__" "object" := by
  constructor
  case mro => kernel_rfl
  case slot => exact .of (owner := "object") (n := "__setattr__") (by rw [typeLookup_type, builtinLookup_eq_fast]; kernel_rfl) (by decide +kernel) (by decide +kernel) (by decide +kernel) (.inl (by decide +kernel)) (by rw [isSubtype_type]; kernel_rfl)
  case entry => exact PySem.F.store_LookupError.entry
  case kind => decide +kernel
  case split => decide +kernel
  case hasOwner => decide +kernel
  case args => exact fun a b c => PySem.F.store_LookupError.args a b c
  case passes => exact fun o => by kernel_rfl
/-! ### the table of all errors: who is derived from whom -/
def subC (i j : Nat) : Bool := i == j || (j == 0 && decide (i ≤ 11))
def BS : List String := ["ValueError", "KeyError", "IndexError", "LookupError", "RuntimeError", "OverflowError", "ArithmeticError"]
def subB (i : Nat) (b : String) : Bool :=
  if b = "ValueError" then decide (i ≤ 11) else if b = "KeyError" then i == 12 || i == 13 else if b = "IndexError" then i == 15
  else if b = "LookupError" then decide (12 ≤ i) && decide (i ≤ 15) else if b = "RuntimeError" then i == 16 else if b = "OverflowError" then i == 17 else decide (17 ≤ i)
def xclsB (K : Frag) (C : Addr) : Bool :=
  isClsIn K C && (decide (findIn K (.ref C) "__getattribute__" = some (some (.builtin "BaseException.__getattribute__"))) && (decide (findIn K (.ref C) "__getattr__" = some none) && (decide (subIn K (.ref C) (.type "BaseException") = some true) &&
    (decide (findIn K (.ref C) "__class__" = some (some (.builtin "object.__class__"))) && (decide (specialIn K (.builtin "object.__class__") "__get__" = some (some (.builtin "getset_descriptor.__get__"))) &&
    (decide (takesIn K (.builtin "object.__class__") = some true) && decide (mroIn K C (.type "object") = some true)))))))
theorem xclsB_ok {K : Frag} {C : Addr} (h : xclsB K C = true) : XCls K C := by
  unfold xclsB at h
  simp only [Bool.and_eq_true, decide_eq_true_eq] at h
  obtain ⟨a, b, c, d, e, f, g, i⟩ := h
  exact ⟨a, b, c, d, e, f, g, i⟩
def tabB (K : Frag) (cs : List Addr) : Bool := (List.range 20).all fun i => xclsB K (cs.getD i 0) && (((List.range 20).all fun j => decide (kitOne K (.ref (cs.getD i 0)) (.ref (cs.getD j 0)) = some (subC i j))) && (BS.all fun b => decide (kitOne K (.ref (cs.getD i 0)) (.type b) = some (subB i b))))
theorem getD_range (c : Nat → Addr) {i : Nat} (h : i < 20) : ((List.range 20).map c).getD i 0 = c i := by
  rw [List.getD_eq_getElem?_getD, List.getElem?_map, List.getElem?_range h]
  rfl
section
variable {K : Frag} {c : Nat → Addr} (t : tabB K ((List.range 20).map c) = true) {i : Nat} (hi : i < 20)
include t hi
theorem tab_at : xclsB K (c i) = true ∧ (∀ j, j < 20 → kitOne K (.ref (c i)) (.ref (c j)) = some (subC i j)) ∧ ∀ b ∈ BS, kitOne K (.ref (c i)) (.type b) = some (subB i b) := by
  unfold tabB at t
  have h := List.all_eq_true.mp t i (List.mem_range.mpr hi)
  simp only [Bool.and_eq_true, List.all_eq_true, decide_eq_true_eq, List.mem_range] at h
  rw [getD_range c hi] at h
  refine ⟨h.1, fun j hj => ?_, fun b hb => h.2.2 b hb⟩
  have := h.2.1 j hj
  rw [getD_range c hj] at this
  exact this
theorem tab_cls : XCls K (c i) := xclsB_ok (tab_at t hi).1
theorem tab_own {j : Nat} (hj : j < 20) : kitOne K (.ref (c i)) (.ref (c j)) = some (subC i j) := (tab_at t hi).2.1 j hj
theorem tab_blt {b : String} (hb : b ∈ BS) : kitOne K (.ref (c i)) (.type b) = some (subB i b) := (tab_at t hi).2.2 b hb
end
end Gx

set_option maxRecDepth 100000
set_option maxHeartbeats 4000000
namespace Gx
open PySem PySem.Spec PySem.W PySem.Calls PyProof.Rows L2
/-- an own class of errors is caught by its own name -/
theorem exm_own {K : PySem.W.Frag} {S : Addr} (b : PySem.W.subIn K (.ref S) (.type "BaseException") = some true) (i : PySem.W.isClsIn K S = true) (t : PySem.W.typeIn K (.ref S) = some (.type "type")) (s : PySem.W.subIn K (.ref S) (.ref S) = some true) : PySem.W.exmOne K (.ref S) (.ref S) = some true := by
  have i' : (PySem.W.clsIn K S).isSome = true := i
  unfold PySem.W.exmOne PySem.W.kitCls
  simp [b, i', t, s]
section
variable {X : Cx} {C : Addr} {cn : Str} {B mk ini : String} {bmB : List Value}
/-- raise cn(a), an own error without an __init__ of its own -/
def tMkR (C : Addr) (ta : TA) : L2.St → Hp → XK → Prop := fun σ H Q => ta σ H fun vs H1 => vs.length ≤ 1000 ∧ Q (.ref C) none H1
theorem pmk_P {a : Expr} {ta : TA} {p pos : Pos} (F : ExcBaseFacts B mk ini bmB) (T : XPln X.K X.mg cn mk ini bmB C) (XC : XCls X.K C) (ha : PA X [a] ta) (hg : Gl X cn)
    (hdb : (cn == ("__debug__" : Str)) = false := by decide) (hst : starEach (a :: []) X.env = (false, eval a X.env) :: starEach [] X.env := by rfl) (hpl : (backTo pos (starEach [] X.env)).any (·.1) = false := by rfl) :
    PMk X (.Call (.Name cn p) [a] [] pos) (tMkR C ta) := by
  intro pins s σ H Q I h
  refine wpAny_Call_Name_kw (ld_glob I hg T.gC ?_ hdb)
  refine PySem.W.callWith_K (h₀ := X.base) I.ok.mod.kin T.kC (thn (ha.run pos pins s σ H _ I h) ?_) hst hpl
  rintro us s1 ⟨vs, H1, I1, r1, hz, q1⟩
  refine ⟨I1.kIn, ?_⟩
  obtain ⟨nm, q, N, bs, bm, hd, sn, sub, ab, col, dd, k0, k1, k2, k3, k5, hC, tail⟩ := T.cls
  have hl : us.length ≤ sizeLine := by
    rw [← r1.length]
    exact Nat.le_trans hz (by decide)
  have tyC : typeIn X.K (.ref C) = some (.type "type") := by
    show (X.K.lookup C).map (·.cls) = _
    rw [hC]
    rfl
  obtain ⟨hp, g, dr, tk, os⟩ := s1
  refine PySem.W.call_B F (fun Y => excTail_contains Y bm tail) (I1.kIn _ _ hC) (looks_findIn I1.kIn T.iC) hl fun h' k he ht => ?_
  obtain ⟨G', g1, g2⟩ := restrict h' fun b => decide (b ≠ hp.objs.size + 1)
  have off : ∀ b, b ≠ hp.objs.size + 1 → G'.get? b = h'.get? b := fun b hb => g1 b (decide_eq_true hb)
  have gone : G'.get? (hp.objs.size + 1) = none := g2 _ (by simp)
  have old : ∀ b o, hp.get? b = some o → G'.get? b = some o := fun b o q => (off b (Nat.ne_of_lt (Nat.lt_succ_of_lt (Heap.lt_size q)))).trans (k b o q)
  have J : Inv X pins σ H1 ⟨G', g, dr, tk, os⟩ := I1.kept (t' := tk) old
  refine ⟨hp.objs.size + 1, _, _, ⟨G', g, dr, tk, os⟩, H1, .ref C, none, rfl, J, ?_, gone, he, ⟨rfl, rfl⟩, rfl, rfl, I1.hok.fresh (Nat.le_succ _), rfl, I1.bare, raises_own XC.ex tyC, q1⟩
  intro b o q
  have q' : G'.get? b = some o := q
  by_cases hb : b = hp.objs.size + 1
  · rw [hb, gone] at q'
    cases q'
  · exact (off b hb).symm.trans q
end
/-! ### methods that may raise -/
/-- the class at C has a method m that keeps sp, and may raise -/
def CalMX (P : Program) (w : World) (K : PySem.W.Frag) (mg : Str → Option Value) (base : Heap) (C : Addr) (m : Str) (k : Nat) (ps : List Str) (sp : Sp) : Prop :=
  ∃ (f : Addr) (fd : FuncData), FnG P w K mg base (L2.CX P w) k f fd ps sp ∧ Meth K C m f ∧ Binds K fd ps []
theorem DefM.calX {P : Program} {w : World} {K : PySem.W.Frag} {mg : Str → Option Value} {base : Heap} {C : Addr} {m qual : Str} {st : Stmt} {k : Nat} {ps : List Str} {sp : Sp} (d : DefM K C m qual st ps)
    (h : ∀ f fd, Fun K m qual st f fd → FnG P w K mg base (L2.CX P w) k f fd ps sp) : CalMX P w K mg base C m k ps sp := by
  obtain ⟨f, fd, F, me, b, fi⟩ := d
  exact ⟨f, fd, h f fd F, me, b⟩
theorem CalMX.up {P : Program} {w : World} {K : PySem.W.Frag} {mg : Str → Option Value} {base : Heap} {C : Addr} {m : Str} {j k : Nat} {ps : List Str} {sp : Sp} (c : CalMX P w K mg base C m j ps sp) (h : j ≤ k) : CalMX P w K mg base C m k ps sp := by
  obtain ⟨f, fd, F, r⟩ := c
  exact ⟨f, fd, F.up h, r⟩
section
variable {X : Cx} {C : Addr} {m : Str} {k : Nat} {ps : List Str} {sp : Sp} {ta : TE} {t : TA} {o e : Expr} {es : List Expr} {pos apos : Pos} {E : L2.St → XK}
/-- o.m(..), which may raise -/
def tMethX (C : Addr) (m : Str) (sp : Sp) (E : L2.St → XK) (ta : TE) (t : TA) : TE := fun σ H Q => ta σ H fun x H1 => ∃ a dx fs, x = .ref a ∧ H1 a = some (.ins C dx fs) ∧ fs.lookup m = none ∧ t σ H1 fun vs H2 => sp (x :: vs) H2 Q (E σ)
theorem pe_methX {pl : Sem Bool} (he : PE X o ta) (cl : Cls X.K C) (c : CalMX X.prog X.w X.K X.mg X.base C m k ps sp) (g : Gd X.A) (room : Room k X.A) (hx : ∀ σ, PassesAt (L2.CX X.prog X.w) X σ (E σ)) (ha : PA X (e :: es) t)
    (hst : starEach (e :: es) X.env = (false, eval e X.env) :: starEach es X.env := by rfl) (hpl : (backTo pos (starEach es X.env)).any (·.1) = false := by rfl)
    (ht : eval (.Call (.Attribute o m apos) (e :: es) [] pos) X.env = (do
      let ov ← eval o X.env
      standAt apos.atName
      let (f, first) ← holding [ov] (getMethod ov m pl)
      callWith pos f first (backTo pos (starEach (e :: es) X.env)) (backToKw pos (keywordEach [] X.env))) := by rfl) :
    PE X (.Call (.Attribute o m apos) (e :: es) [] pos) (tMethX C m sp E ta t) := by
  obtain ⟨f, fd, F, hm, b⟩ := c
  refine ⟨fun pins s σ H Q I h => ?_⟩
  refine PySem.W.methodCall_KW (pl := pl) (thn (he.run pins s σ H _ I h) fun u s1 ⟨x, H1, I1, rx, a, dx, fs, ex, ea, l, q⟩ => ?_) ht
  subst ex
  obtain rfl : u = Value.ref a := rx
  refine getmeth_ok I1 ea cl hm l ?_
  refine PySem.W.callWith_K (first := [.ref a]) (h₀ := X.base) I.ok.mod.kin hm.kp (thn (ha.run pos pins s1 σ H1 _ I1 q) fun us s2 ⟨vs, H2, I2, r, q2⟩ => ⟨I2.kIn, ?_⟩) hst hpl
  have hl : (Value.ref a :: us).length = ps.length := by
    rw [← F.len _ _ _ _ q2, List.length_cons, List.length_cons, r.length]
  have b1 := b s2 (.ref a :: us) I2.kIn (by rw [List.append_nil]; exact hl)
  rw [List.append_nil] at b1
  exact runX (us := .ref a :: us) (vs := .ref a :: vs) (args := ⟨.ref a :: us, []⟩) F g room b1 (hx σ) I2 (.cons rfl r) q2
end
end Gx

set_option maxRecDepth 100000
set_option maxHeartbeats 4000000
/-! ### own rules: a def that may raise, whatever is under way -/
namespace Gx
open PySem PySem.Spec PyProof.Rows L2
section
variable {X : Cx} {C : Addr} {k : Nat} {ps : List Str} {sp : Sp} {E : L2.St → XK}
theorem runX_below {f : Addr} {fd : FuncData} {A : Around} {pins : List (Addr × Obj)} {σ : L2.St} {H : Hp} {s : Shared} {us : List Value} {vs : List V} {Q : VK} (F : FnOk X.prog X.w X.K X.mg X.base (L2.CX X.prog X.w) k f fd ps sp) (room : Room k A) (fr : A.frames = X.A.frames) (b : Binds X.K fd ps [])
    (hx : PassesAt (L2.CX X.prog X.w) X σ (E σ)) (I : Inv X pins σ H s) (r : Vals vs us) (want : sp vs H Q (E σ)) : wpAny (model X.prog X.w) A (call (.ref f) us) (EP X pins σ Q) X.xe s := by
  have e0 : Env0 X.prog X.w X.K X.mg X.base A X.stack s H := by
    have e := I.env0
    exact ⟨by rw [fr]; exact e.frames, e.mod, e.bs, e.bsz, e.funs, e.frf, e.hok, e.bare⟩
  have hl : us.length = ps.length := r.length.symm.trans (F.len _ _ _ _ want)
  have bt : BindsTo s fd ⟨us, []⟩ (ps.zip us) := by
    have q := b s us I.kIn (by rw [List.append_nil]; exact hl)
    rw [List.append_nil] at q
    exact q
  refine wpAny_call (codeAny_mono (F.run A X.stack s H ⟨us, []⟩ us vs Q (E σ) room e0 bt r want) fun res s' hres => ?_)
  match res, hres with
  | .error e, hres => exact hx pins H s e s' I hres
  | .ok (.ret u), hres => exact I.after hres
end
/-- the name x is a def that keeps sp and may raise, whatever is under way -/
def CalY (P : Program) (w : World) (K : PySem.W.Frag) (mg : Str → Option Value) (base : Heap) (k : Nat) (x : Str) (ps : List Str) (sp : Sp) : Prop :=
  ∃ (f : Addr) (fd : FuncData), FnOk P w K mg base (L2.CX P w) k f fd ps sp ∧ PySem.W.keepIn K (.ref f) = true ∧ Binds K fd ps [] ∧ mg x = some (.ref f)
section
variable {P : Program} {w : World} {K : PySem.W.Frag} {mg : Str → Option Value} {base : Heap}
theorem CalY.up {j k : Nat} {x : Str} {ps : List Str} {sp : Sp} (c : CalY P w K mg base j x ps sp) (h : j ≤ k) : CalY P w K mg base k x ps sp := by
  obtain ⟨f, fd, F, r⟩ := c
  exact ⟨f, fd, F.mono h, r⟩
theorem Def.calY {x qual : Str} {st : Stmt} {ps : List Str} (d : Def K mg x qual st ps) {k : Nat} {sp : Sp} (h : ∀ f fd, Fun K x qual st f fd → FnOk P w K mg base (L2.CX P w) k f fd ps sp) : CalY P w K mg base k x ps sp := by
  obtain ⟨f, fd, F, b, g⟩ := d
  exact ⟨f, fd, h f fd F, F.kp, b, g⟩
end
section
variable {X : Cx} {k : Nat} {ps : List Str} {sp : Sp} {E : L2.St → XK}
def tClY (sp : Sp) (E : L2.St → XK) (t : TA) : TE := fun σ H Q => t σ H fun vs H1 => sp vs H1 Q (E σ)
theorem pe_calY {x : Str} {e : Expr} {es : List Expr} {t : TA} {p pos : Pos} (c : CalY X.prog X.w X.K X.mg X.base k x ps sp) (room : Room k X.A) (hg : Gl X x) (hx : ∀ σ, PassesAt (L2.CX X.prog X.w) X σ (E σ)) (h : PA X (e :: es) t)
    (hdb : (x == ("__debug__" : Str)) = false := by decide) (hst : starEach (e :: es) X.env = (false, eval e X.env) :: starEach es X.env := by rfl) (hpl : (backTo pos (starEach es X.env)).any (·.1) = false := by rfl) :
    PE X (.Call (.Name x p) (e :: es) [] pos) (tClY sp E t) := by
  obtain ⟨f, fd, F, kp, b, hm⟩ := c
  refine ⟨fun pins s σ H Q I want => wpAny_Call_Name_kw (ld_glob I hg hm ?_ hdb)⟩
  refine PySem.W.callWith_K (h₀ := X.base) I.ok.mod.kin kp (thn (h.run pos pins s σ H _ I want) fun us s1 ⟨vs, H1, I1, r, q⟩ => ⟨I1.kIn, ?_⟩) hst hpl
  exact runX_below F room rfl b (hx σ) I1 r q
end
end Gx

set_option maxRecDepth 100000
set_option maxHeartbeats 4000000
/-! ### own rules: classmethods that may raise; a class held by a local name -/
namespace Gx
open PySem PySem.Spec PyProof.Rows L2 ClX
/-- C.m is a classmethod -/
def ClsMd (K : PySem.W.Frag) (C : Addr) (m qual : Str) (st : Stmt) (ps : List Str) : Prop :=
  ∃ (p g : Addr) (fd : FuncData), CRead K C (.type "type") ∧ CMet K C (.type "type") m p g ∧ Fun K m qual st g fd ∧ Binds K fd ps []
/-- the classmethod m of C keeps sp and may raise -/
def CalQ (P : Program) (w : World) (K : PySem.W.Frag) (mg : Str → Option Value) (base : Heap) (C : Addr) (m : Str) (k : Nat) (ps : List Str) (sp : Sp) : Prop :=
  ∃ (p g : Addr) (fd : FuncData), FnOk P w K mg base (L2.CX P w) k g fd ps sp ∧ CRead K C (.type "type") ∧ CMet K C (.type "type") m p g ∧ Binds K fd ps []
theorem ClsMd.cal {P : Program} {w : World} {K : PySem.W.Frag} {mg : Str → Option Value} {base : Heap} {C : Addr} {m qual : Str} {st : Stmt} {k : Nat} {ps : List Str} {sp : Sp} (d : ClsMd K C m qual st ps)
    (h : ∀ f fd, Fun K m qual st f fd → FnOk P w K mg base (L2.CX P w) k f fd ps sp) : CalQ P w K mg base C m k ps sp := by
  obtain ⟨p, g, fd, r, c, F, b⟩ := d
  exact ⟨p, g, fd, h g fd F, r, c, b⟩
theorem CalQ.up {P : Program} {w : World} {K : PySem.W.Frag} {mg : Str → Option Value} {base : Heap} {C : Addr} {m : Str} {j k : Nat} {ps : List Str} {sp : Sp} (c : CalQ P w K mg base C m j ps sp) (h : j ≤ k) : CalQ P w K mg base C m k ps sp := by
  obtain ⟨p, g, fd, F, r⟩ := c
  exact ⟨p, g, fd, F.mono h, r⟩
section
variable {X : Cx} {C : Addr} {k : Nat} {ps : List Str} {sp : Sp} {E : L2.St → XK} {pins : List (Addr × Obj)} {σ : L2.St} {H : Hp} {s : Shared}
def tCMethX (C : Addr) (sp : Sp) (E : L2.St → XK) (ta : TE) (t : TA) : TE := fun σ H Q => ta σ H fun x H1 => x = .ref C ∧ t σ H1 fun vs H2 => sp (.ref C :: vs) H2 Q (E σ)
theorem run_fnX {f : Addr} {fd : FuncData} {us : List Value} {vs : List V} {Q : VK} (F : FnOk X.prog X.w X.K X.mg X.base (L2.CX X.prog X.w) k f fd ps sp) (room : Room k X.A) (b : Binds X.K fd ps [])
    (hx : PassesAt (L2.CX X.prog X.w) X σ (E σ)) (I : Inv X pins σ H s) (r : Vals vs us) (want : sp vs H Q (E σ)) :
    codeAny (model X.prog X.w) X.A (.call (.ref f) ⟨us, []⟩) (fun r s' => match r with | .ok (.ret v) => EP X pins σ Q v s' | .ok _ => False | .error e => X.xe e s') s := by
  have hl : us.length = ps.length := r.length.symm.trans (F.len _ _ _ _ want)
  have bt : BindsTo s fd ⟨us, []⟩ (ps.zip us) := by
    have q := b s us I.kIn (by rw [List.append_nil]; exact hl)
    rw [List.append_nil] at q
    exact q
  refine codeAny_mono (F.run X.A X.stack s H ⟨us, []⟩ us vs Q (E σ) room I.env0 bt r want) fun res s' hres => ?_
  match res, hres with
  | .error e, hres => exact hx pins H s e s' I hres
  | .ok (.ret u), hres => exact I.after hres
theorem run_cmX {g : Addr} {fd : FuncData} {q : Addr} {Q : VK} {us : List Value} {vs : List V} (F : FnOk X.prog X.w X.K X.mg X.base (L2.CX X.prog X.w) k g fd ps sp) (hr : Room k X.A) (b : Binds X.K fd ps []) (hx : PassesAt (L2.CX X.prog X.w) X σ (E σ))
    (I : Inv X ((q, PySem.W.methodObj (.ref g) (.ref C)) :: pins) σ H s) (r : Vals vs us) (h : sp (.ref C :: vs) H Q (E σ)) : wpAny (model X.prog X.w) X.A (call (.ref q) us) (EP X pins σ Q) X.xe s := by
  have z : wpAny (model X.prog X.w) X.A (call (.ref q) us) (EP X ((q, PySem.W.methodObj (.ref g) (.ref C)) :: pins) σ Q) X.xe s :=
    wpAny_call (PySem.W.method_call (pin_at I) (run_fnX (us := .ref C :: us) (vs := .ref C :: vs) F hr b hx I (.cons rfl r) h))
  exact thn z fun _ _ y => unpinE y
/-- C.m(..), m a classmethod that may raise -/
theorem pe_cmX {m : Str} {o e : Expr} {es : List Expr} {ta : TE} {t : TA} {pos apos : Pos} {pl : Sem Bool} (he : PE X o ta) (c : CalQ X.prog X.w X.K X.mg X.base C m k ps sp) (hr : Room k X.A) (hx : ∀ σ, PassesAt (L2.CX X.prog X.w) X σ (E σ)) (ha : PA X (e :: es) t)
    (hst : starEach (e :: es) X.env = (false, eval e X.env) :: starEach es X.env := by rfl) (hpl : (backTo pos (starEach es X.env)).any (·.1) = false := by rfl)
    (ht : eval (.Call (.Attribute o m apos) (e :: es) [] pos) X.env = (do
      let ov ← eval o X.env
      standAt apos.atName
      let (f, first) ← holding [ov] (getMethod ov m pl)
      callWith pos f first (backTo pos (starEach (e :: es) X.env)) (backToKw pos (keywordEach [] X.env))) := by rfl) :
    PE X (.Call (.Attribute o m apos) (e :: es) [] pos) (tCMethX C sp E ta t) := by
  obtain ⟨p, g, fd, F, r, c, b⟩ := c
  refine ⟨fun pins s σ H Q I h => ?_⟩
  refine PySem.W.methodCall_KW (pl := pl) (thn (he.run pins s σ H _ I h) fun u s1 ⟨x, H1, I1, rx, ex, q⟩ => ?_) ht
  subst ex
  obtain rfl : u = Value.ref C := rx
  refine getmethcm_ok I1 r c fun s2 I2 => ?_
  refine callwith_cm I2 (base_none I1 (Nat.le_refl _)) c.fi (thn (ha.run pos _ s2 σ H1 _ I2 q) fun us s3 ⟨vs, H2, I3, rv, q2⟩ => ⟨⟨pin_at I3, I3.kIn⟩, ?_⟩) hst hpl
  exact run_cmX F hr b (hx σ) I3 rv q2
/-- x(..), x a local name that holds the class at C -/
def tMakeL (i : Nat) (C : Addr) (sp : Sp) (t : TA) : TE := fun σ H Q => σ[i]? = some (some (.ref C)) ∧ tMakeC C sp t σ H Q
theorem pe_makeL {i : Nat} {x : Str} {p pos : Pos} {e : Expr} {es : List Expr} {t : TA} (c : CalI X.prog X.w X.K X.mg X.base C k ps sp) (hr : Room (k + 1) X.A) (hN : X.N[i]? = some x) (hv : Vis X.env.scope x) (ha : PA X (e :: es) t)
    (hd : (x == ("__debug__" : Str)) = false := by decide) (hcd : (x == ("__classdict__" : Str)) = false := by decide) (he : starEach (e :: es) X.env = (false, eval e X.env) :: starEach es X.env := by rfl) (hpl : (backTo pos (starEach es X.env)).any (·.1) = false := by rfl) :
    PE X (.Call (.Name x p) (e :: es) [] pos) (tMakeL i C sp t) := by
  obtain ⟨f, fd, M, F, b⟩ := c
  refine ⟨fun pins s σ H Q I h => ?_⟩
  obtain ⟨h0, h⟩ := h
  rw [← tMakeC_eq] at h
  refine wpAny_Call_Name_kw (thn ((pe_var (pos := p) (i := i) hN hv hd hcd).run pins s σ H (fun v H1 => v = .ref C ∧ H1 = H) I ⟨.ref C, h0, rfl, rfl⟩) fun u s1 ⟨v, H1, I1, r1, q1⟩ => ?_)
  obtain ⟨ev, eH⟩ := q1
  subst ev
  rw [eH] at I1
  obtain rfl : u = Value.ref C := r1
  refine PySem.W.callWith_K (h₀ := X.base) I1.ok.mod.kin M.kp (thn (ha.run pos pins s1 σ H _ I1 h) fun us s2 ⟨vs, H1, I2, r, q⟩ => ⟨I2.kIn, ?_⟩) he hpl
  exact run_make M F hr b .nil pass0 I2 r q
end
end Gx

set_option maxRecDepth 100000
set_option maxHeartbeats 4000000
/-! ### own end: a law whose promise holds where no repr is under way, and whose defs make lambdas -/
namespace Gx
open PySem PySem.Spec PyProof.Rows L2
/-- the abstract heap at the law's call: the script and the empty tables of the defs that make lambdas -/
def H0T (a : Addr) (o : Obj) (ns : List Int) (own : Bool) (ts : List Addr) : Hp := fun b => if b ∈ ts then some (.tbl #[]) else H00 a o ns own b
theorem h0t_in {a b : Addr} {o : Obj} {ns : List Int} {own : Bool} {ts : List Addr} (h : b ∈ ts) : H0T a o ns own ts b = some (.tbl #[]) := by
  unfold H0T
  rw [if_pos h]
theorem h0t_out {a b : Addr} {o : Obj} {ns : List Int} {own : Bool} {ts : List Addr} (h : b ∉ ts) : H0T a o ns own ts b = H00 a o ns own b := by
  unfold H0T
  rw [if_neg h]
theorem h0t_some {a b : Addr} {o : Obj} {ns : List Int} {own : Bool} {ts : List Addr} {u : HO} (h : H0T a o ns own ts b = some u) : (b ∈ ts ∧ u = .tbl #[]) ∨ (b ∉ ts ∧ own = false ∧ b = a ∧ u = .frz o (.lst (ns.map V.int))) := by
  by_cases c : b ∈ ts
  · rw [h0t_in c] at h
    cases h
    exact .inl ⟨c, rfl⟩
  · rw [h0t_out c] at h
    exact .inr ⟨c, h00_some h⟩
/-- the tables cs stand in the heap, and the module does not name them -/
structure TabsHere (K : PySem.W.Frag) (h : Heap) (cs : List (Addr × Addr)) : Prop where
  hd : ∀ c ∈ cs, PySem.W.CodeHd h c.1 c.2
  at_ : ∀ c ∈ cs, h.get? c.2 = some (PySem.W.tabObj #[])
  free : ∀ c ∈ cs, K.lookup c.2 = none
theorem lawGT {P : Program} {w : World} {K : PySem.W.Frag} {mg mb : Str → Option Value} {CX : CXT} {k : Nat} {fa a : Addr} {fd : FuncData} {x : Str} {sp : Sp} {t : Shared} {vs : List Value} {ns : List Int} {cs : List (Addr × Addr)}
    (inK : K.In t.heap) (glob : t.heap.Ns mainGlobals mg) (blt : t.heap.Ns builtinsNs mb) (boot : ∀ y : Str, y ≠ "__name__" → mb y = bootBuiltins y) (noLim : t.heap.NoLimit) (gens : t.gens = #[]) (tabs : TabsHere K t.heap cs)
    (bmod : ∃ (bm : Addr) (ob : Obj), mg "__builtins__" = some (.ref bm) ∧ bm ≠ builtinsNs ∧ t.heap.get? bm = some ob ∧ ob.cls = .type "module" ∧ ob.dict = some builtinsNs ∧ ob.data = .plain)
    (scr : t.heap.get? a = some { cls := .type "list", data := .seq vs.toArray }) (hints : IntsAre vs ns) (short : ns.length ≤ sizeLine) (room : Room k callerA)
    (F : ∀ base : Heap, K.In base → base.Ns mainGlobals mg → (∀ c ∈ cs, LamX.TabB base mg c.1 c.2) → FnG P w K mg base CX k fa fd [x] sp) (bind : ∀ (s : Shared) (u : Value), BindsTo s fd ⟨[u], []⟩ [(x, u)])
    (want : ∀ H : Hp, (∀ c ∈ cs, H c.2 = some (.tbl #[])) → SqL K H a (ns.map V.int) → sp [.ref a] H (fun v _ => v = .bl true) fun _ _ _ => False)
    (noErr : ∀ H e s', CX [] H t (fun _ _ _ => False) e s' → False) :
    codeAny (model P w) callerA (.call (.ref fa) ⟨[.ref a], []⟩) (fun r s' => r = .ok (.ret (.bool true)) ∧ OldK t.heap s'.heap ∧ s'.os = t.os ∧ AllBare s'.gens) t := by
  have hv : Vals (ns.map V.int) vs := vals_ints hints
  have hlv : vs.length = ns.length := hints.length
  obtain ⟨own, hown⟩ : ∃ own : Bool, own = (K.lookup a).isSome := ⟨_, rfl⟩
  obtain ⟨ts, hts⟩ : ∃ ts : List Addr, ts = cs.map (·.2) := ⟨_, rfl⟩
  have tin : ∀ {c : Addr × Addr}, c ∈ cs → c.2 ∈ ts := fun h => by
    rw [hts]
    exact List.mem_map.mpr ⟨_, h, rfl⟩
  have tout : ∀ {b : Addr}, b ∈ ts → ∃ c ∈ cs, c.2 = b := fun h => by
    rw [hts] at h
    exact List.mem_map.mp h
  have tget : ∀ {b : Addr}, b ∈ ts → t.heap.get? b = some (PySem.W.tabObj #[]) := fun h => by
    obtain ⟨c, hc, rfl⟩ := tout h
    exact tabs.at_ c hc
  have na : a ∉ ts := fun h => by
    have e := tget h
    rw [scr] at e
    have e2 := congrArg Obj.data (Option.some.inj e)
    cases e2
  let o : Obj := { cls := .type "list", data := .seq vs.toArray }
  let H0 : Hp := H0T a o ns own ts
  have hOk : HOk P w H0 t.heap := by
    intro b u e
    rcases h0t_some e with ⟨h, rfl⟩ | ⟨_, _, rfl, rfl⟩
    · exact tget h
    · exact ⟨scr, by rw [List.length_map]; exact short, vs, _, hv, scr⟩
  have none0 : ∀ {b : Addr}, b ∉ ts → own = true ∨ b ≠ a → H0 b = none := fun h1 h2 => (h0t_out h1).trans (h00_none h2)
  have keepT : ∀ {b : Addr} {ob : Obj}, t.heap.get? b = some ob → b ∉ ts → own = true ∨ b ≠ a → (hidT t.heap H0).get? b = some ob := fun e n1 n2 => hidT_get e (none0 n1 n2)
  -- what is neither the script nor a table
  have other : ∀ {b : Addr} {ob : Obj}, t.heap.get? b = some ob → (∀ xs n, ob.data ≠ .seq xs n) → ob.data ≠ .fields #[] → b ∉ ts ∧ b ≠ a := by
    intro b ob e n1 n2
    refine ⟨fun h => ?_, fun h => ?_⟩
    · rw [tget h] at e
      cases e
      exact n2 rfl
    · rw [h, scr] at e
      cases e
      exact n1 _ _ rfl
  have nsKeep : ∀ {b : Addr} {m : Str → Option Value}, t.heap.Ns b m → (hidT t.heap H0).Ns b m := by
    rintro b m ⟨ob, es, ep, e, dd, r⟩
    obtain ⟨n1, n2⟩ := other e (fun xs n z => by rw [dd] at z; cases z) (fun z => by rw [dd] at z; cases z)
    exact ⟨ob, es, ep, keepT e n1 (.inr n2), dd, r⟩
  have inK' : K.In (hidT t.heap H0) := by
    intro b ob e
    have nt : b ∉ ts := fun h => by
      obtain ⟨c, hc, rfl⟩ := tout h
      rw [tabs.free c hc] at e
      cases e
    refine keepT (inK b ob e) nt ?_
    by_cases hb : b = a
    · subst hb
      left
      rw [hown, e]
      rfl
    · exact .inr hb
  have noLim' : (hidT t.heap H0).NoLimit := by
    obtain ⟨mc, h1, h2⟩ := noLim
    exact ⟨mc, nsKeep h1, h2⟩
  have tabB : ∀ c ∈ cs, LamX.TabB (hidT t.heap H0) mg c.1 c.2 := by
    intro c hc
    have hP := tabs.at_ c hc
    constructor
    · obtain ⟨oc, us, file, tf, flags, tg, inF, text, tt, e, r1, r2, r3, r4⟩ := tabs.hd c hc
      obtain ⟨n1, n2⟩ := other e (fun xs n z => by rw [r2] at z; cases z) (fun z => by
        rw [r2] at z
        cases z
        cases r3)
      exact ⟨oc, us, file, tf, flags, tg, inF, text, tt, keepT e n1 (.inr n2), r1, r2, r3, r4⟩
    · obtain ⟨bm, ob, b1, b2, b3, b4, b5, b6⟩ := bmod
      obtain ⟨n1, n2⟩ := other b3 (fun xs n z => by rw [b6] at z; cases z) (fun z => by rw [b6] at z; cases z)
      refine ⟨bm, ob, b1, b2, ?_, fun z => n1 (z ▸ tin hc), keepT b3 n1 (.inr n2), b4, b5, b6⟩
      rintro rfl
      obtain ⟨og, es, ep, e, dd, _⟩ := glob
      rw [b3] at e
      cases e
      rw [b6] at dd
      cases dd
    · rintro z
      obtain ⟨og, es, ep, e, dd, _⟩ := glob
      rw [z, hP] at e
      cases e
      cases dd
  have env : Env0 P w K mg (hidT t.heap H0) callerA [] t H0 := by
    refine ⟨rfl, ⟨inK', nsKeep glob, ⟨mb, nsKeep blt, boot⟩, noLim'⟩, fun b ob e => of_hidT e, Nat.le_of_eq (hidT_size _ _), trivial, ?_, hOk, .of_eq gens⟩
    intro b hb
    exact absurd (show b ∈ ([] : List Addr) from hb) List.not_mem_nil
  have hS : SqL K H0 a (ns.map V.int) := by
    cases own with
    | false =>
      refine .inl (.inr ⟨o, ?_⟩)
      show H0T a o ns false ts a = _
      rw [h0t_out na]
      unfold H00
      rw [if_pos ⟨rfl, rfl⟩]
    | true =>
      obtain ⟨ob, e⟩ := Option.isSome_iff_exists.mp hown.symm
      have e2 := inK a ob e
      rw [scr] at e2
      cases e2
      exact .inr ⟨_, vs.toArray, _, e, rfl, rfl, rfl, by rw [List.size_toArray, hlv]; exact short, by simpa using hv⟩
  have runs := (F _ inK' (nsKeep glob) tabB).run callerA [] t H0 ⟨[.ref a], []⟩ [.ref a] [.ref a] _ _ rfl room env (bind t (.ref a)) (.cons rfl .nil) (want _ (fun c hc => h0t_in (tin hc)) hS)
  refine codeAny_mono runs ?_
  intro res s' hres
  match res, hres with
  | .error e, hres => exact (noErr _ e s' hres).elim
  | .ok (.ret u), hres =>
    obtain ⟨v, H', hos, bare, un, ok', rel, rfl⟩ := hres
    obtain rfl : u = Value.bool true := rel
    have stays : ∀ b ob, b ∉ ts → t.heap.get? b = some ob → s'.heap.get? b = some ob := by
      intro b ob nb e
      cases q : H0 b with
      | none => exact un.keep b ob e q (fun z => absurd (show b ∈ ([] : List Addr) from z) List.not_mem_nil) List.not_mem_nil
      | some u =>
        rcases h0t_some q with ⟨h, _⟩ | ⟨_, _, _, rfl⟩
        · exact absurd h nb
        · have q' := un.frzs b _ _ q
          have e1 := (hOk b _ q).1
          rw [e] at e1
          cases e1
          exact (ok' b _ q').1
    have grows : ∀ c ∈ cs, ∃ more : Array Value, s'.heap.get? c.2 = some (PySem.W.tabObj more) := by
      intro c hc
      obtain ⟨more, z⟩ := un.tbls c.2 #[] (h0t_in (tin hc))
      exact ⟨_, ok' c.2 _ z⟩
    refine ⟨rfl, ⟨fun b ob e => ?_, fun b ob e => ?_⟩, hos, bare⟩
    · by_cases hb : b ∈ ts
      · obtain ⟨c, hc, rfl⟩ := tout hb
        obtain ⟨more, hm⟩ := grows c hc
        have hP := tabs.at_ c hc
        rw [hP] at e
        cases e
        refine .inr (.inl ⟨((tabs.hd c hc).tab hP).isCodeTable, rfl, #[], more, rfl, ?_⟩)
        rw [Array.empty_append]
        exact hm
      · exact .inl (stays b ob hb e)
    · by_cases hb : b ∈ ts
      · obtain ⟨c, hc, rfl⟩ := tout hb
        obtain ⟨more, hm⟩ := grows c hc
        exact ⟨_, hm⟩
      · exact ⟨ob, stays b ob hb e⟩
/-- what k_head leaves, for such a law -/
theorem walkGT {l : PySem.W.OpenLaw} {n k : Nat} {q : Program} {loose : List Str} {XP : (Str → Option Value) → Heap → Prop} {YP : World → Heap → Prop} {d : DefRec} {K : Params → PySem.W.Frag} {CX : World → CXT} {x : Str}
    (most : l.most = some n) (small : n ≤ sizeLine) (plain : d.params.defaults = []) (room : Room k callerA) (hY : ∀ (w : World) (h : Heap), YP w h → (K w.params).In h)
    (F : ∀ (w : World) (mg : Str → Option Value) (fa : Addr) (h : Heap), (K w.params).In h → h.Ns mainGlobals mg → mg d.name = some (.ref fa) →
      ∃ (fd : FuncData) (cs : List (Addr × Addr)) (sp : Sp), (∀ c ∈ cs, (∃ (y : Str) (e : DefRec), (recsOf q).find? (fun r => r.name == y) = some e ∧ PySem.W.tabIn (K w.params) y = some c) ∧ (K w.params).lookup c.2 = none) ∧
        (∀ (s : Shared) (u : Value), BindsTo s fd ⟨[u], []⟩ [(x, u)]) ∧
        (∀ (H : Hp) (a : Addr) (ns : List Int), ns.length ≤ n → (∀ c ∈ cs, H c.2 = some (.tbl #[])) → SqL (K w.params) H a (ns.map V.int) → sp [.ref a] H (fun v _ => v = .bl true) fun _ _ _ => False) ∧
        ∀ base : Heap, (K w.params).In base → base.Ns mainGlobals mg → (∀ c ∈ cs, LamX.TabB base mg c.1 c.2) → FnG l.prog w (K w.params) mg base (CX w) k fa fd [x] sp)
    (noErr : ∀ (w : World) (H : Hp) (s : Shared) (e : Value) (s' : Shared), CX w [] H s (fun _ _ _ => False) e s' → False) :
    PySem.W.WalkO q loose XP YP l.row.toRowW d [] (fun f vs => PySem.call f vs) := by
  refine Att.attach_call most plain fun w s₀ t mg mb fa o pm cd doc a vs ns G Y ho hd hcd hmg scr hints hlen gens => ?_
  obtain ⟨fd, cs, sp, tabs, bind, want, body⟩ := F w mg fa _ (hY w _ Y) G.T.g hmg
  have th : ∀ c ∈ cs, PySem.W.CodeHd t.heap c.1 c.2 ∧ t.heap.get? c.2 = some (PySem.W.tabObj #[]) := fun c hc => by
    obtain ⟨⟨y, e, h1, h2⟩, _⟩ := tabs c hc
    exact PySem.W.tab_of G.T (hY w _ Y) h1 h2
  exact lawGT (hY w _ Y) G.T.g G.T.b G.T.builtins G.T.nolimit gens ⟨fun c hc => (th c hc).1, fun c hc => (th c hc).2, fun c hc => (tabs c hc).2⟩ G.T.bmain scr hints (Nat.le_trans hlen small) room body bind
    (fun H hO hS => want H a ns hlen hO hS) fun H e s' => noErr w H t e s'
/-! ### a def that makes lambdas: its own code is known -/
section
variable {P : Program} {w : World} {K : PySem.W.Frag} {mg : Str → Option Value} {base : Heap}
/-- .. where no repr is under way; its code object is at c -/
theorem okGL {x qual : Str} {st : Stmt} {f c : Addr} {fd : FuncData} {N ps : List Str} {k : Nat} {sp : Sp} (F : Fun K x qual st f fd) (hc : fd.code = .ref c) (S : FnScope N ps (defScope st)) (hlen : ∀ vs H Q E, sp vs H Q E → vs.length = ps.length)
    (hb : ∀ (A : Around) (outer : List Env) (s : Shared) (H : Hp) (vs : List V) (Q : VK) (E : XK), Gd (A.deeper (envOfC qual (defScope st) s.heap.objs.size f (.ref c))) → Room k (A.deeper (envOfC qual (defScope st) s.heap.objs.size f (.ref c))) → sp vs H Q E →
      ∃ t, PSs (cxOf CX0 P w K mg base N qual (defScope st) f (.ref c) A outer s H E).nox (defBody st) t ∧ t { nx := fun _ H' => Q .non H', rt := Q } (start N vs) H) : FnG P w K mg base CX0 (k + 1) f fd ps sp := by
  obtain ⟨oc, od, kV, doc, pm, an, cdv, ct, osl, rfl, lk, hcd⟩ := F.ex
  have e : cdv = .ref c := hc
  subst e
  refine fnG_body lk hcd S hlen fun A outer s H vs Q E g hr want => ?_
  obtain ⟨t, h, q⟩ := hb A outer s H vs Q E g hr want
  exact ⟨t, h.nox, q⟩
end
end Gx

set_option maxRecDepth 100000
set_option maxHeartbeats 4000000
namespace Gx
open PySem PySem.Spec PyProof.Rows L2 LamX
/-- an own class of errors is not caught by the name of another -/
theorem exm_no {K : PySem.W.Frag} {S C : Addr} (b : PySem.W.subIn K (.ref C) (.type "BaseException") = some true) (i : PySem.W.isClsIn K C = true) (t : PySem.W.typeIn K (.ref C) = some (.type "type")) (s : PySem.W.subIn K (.ref S) (.ref C) = some false) : PySem.W.exmOne K (.ref S) (.ref C) = some false := by
  have i' : (PySem.W.clsIn K C).isSome = true := i
  unfold PySem.W.exmOne PySem.W.kitCls
  simp [b, i', t, s]
/-- one table, one name -/
theorem one_of : ∀ {Tb : List (Addr × Str)} {P : Addr} {q : Str}, (Tb.map (·.1)).Nodup → (P, q) ∈ Tb → ∀ p ∈ Tb, p.1 = P → p.2 = q
  | (P0, q0) :: r, P, q, nd, m, p, hp, e => by
    rw [List.map_cons, List.nodup_cons] at nd
    rcases List.mem_cons.mp m with h | h
    · cases h
      rcases List.mem_cons.mp hp with rfl | h2
      · rfl
      · exact absurd (List.mem_map.mpr ⟨p, h2, e⟩) nd.1
    · rcases List.mem_cons.mp hp with rfl | h2
      · exact absurd (List.mem_map.mpr ⟨_, h, e.symm⟩) nd.1
      · exact one_of nd.2 h p h2 e
/-- as Def.calG, the name's address handed on -/
theorem Def.calGL {P : Program} {w : World} {K : PySem.W.Frag} {mg : Str → Option Value} {base : Heap} {x qual : Str} {st : Stmt} {ps : List Str} (d : Def K mg x qual st ps) {k : Nat} {sp : Sp} (h : ∀ f fd, mg x = some (.ref f) → Fun K x qual st f fd → FnG P w K mg base CX0 k f fd ps sp) : CalG P w K mg base k x ps sp := by
  obtain ⟨f, fd, F, b, g⟩ := d
  exact ⟨f, fd, h f fd g F, F.kp, b, g⟩
abbrev ln (x : Str) : Str := (x ++ ".<locals>.") ++ "<lambda>"
/-- a def of the module that makes lambdas: its code and its table -/
structure Lam (K : PySem.W.Frag) (mg : Str → Option Value) (base : Heap) (Tb : List (Addr × Str)) (x : Str) (c Pt : Addr) : Prop where
  tb : TabB base mg c Pt
  mem : (Pt, ln x) ∈ Tb
  one : ∀ p ∈ Tb, p.1 = Pt → p.2 = ln x
  code : ∀ (f : Addr) (oc : Value) (od : Option Addr) (fd : FuncData) (sl : Array (Option Value)), mg x = some (.ref f) → K.lookup f = some ⟨oc, od, .func fd, sl⟩ → fd.code = .ref c
theorem Lam.of {K : PySem.W.Frag} {mg : Str → Option Value} {base : Heap} {Tb : List (Addr × Str)} {x : Str} {c Pt : Addr} (L : Lam K mg base Tb x c Pt) {qual : Str} {st : Stmt} {f : Addr} {fd : FuncData} (g : mg x = some (.ref f)) (F : Fun K x qual st f fd) : fd.code = .ref c := by
  obtain ⟨oc, od, kV, doc, pm, an, cdv, ct, osl, _, lk, _⟩ := F.ex
  exact L.code f oc od fd osl g lk
theorem tabIn_of {K : PySem.W.Frag} {x : Str} {f c Pt : Addr} {oc oc2 : Value} {od od2 : Option Addr} {fd : FuncData} {sl sl2 : Array (Option Value)} {vs : Array Value} (a : PySem.W.nsIn K mainGlobals x = some (some (.ref f))) (l : K.lookup f = some ⟨oc, od, .func fd, sl⟩) (hc : fd.code = .ref c) (lc : K.lookup c = some ⟨oc2, od2, .fields vs, sl2⟩) (hp : vs[11]? = some (.ref Pt)) : PySem.W.tabIn K x = some (c, Pt) := by
  unfold PySem.W.tabIn
  simp only [a, l, hc, lc, hp]
/-- .. as the top has made it -/
theorem Lam.mk_of {K : PySem.W.Frag} {mg : Str → Option Value} {base : Heap} {Tb : List (Addr × Str)} {x : Str} {c Pt : Addr} (X : K.In base) (G : base.Ns mainGlobals mg) (ht : PySem.W.tabIn K x = some (c, Pt)) (tb : TabB base mg c Pt) (nd : (Tb.map (·.1)).Nodup) (m : (Pt, ln x) ∈ Tb) : Lam K mg base Tb x c Pt :=
  ⟨tb, m, one_of nd m, fun f oc od fd sl g lk => PySem.W.law_code X G ht g (X _ _ lk) rfl⟩
end Gx

set_option maxRecDepth 100000
set_option maxHeartbeats 4000000
namespace Kl
open PySem PySem.Spec PyProof.Rows L2 Gx
def topS (i : Nat) : Stmt := PySem.Challenge.pw_linkbooks_k47_trees_told.main.body.getD i (.Pass ⟨0, 0, 0, 0⟩)
abbrev s_wall : Stmt := topS 0
theorem sc_wall : FnScope ["k"] ["k"] (defScope s_wall) := ⟨rfl, rfl, rfl, by decide +kernel, rfl, by decide +kernel, by decide +kernel⟩
abbrev s_is_integer : Stmt := topS 12
theorem sc_is_integer : FnScope ["value"] ["value"] (defScope s_is_integer) := ⟨rfl, rfl, rfl, by decide +kernel, rfl, by decide +kernel, by decide +kernel⟩
abbrev s_is_count : Stmt := topS 13
theorem sc_is_count : FnScope ["value"] ["value"] (defScope s_is_count) := ⟨rfl, rfl, rfl, by decide +kernel, rfl, by decide +kernel, by decide +kernel⟩
abbrev s_is_name : Stmt := topS 14
theorem sc_is_name : FnScope ["value"] ["value"] (defScope s_is_name) := ⟨rfl, rfl, rfl, by decide +kernel, rfl, by decide +kernel, by decide +kernel⟩
abbrev s_is_sorted : Stmt := topS 15
theorem sc_is_sorted : FnScope ["value", "most", "name"] ["value", "most"] (defScope s_is_sorted) := ⟨rfl, rfl, rfl, by decide +kernel, rfl, by decide +kernel, by decide +kernel⟩
abbrev s_is_making : Stmt := topS 19
theorem sc_is_making : FnScope ["value"] ["value"] (defScope s_is_making) := ⟨rfl, rfl, rfl, by decide +kernel, rfl, by decide +kernel, by decide +kernel⟩
abbrev s_all_names : Stmt := topS 20
theorem sc_all_names : FnScope ["leaf", "makings"] ["leaf", "makings"] (defScope s_all_names) := ⟨rfl, rfl, rfl, by decide +kernel, rfl, by decide +kernel, by decide +kernel⟩
abbrev s_are_kinds : Stmt := topS 21
theorem sc_are_kinds : FnScope ["leaf", "makings", "names", "name", "part"] ["leaf", "makings"] (defScope s_are_kinds) := ⟨rfl, rfl, rfl, by decide +kernel, rfl, by decide +kernel, by decide +kernel⟩
abbrev s_are_fit : Stmt := topS 25
theorem sc_are_fit : FnScope ["trees", "tree"] ["trees"] (defScope s_are_fit) := ⟨rfl, rfl, rfl, by decide +kernel, rfl, by decide +kernel, by decide +kernel⟩
abbrev s_tree_of : Stmt := topS 26
theorem sc_tree_of : FnScope ["kinds", "key", "way", "children", "tree", "digit", "child"] ["kinds", "key", "way", "children"] (defScope s_tree_of) := ⟨rfl, rfl, rfl, by decide +kernel, rfl, by decide +kernel, by decide +kernel⟩
abbrev s_keys_in : Stmt := topS 27
theorem sc_keys_in : FnScope ["tree", "keys", "level", "each", "digit", "child"] ["tree"] (defScope s_keys_in) := ⟨rfl, rfl, rfl, by decide +kernel, rfl, by decide +kernel, by decide +kernel⟩
abbrev s_nodes_of : Stmt := topS 29
abbrev s_law_dice : Stmt := topS 31
theorem sc_law_dice : FnScope ["_law_script", "_law_spot", "_law_cell", "_law_left"] ["_law_script", "_law_spot"] (defScope s_law_dice) := ⟨rfl, rfl, rfl, by decide +kernel, rfl, by decide +kernel, by decide +kernel⟩
abbrev s_law_roll : Stmt := topS 32
theorem sc_law_roll : FnScope ["_law_dice_here", "_law_total", "_law_found", "_law_one", "_law_two"] ["_law_dice_here", "_law_total"] (defScope s_law_roll) := ⟨rfl, rfl, rfl, by decide +kernel, rfl, by decide +kernel, by decide +kernel⟩
abbrev s_law_pick : Stmt := topS 33
theorem sc_law_pick : FnScope ["_law_dice_here", "_law_items"] ["_law_dice_here", "_law_items"] (defScope s_law_pick) := ⟨rfl, rfl, rfl, by decide +kernel, rfl, by decide +kernel, by decide +kernel⟩
abbrev s_law_mixed : Stmt := topS 34
theorem sc_law_mixed : FnScope ["_law_dice_here", "_law_items", "_law_left", "_law_found", "_law_turn"] ["_law_dice_here", "_law_items"] (defScope s_law_mixed) := ⟨rfl, rfl, rfl, by decide +kernel, rfl, by decide +kernel, by decide +kernel⟩
abbrev s_law_made_kinds : Stmt := topS 35
theorem sc_law_made_kinds : FnScope ["_law_plain"] ["_law_plain"] (defScope s_law_made_kinds) := ⟨rfl, rfl, rfl, by decide +kernel, rfl, by decide +kernel, by decide +kernel⟩
abbrev s_law_sizes : Stmt := topS 36
theorem sc_law_sizes : FnScope ["_law_plain", "_law_bound", "_law_found", "_law_rank", "_law_here", "_law_name", "_law_parts", "_law_part"] ["_law_plain", "_law_bound"] (defScope s_law_sizes) := ⟨rfl, rfl, rfl, by decide +kernel, rfl, by decide +kernel, by decide +kernel⟩
abbrev s_law_pool_names : Stmt := topS 37
theorem sc_law_pool_names : FnScope ["_law_dice_here", "_law_many"] ["_law_dice_here", "_law_many"] (defScope s_law_pool_names) := ⟨rfl, rfl, rfl, by decide +kernel, rfl, by decide +kernel, by decide +kernel⟩
abbrev s_law_drawn_makings : Stmt := topS 38
theorem sc_law_drawn_makings : FnScope ["_law_dice_here", "_law_way", "_law_names", "_law_a", "_law_b", "_law_c", "_law_some", "_law_found", "_law_name", "_law_kinds", "_law_turn"] ["_law_dice_here"] (defScope s_law_drawn_makings) := ⟨rfl, rfl, rfl, by decide +kernel, rfl, by decide +kernel, by decide +kernel⟩
abbrev s_law_link_plain : Stmt := topS 39
theorem sc_law_link_plain : FnScope ["_law_name", "_law_trees", "_law_keys", "_law_at", "_law_tree"] ["_law_name", "_law_trees"] (defScope s_law_link_plain) := ⟨rfl, rfl, rfl, by decide +kernel, rfl, by decide +kernel, by decide +kernel⟩
abbrev s_law_tree_key : Stmt := topS 40
theorem sc_law_tree_key : FnScope ["_law_dice_here", "_law_great", "_law_low"] ["_law_dice_here"] (defScope s_law_tree_key) := ⟨rfl, rfl, rfl, by decide +kernel, rfl, by decide +kernel, by decide +kernel⟩
abbrev s_law_grown_pair : Stmt := topS 41
theorem sc_law_grown_pair : FnScope ["_law_dice_here", "_law_plain", "_law_kinds", "_law_name", "_law_rank", "_law_key", "_law_some", "_law_part", "_law_pair"] ["_law_dice_here", "_law_plain", "_law_kinds", "_law_name", "_law_rank"] (defScope s_law_grown_pair) := ⟨rfl, rfl, rfl, by decide +kernel, rfl, by decide +kernel, by decide +kernel⟩
abbrev s_law_drawn_place : Stmt := topS 42
theorem sc_law_drawn_place : FnScope ["_law_dice_here", "_law_plain", "_law_most", "_law_sizes_here", "_law_found", "_law_rank", "_law_name", "_law_place"] ["_law_dice_here", "_law_plain", "_law_most"] (defScope s_law_drawn_place) := ⟨rfl, rfl, rfl, by decide +kernel, rfl, by decide +kernel, by decide +kernel⟩
abbrev s_law_tree_nodes : Stmt := topS 43
theorem sc_law_tree_nodes : FnScope ["_law_tree", "_law_depth", "_law_found", "_law_trees", "_law_child"] ["_law_tree", "_law_depth"] (defScope s_law_tree_nodes) := ⟨rfl, rfl, rfl, by decide +kernel, rfl, by decide +kernel, by decide +kernel⟩
abbrev s_law_plain_keys : Stmt := topS 44
theorem sc_law_plain_keys : FnScope ["_law_tree", "_law_key", "_law_depth"] ["_law_tree"] (defScope s_law_plain_keys) := ⟨rfl, rfl, rfl, by decide +kernel, rfl, by decide +kernel, by decide +kernel⟩
abbrev s_law_is_tree_like : Stmt := topS 45
theorem sc_law_is_tree_like : FnScope ["_law_made", "_law_tree", "_law_sizes_here", "_law_trees", "_law_some", "_law_one", "_law_other"] ["_law_made", "_law_tree"] (defScope s_law_is_tree_like) := ⟨rfl, rfl, rfl, by decide +kernel, rfl, by decide +kernel, by decide +kernel⟩
abbrev s_law_is_broken_right : Stmt := topS 46
theorem sc_law_is_broken_right : FnScope ["_law_made", "_law_tree", "_law_told", "_law_trees", "_law_some", "_law_due", "_law_kind", "_law_one", "_law_other"] ["_law_made", "_law_tree"] (defScope s_law_is_broken_right) := ⟨rfl, rfl, rfl, by decide +kernel, rfl, by decide +kernel, by decide +kernel⟩
abbrev s_law_told_right : Stmt := topS 47
theorem sc_law_told_right : FnScope ["_law_made", "_law_tree", "_law_kinds", "_law_keys", "_law_kind", "_law_told", "_law_words", "_law_due", "_law_some", "_law_key"] ["_law_made", "_law_tree", "_law_kinds"] (defScope s_law_told_right) := ⟨rfl, rfl, rfl, by decide +kernel, rfl, by decide +kernel, by decide +kernel⟩
abbrev s_law_right : Stmt := topS 48
theorem sc_law_right : FnScope ["_law_dice_here", "_law_plain", "_law_kinds", "_law_turn", "_law_name", "_law_rank", "_law_tree", "_law_made"] ["_law_dice_here"] (defScope s_law_right) := ⟨rfl, rfl, rfl, by decide +kernel, rfl, by decide +kernel, by decide +kernel⟩
abbrev s_law : Stmt := topS 49
theorem sc_law : FnScope ["_law_script", "_law_spot", "_law_double", "_law_one", "_law_other", "_law_third", "_law_pair", "_law_four", "_law_told", "_law_due", "_law_key", "_law_tree"] ["_law_script"] (defScope s_law) := ⟨rfl, rfl, rfl, by decide +kernel, rfl, by decide +kernel, by decide +kernel⟩
abbrev s_Kinds_init : Stmt := inClass (topS 22) 0
theorem sc_Kinds_init : FnScope ["self", "leaf", "makings", "name"] ["self", "leaf", "makings"] (defScope s_Kinds_init) := ⟨rfl, rfl, rfl, by decide +kernel, rfl, by decide +kernel, by decide +kernel⟩
abbrev s_Kinds_leaf : Stmt := inClass (topS 22) 2
theorem sc_Kinds_leaf : FnScope ["self"] ["self"] (defScope s_Kinds_leaf) := ⟨rfl, rfl, rfl, by decide +kernel, rfl, by decide +kernel, by decide +kernel⟩
abbrev s_Kinds_makings : Stmt := inClass (topS 22) 3
theorem sc_Kinds_makings : FnScope ["self"] ["self"] (defScope s_Kinds_makings) := ⟨rfl, rfl, rfl, by decide +kernel, rfl, by decide +kernel, by decide +kernel⟩
abbrev s_Kinds_names : Stmt := inClass (topS 22) 4
theorem sc_Kinds_names : FnScope ["self"] ["self"] (defScope s_Kinds_names) := ⟨rfl, rfl, rfl, by decide +kernel, rfl, by decide +kernel, by decide +kernel⟩
abbrev s_Kinds_losers : Stmt := inClass (topS 22) 7
theorem sc_Kinds_losers : FnScope ["self", "name", "winner", "making", "at"] ["self", "name", "winner"] (defScope s_Kinds_losers) := ⟨rfl, rfl, rfl, by decide +kernel, rfl, by decide +kernel, by decide +kernel⟩
abbrev s_Kinds_contains : Stmt := inClass (topS 22) 9
theorem sc_Kinds_contains : FnScope ["self", "value"] ["self", "value"] (defScope s_Kinds_contains) := ⟨rfl, rfl, rfl, by decide +kernel, rfl, by decide +kernel, by decide +kernel⟩
abbrev s_Kinds_getitem : Stmt := inClass (topS 22) 10
theorem sc_Kinds_getitem : FnScope ["self", "name"] ["self", "name"] (defScope s_Kinds_getitem) := ⟨rfl, rfl, rfl, by decide +kernel, rfl, by decide +kernel, by decide +kernel⟩
abbrev s_Kinds_len : Stmt := inClass (topS 22) 12
theorem sc_Kinds_len : FnScope ["self"] ["self"] (defScope s_Kinds_len) := ⟨rfl, rfl, rfl, by decide +kernel, rfl, by decide +kernel, by decide +kernel⟩
abbrev s_Kinds_eq : Stmt := inClass (topS 22) 13
theorem sc_Kinds_eq : FnScope ["self", "other"] ["self", "other"] (defScope s_Kinds_eq) := ⟨rfl, rfl, rfl, by decide +kernel, rfl, by decide +kernel, by decide +kernel⟩
abbrev s_Kinds_str : Stmt := inClass (topS 22) 14
theorem sc_Kinds_str : FnScope ["self"] ["self"] (defScope s_Kinds_str) := ⟨rfl, rfl, rfl, by decide +kernel, rfl, by decide +kernel, by decide +kernel⟩
/-- the class Kinds as the top has made it -/
structure Cl_Kinds (K : PySem.W.Frag) (mg : Str → Option Value) (C : Addr) : Prop where
  gC : mg "Kinds" = some (.ref C)
  cl : Cls K C
  n_leaf : NoAttr K C "_leaf"
  n_makings : NoAttr K C "_makings"
  n_names : NoAttr K C "_names"
  made : ∃ f fd, Mk K C f ∧ Fun K "__init__" "Kinds.__init__" s_Kinds_init f fd ∧ Binds K fd ["self", "leaf", "makings"] []
  p_leaf : PropD K C "leaf" "Kinds.leaf" s_Kinds_leaf
  p_makings : PropD K C "makings" "Kinds.makings" s_Kinds_makings
  p_names : PropD K C "names" "Kinds.names" s_Kinds_names
  m_losers : DefM K C "losers" "Kinds.losers" s_Kinds_losers ["self", "name", "winner"]
  m_contains : DefM K C "__contains__" "Kinds.__contains__" s_Kinds_contains ["self", "value"]
  m_getitem : DefM K C "__getitem__" "Kinds.__getitem__" s_Kinds_getitem ["self", "name"]
  m_len : DefM K C "__len__" "Kinds.__len__" s_Kinds_len ["self"]
  m_eq : DefM K C "__eq__" "Kinds.__eq__" s_Kinds_eq ["self", "other"]
  m_str : DefM K C "__str__" "Kinds.__str__" s_Kinds_str ["self"]
  ne : PySem.W.findIn K (.ref C) "__ne__" = some (some (.builtin "object.__ne__"))
  ob : PySem.W.mroIn K C (.type "object") = some true
  kit : PySem.W.kitOne K (.ref C) (.ref C) = some true
  kitT : PySem.W.kitOne K (.type "tuple") (.ref C) = some false
  kitD : PySem.W.kitOne K (.type "dict") (.ref C) = some false
  kitR : PySem.W.kitOne K (.ref C) (.type "tuple") = some false
  kitS : PySem.W.kitOne K (.ref C) (.type "str") = some false
  kit_NoneType : PySem.W.kitOne K (.type "NoneType") (.ref C) = some false
  kit_int : PySem.W.kitOne K (.type "int") (.ref C) = some false
  kit_bool : PySem.W.kitOne K (.type "bool") (.ref C) = some false
  kit_str : PySem.W.kitOne K (.type "str") (.ref C) = some false
  kit_list : PySem.W.kitOne K (.type "list") (.ref C) = some false
  ca : PySem.W.findIn K (.ref C) "__class__" = some (some (.builtin "object.__class__"))
  cg : PySem.W.specialIn K (.builtin "object.__class__") "__get__" = some (some (.builtin "getset_descriptor.__get__"))
  ct : PySem.W.takesIn K (.builtin "object.__class__") = some true
abbrev s_Tree_init : Stmt := inClass (topS 28) 0
theorem sc_Tree_init : FnScope ["self", "kinds", "key"] ["self", "kinds", "key"] (defScope s_Tree_init) := ⟨rfl, rfl, rfl, by decide +kernel, rfl, by decide +kernel, by decide +kernel⟩
abbrev s_Tree_linked : Stmt := inClass (topS 28) 1
theorem sc_Tree_linked : FnScope ["cls", "name", "trees", "kinds", "keys", "at", "winner", "losers", "tree"] ["cls", "name", "trees"] (defScope s_Tree_linked) := ⟨rfl, rfl, rfl, by decide +kernel, rfl, by decide +kernel, by decide +kernel⟩
abbrev s_Tree_kinds : Stmt := inClass (topS 28) 2
theorem sc_Tree_kinds : FnScope ["self"] ["self"] (defScope s_Tree_kinds) := ⟨rfl, rfl, rfl, by decide +kernel, rfl, by decide +kernel, by decide +kernel⟩
abbrev s_Tree_key : Stmt := inClass (topS 28) 3
theorem sc_Tree_key : FnScope ["self"] ["self"] (defScope s_Tree_key) := ⟨rfl, rfl, rfl, by decide +kernel, rfl, by decide +kernel, by decide +kernel⟩
abbrev s_Tree_kind : Stmt := inClass (topS 28) 4
theorem sc_Tree_kind : FnScope ["self"] ["self"] (defScope s_Tree_kind) := ⟨rfl, rfl, rfl, by decide +kernel, rfl, by decide +kernel, by decide +kernel⟩
abbrev s_Tree_rank : Stmt := inClass (topS 28) 5
theorem sc_Tree_rank : FnScope ["self"] ["self"] (defScope s_Tree_rank) := ⟨rfl, rfl, rfl, by decide +kernel, rfl, by decide +kernel, by decide +kernel⟩
abbrev s_Tree_size : Stmt := inClass (topS 28) 6
theorem sc_Tree_size : FnScope ["self"] ["self"] (defScope s_Tree_size) := ⟨rfl, rfl, rfl, by decide +kernel, rfl, by decide +kernel, by decide +kernel⟩
abbrev s_Tree_way : Stmt := inClass (topS 28) 7
theorem sc_Tree_way : FnScope ["self"] ["self"] (defScope s_Tree_way) := ⟨rfl, rfl, rfl, by decide +kernel, rfl, by decide +kernel, by decide +kernel⟩
abbrev s_Tree_content : Stmt := inClass (topS 28) 8
theorem sc_Tree_content : FnScope ["self"] ["self"] (defScope s_Tree_content) := ⟨rfl, rfl, rfl, by decide +kernel, rfl, by decide +kernel, by decide +kernel⟩
abbrev s_Tree_children : Stmt := inClass (topS 28) 9
theorem sc_Tree_children : FnScope ["self"] ["self"] (defScope s_Tree_children) := ⟨rfl, rfl, rfl, by decide +kernel, rfl, by decide +kernel, by decide +kernel⟩
abbrev s_Tree_broken : Stmt := inClass (topS 28) 10
theorem sc_Tree_broken : FnScope ["self", "digit"] ["self"] (defScope s_Tree_broken) := ⟨rfl, rfl, rfl, by decide +kernel, rfl, by decide +kernel, by decide +kernel⟩
abbrev s_Tree_contains : Stmt := inClass (topS 28) 13
theorem sc_Tree_contains : FnScope ["self", "value"] ["self", "value"] (defScope s_Tree_contains) := ⟨rfl, rfl, rfl, by decide +kernel, rfl, by decide +kernel, by decide +kernel⟩
abbrev s_Tree_len : Stmt := inClass (topS 28) 14
theorem sc_Tree_len : FnScope ["self"] ["self"] (defScope s_Tree_len) := ⟨rfl, rfl, rfl, by decide +kernel, rfl, by decide +kernel, by decide +kernel⟩
abbrev s_Tree_eq : Stmt := inClass (topS 28) 15
theorem sc_Tree_eq : FnScope ["self", "other"] ["self", "other"] (defScope s_Tree_eq) := ⟨rfl, rfl, rfl, by decide +kernel, rfl, by decide +kernel, by decide +kernel⟩
abbrev s_Tree_str : Stmt := inClass (topS 28) 16
theorem sc_Tree_str : FnScope ["self"] ["self"] (defScope s_Tree_str) := ⟨rfl, rfl, rfl, by decide +kernel, rfl, by decide +kernel, by decide +kernel⟩
/-- the class Tree as the top has made it -/
structure Cl_Tree (K : PySem.W.Frag) (mg : Str → Option Value) (C : Addr) : Prop where
  gC : mg "Tree" = some (.ref C)
  cl : Cls K C
  n_kinds : NoAttr K C "_kinds"
  n_key : NoAttr K C "_key"
  n_way : NoAttr K C "_way"
  n_children : NoAttr K C "_children"
  n_size : NoAttr K C "_size"
  made : ∃ f fd, Mk K C f ∧ Fun K "__init__" "Tree.__init__" s_Tree_init f fd ∧ Binds K fd ["self", "kinds", "key"] []
  p_kinds : PropD K C "kinds" "Tree.kinds" s_Tree_kinds
  p_key : PropD K C "key" "Tree.key" s_Tree_key
  p_kind : PropD K C "kind" "Tree.kind" s_Tree_kind
  p_rank : PropD K C "rank" "Tree.rank" s_Tree_rank
  p_size : PropD K C "size" "Tree.size" s_Tree_size
  p_way : PropD K C "way" "Tree.way" s_Tree_way
  p_content : PropD K C "content" "Tree.content" s_Tree_content
  p_children : PropD K C "children" "Tree.children" s_Tree_children
  m_broken : DefM K C "broken" "Tree.broken" s_Tree_broken ["self"]
  m_contains : DefM K C "__contains__" "Tree.__contains__" s_Tree_contains ["self", "value"]
  m_len : DefM K C "__len__" "Tree.__len__" s_Tree_len ["self"]
  m_eq : DefM K C "__eq__" "Tree.__eq__" s_Tree_eq ["self", "other"]
  m_str : DefM K C "__str__" "Tree.__str__" s_Tree_str ["self"]
  k_linked : ClsMd K C "linked" "Tree.linked" s_Tree_linked ["cls", "name", "trees"]
  ne : PySem.W.findIn K (.ref C) "__ne__" = some (some (.builtin "object.__ne__"))
  ob : PySem.W.mroIn K C (.type "object") = some true
  kit : PySem.W.kitOne K (.ref C) (.ref C) = some true
  kitT : PySem.W.kitOne K (.type "tuple") (.ref C) = some false
  kitD : PySem.W.kitOne K (.type "dict") (.ref C) = some false
  kitR : PySem.W.kitOne K (.ref C) (.type "tuple") = some false
  kitS : PySem.W.kitOne K (.ref C) (.type "str") = some false
  kit_NoneType : PySem.W.kitOne K (.type "NoneType") (.ref C) = some false
  kit_int : PySem.W.kitOne K (.type "int") (.ref C) = some false
  kit_bool : PySem.W.kitOne K (.type "bool") (.ref C) = some false
  kit_str : PySem.W.kitOne K (.type "str") (.ref C) = some false
  kit_list : PySem.W.kitOne K (.type "list") (.ref C) = some false
  ca : PySem.W.findIn K (.ref C) "__class__" = some (some (.builtin "object.__class__"))
  cg : PySem.W.specialIn K (.builtin "object.__class__") "__get__" = some (some (.builtin "getset_descriptor.__get__"))
  ct : PySem.W.takesIn K (.builtin "object.__class__") = some true
/-- what the walk asks of the top -/
structure Top (K : PySem.W.Frag) (mg : Str → Option Value) : Prop where
  b_IndexError : mg "IndexError" = none
  b_KeyError : mg "KeyError" = none
  b_OverflowError : mg "OverflowError" = none
  b_TypeError : mg "TypeError" = none
  b_ValueError : mg "ValueError" = none
  b_abs : mg "abs" = none
  b_all : mg "all" = none
  b_bool : mg "bool" = none
  b_classmethod : mg "classmethod" = none
  b_dict : mg "dict" = none
  b_int : mg "int" = none
  b_isinstance : mg "isinstance" = none
  b_len : mg "len" = none
  b_list : mg "list" = none
  b_max : mg "max" = none
  b_min : mg "min" = none
  b_property : mg "property" = none
  b_range : mg "range" = none
  b_repr : mg "repr" = none
  b_set : mg "set" = none
  b_sorted : mg "sorted" = none
  b_str : mg "str" = none
  b_sum : mg "sum" = none
  b_tuple : mg "tuple" = none
  b_zip : mg "zip" = none
  g_MAX_LETTERS : ∃ t, mg "MAX_LETTERS" = some (.int 8 t)
  g__TOO_LONG : ∃ t, mg "_TOO_LONG" = some (.int 1000000000000000000000000000000000000000000000000000000000000 t)
  g_MAX_KINDS : ∃ t, mg "MAX_KINDS" = some (.int 6 t)
  g_MAX_PARTS : ∃ t, mg "MAX_PARTS" = some (.int 3 t)
  g_MAX_NODES : ∃ t, mg "MAX_NODES" = some (.int 5000 t)
  d_wall : Def K mg "_wall" "_wall" s_wall ["k"]
  d_is_integer : Def K mg "is_integer" "is_integer" s_is_integer ["value"]
  d_is_count : Def K mg "is_count" "is_count" s_is_count ["value"]
  d_is_name : Def K mg "is_name" "is_name" s_is_name ["value"]
  d_is_sorted : DefK K mg "is_sorted" "is_sorted" s_is_sorted ["value", "most"] 1 ["most"]
  d_is_making : Def K mg "_is_making" "_is_making" s_is_making ["value"]
  d_all_names : Def K mg "_all_names" "_all_names" s_all_names ["leaf", "makings"]
  d_are_kinds : Def K mg "_are_kinds" "_are_kinds" s_are_kinds ["leaf", "makings"]
  d_are_fit : Def K mg "_are_fit" "_are_fit" s_are_fit ["trees"]
  d_tree_of : Def K mg "_tree_of" "_tree_of" s_tree_of ["kinds", "key", "way", "children"]
  d_keys_in : Def K mg "_keys_in" "_keys_in" s_keys_in ["tree"]
  d_nodes_of : Def K mg "nodes_of" "nodes_of" s_nodes_of ["tree"]
  d_law_dice : Def K mg "_law_dice" "_law_dice" s_law_dice ["_law_script", "_law_spot"]
  d_law_roll : Def K mg "_law_roll" "_law_roll" s_law_roll ["_law_dice_here", "_law_total"]
  d_law_pick : Def K mg "_law_pick" "_law_pick" s_law_pick ["_law_dice_here", "_law_items"]
  d_law_mixed : Def K mg "_law_mixed" "_law_mixed" s_law_mixed ["_law_dice_here", "_law_items"]
  d_law_made_kinds : Def K mg "_law_made_kinds" "_law_made_kinds" s_law_made_kinds ["_law_plain"]
  d_law_sizes : Def K mg "_law_sizes" "_law_sizes" s_law_sizes ["_law_plain", "_law_bound"]
  d_law_pool_names : Def K mg "_law_pool_names" "_law_pool_names" s_law_pool_names ["_law_dice_here", "_law_many"]
  d_law_drawn_makings : Def K mg "_law_drawn_makings" "_law_drawn_makings" s_law_drawn_makings ["_law_dice_here"]
  d_law_link_plain : Def K mg "_law_link_plain" "_law_link_plain" s_law_link_plain ["_law_name", "_law_trees"]
  d_law_tree_key : Def K mg "_law_tree_key" "_law_tree_key" s_law_tree_key ["_law_dice_here"]
  d_law_grown_pair : Def K mg "_law_grown_pair" "_law_grown_pair" s_law_grown_pair ["_law_dice_here", "_law_plain", "_law_kinds", "_law_name", "_law_rank"]
  d_law_drawn_place : Def K mg "_law_drawn_place" "_law_drawn_place" s_law_drawn_place ["_law_dice_here", "_law_plain", "_law_most"]
  d_law_tree_nodes : Def K mg "_law_tree_nodes" "_law_tree_nodes" s_law_tree_nodes ["_law_tree", "_law_depth"]
  d_law_plain_keys : Def K mg "_law_plain_keys" "_law_plain_keys" s_law_plain_keys ["_law_tree"]
  d_law_is_tree_like : Def K mg "_law_is_tree_like" "_law_is_tree_like" s_law_is_tree_like ["_law_made", "_law_tree"]
  d_law_is_broken_right : Def K mg "_law_is_broken_right" "_law_is_broken_right" s_law_is_broken_right ["_law_made", "_law_tree"]
  d_law_told_right : Def K mg "_law_told_right" "_law_told_right" s_law_told_right ["_law_made", "_law_tree", "_law_kinds"]
  d_law_right : Def K mg "_law_right" "_law_right" s_law_right ["_law_dice_here"]
  c_Kinds : ∃ C, Cl_Kinds K mg C
  c_Tree : ∃ C, Cl_Tree K mg C
  p_InvalidTree : ∃ C, XPln K mg "InvalidTree" "ValueError.__new__" "ValueError.__init__" [.type "ValueError", .type "Exception", .type "BaseException", .type "object"] C ∧ XCls K C ∧ PySem.W.exmOne K (.ref C) (.ref C) = some true
  p_InvalidOperation : ∃ C, XPln K mg "InvalidOperation" "ValueError.__new__" "ValueError.__init__" [.type "ValueError", .type "Exception", .type "BaseException", .type "object"] C ∧ XCls K C ∧ PySem.W.exmOne K (.ref C) (.ref C) = some true
  p_InvalidKinds : ∃ C, XPln K mg "InvalidKinds" "ValueError.__new__" "ValueError.__init__" [.type "ValueError", .type "Exception", .type "BaseException", .type "object"] C ∧ XCls K C ∧ PySem.W.exmOne K (.ref C) (.ref C) = some true
end Kl

set_option maxRecDepth 100000
set_option maxHeartbeats 4000000
namespace Kl
open PySem PySem.Spec PyProof.Rows L2 Gx Mx
section
variable {P : Program} {w : World} {K : PySem.W.Frag} {mg : Str → Option Value} {base : Heap}
/-! ### kinds of values -/
theorem tyx_same {H H' : Hp} (sm : Same H H') {v : V} {t : Value} (h : TyX K H v t) : TyX K H' v t := by
  cases h with
  | base b =>
    cases b with
    | non => exact .base .non
    | bl x => exact .base (.bl x)
    | int i => exact .base (.int i)
    | str x => exact .base (.str x)
    | flt x => exact .base (.flt x)
    | lst e => exact .base (.lst (sm _ _ e))
    | frz e => exact .base (.frz (sm _ _ e))
    | tup e => exact .base (.tup (sm _ _ e))
    | dK e => exact .base (.dK (sm _ _ e))
    | dT e => exact .base (.dT (sm _ _ e))
    | ins e cl ha hn htk hm => exact .base (.ins (sm _ _ e) cl ha hn htk hm)
  | byt b => exact .byt b
  | set e => exact .set (sm _ _ e)
  | kList e c => exact .kList e c
  | kTuple e c => exact .kTuple e c
  | kDict e c => exact .kDict e c
  | fTuple e => exact .fTuple (sm _ _ e)
  | fDict e => exact .fDict (sm _ _ e)
/-- the value is no instance of this built-in class -/
def Not (K : PySem.W.Frag) (H : Hp) (v : V) (T : String) : Prop := ∃ t, TyX K H v t ∧ PySem.W.kitOne K t (.type T) = some false
theorem Not.same {H H' : Hp} (sm : Same H H') {v : V} {T : String} (h : Not K H v T) : Not K H' v T := by
  obtain ⟨t, a, b⟩ := h
  exact ⟨t, tyx_same sm a, b⟩
/-- text, or not -/
def NameArg (K : PySem.W.Frag) (H : Hp) (v : V) : Prop := (∃ z : Str, v = .str z ∧ z.length ≤ sizeLine) ∨ ((∀ z, v ≠ .str z) ∧ Not K H v "str")
theorem NameArg.same {H H' : Hp} (sm : Same H H') {v : V} (h : NameArg K H v) : NameArg K H' v := by
  rcases h with h | ⟨a, b⟩
  · exact .inl h
  · exact .inr ⟨a, b.same sm⟩
/-- int, truth, or neither -/
def IntArg (K : PySem.W.Frag) (H : Hp) (v : V) : Prop := (∃ i, v = .int i) ∨ (∃ b, v = .bl b) ∨ ((∀ i, v ≠ .int i) ∧ Not K H v "int")
theorem IntArg.same {H H' : Hp} (sm : Same H H') {v : V} (h : IntArg K H v) : IntArg K H' v := by
  rcases h with h | h | ⟨a, b⟩
  · exact .inl h
  · exact .inr (.inl h)
  · exact .inr (.inr ⟨a, b.same sm⟩)
/-! ### is_integer, is_count -/
def TEN60 : Int := 1000000000000000000000000000000000000000000000000000000000000
def intV : V → Bool
  | .int i => decide (-TEN60 < i) && decide (i < TEN60)
  | _ => false
def cntV : V → Bool
  | .int i => (decide (-TEN60 < i) && decide (i < TEN60)) && decide (0 ≤ i)
  | _ => false
def spInt (K : PySem.W.Frag) : Sp := fun vs H Q _ => ∃ v : V, vs = [v] ∧ IntArg K H v ∧ Q (.bl (intV v)) H
theorem ok_int {f : Addr} {fd : FuncData} (F : Fun K "is_integer" "is_integer" s_is_integer f fd) (T : Top K mg) : FnOk P w K mg base CX0 1 f fd ["value"] (spInt K) := by
  obtain ⟨tm, gm⟩ := T.g__TOO_LONG
  refine F.ok sc_is_integer (fun vs H Q E h => ?_) (fun cdv A outer s H vs Q E hr h => ?_)
  · obtain ⟨v, rfl, _⟩ := h
    rfl
  · obtain ⟨v, rfl, hv, q⟩ := h
    refine ⟨_, pss_cons (ps_if (PW.pt (pw_or (pt_not (pt_val (pe_callB call_isi (by rfl) T.b_isinstance (by decide +kernel) (pa_cons (pv 0) (pa_cons (pe_bltn (v := .ty "int") (by rfl) T.b_int (by decide +kernel) rfl) pa_nil)))))
          (pw_or1 (pt_val (pe_callB call_isi (by rfl) T.b_isinstance (by decide +kernel) (pa_cons (pv 0) (pa_cons (pe_bltn (v := .ty "bool") (by rfl) T.b_bool (by decide +kernel) rfl) pa_nil)))))))
        (pss_one (ps_ret pe_bl)) pss_nil)
      (pss_one (ps_ret (pe_chain op_lt op_lt (pe_un un_neg (pe_glob (v := .int TEN60) (by rfl) gm ⟨_, rfl⟩)) (pv 0) (pe_glob (v := .int TEN60) (by rfl) gm ⟨_, rfl⟩)))), ?_⟩
    rcases hv with ⟨i, rfl⟩ | ⟨b, rfl⟩ | ⟨hn, t, ht, hk⟩
    · refine ⟨_, rfl, _, .ty "int", .type "int", .type "int", true, rfl, .ty _, .base (.int i), kit_ty (by decide +kernel), true, rfl, ?_⟩
      refine ⟨_, rfl, _, .ty "bool", .type "int", .type "bool", false, rfl, .ty _, .base (.int i), kit_ty (by decide +kernel), false, rfl, ?_⟩
      refine ⟨_, rfl, _, rfl, _, _, rfl, rfl, _, rfl, ?_⟩
      have q' : Q (.bl (decide (-TEN60 < i) && decide (i < TEN60))) H := q
      cases e : decide (-TEN60 < i) with
      | false =>
        rw [e] at q'
        exact q'
      | true =>
        rw [e] at q'
        exact ⟨_, _, rfl, rfl, q'⟩
    · refine ⟨_, rfl, _, .ty "int", .type "bool", .type "int", true, rfl, .ty _, .base (.bl b), kit_ty (by decide +kernel), true, rfl, ?_⟩
      exact ⟨_, rfl, _, .ty "bool", .type "bool", .type "bool", true, rfl, .ty _, .base (.bl b), kit_ty (by decide +kernel), true, rfl, q⟩
    · refine ⟨_, rfl, _, .ty "int", t, .type "int", false, rfl, .ty _, ht, hk, false, rfl, ?_⟩
      have e : intV v = false := by
        cases v with
        | int i => exact absurd rfl (hn i)
        | _ => rfl
      rw [e] at q
      exact q
def spCnt (K : PySem.W.Frag) : Sp := fun vs H Q _ => ∃ v : V, vs = [v] ∧ IntArg K H v ∧ Q (.bl (cntV v)) H
theorem ok_cnt {f : Addr} {fd : FuncData} (F : Fun K "is_count" "is_count" s_is_count f fd) (T : Top K mg) : FnOk P w K mg base CX0 2 f fd ["value"] (spCnt K) := by
  have ci : Cal P w K mg base 1 "is_integer" ["value"] (spInt K) := T.d_is_integer.cal fun f fd F => ok_int F T
  refine F.ok sc_is_count (fun vs H Q E h => ?_) (fun cdv A outer s H vs Q E hr h => ?_)
  · obtain ⟨v, rfl, _⟩ := h
    rfl
  · obtain ⟨v, rfl, hv, q⟩ := h
    refine ⟨_, pss_one (ps_ret (pe_and (pe_cal ci hr (by rfl) (pa_cons (pv 0) pa_nil)) (pe_one (pe_cmpR op_ge (pv 0) pe_int (nomark _))))), ?_⟩
    refine ⟨_, rfl, v, rfl, hv, _, rfl, ?_⟩
    cases v with
    | int i =>
      have q' : Q (.bl (intV (.int i) && decide (0 ≤ i))) H := q
      cases e : intV (.int i) with
      | false =>
        rw [e] at q'
        exact q'
      | true =>
        rw [e] at q'
        exact ⟨_, rfl, _, _, rfl, rfl, q'⟩
    | _ => exact q
/-! ### is_name -/
def nameV : V → Bool
  | .str z => nameB z
  | _ => false
def spName (K : PySem.W.Frag) : Sp := fun vs H Q _ => ∃ v : V, vs = [v] ∧ NameArg K H v ∧ Q (.bl (nameV v)) H
theorem nameV_no {v : V} (h : ∀ z, v ≠ .str z) : nameV v = false := by
  cases v with
  | str z => exact absurd rfl (h z)
  | _ => rfl
theorem ok_name {f : Addr} {fd : FuncData} (F : Fun K "is_name" "is_name" s_is_name f fd) (T : Top K mg) : FnOk P w K mg base CX0 1 f fd ["value"] (spName K) := by
  obtain ⟨tm, gm⟩ := T.g_MAX_LETTERS
  refine F.ok sc_is_name (fun vs H Q E h => ?_) (fun cdv A outer s H vs Q E hr h => ?_)
  · obtain ⟨v, rfl, _⟩ := h
    rfl
  · obtain ⟨v, rfl, hv, q⟩ := h
    refine ⟨_, pss_cons (ps_if (PW.pt (pw_or (pt_not (pt_val (pe_callB call_isi (by rfl) T.b_isinstance (by decide +kernel) (pa_cons (pv 0) (pa_cons (pe_bltn (v := .ty "str") (by rfl) T.b_str (by decide +kernel) rfl) pa_nil)))))
          (pw_or1 (pt_not (pt_chain op_le op_le pe_int (pe_callB call_len_str (by rfl) T.b_len PySem.boot_len (pa_cons (pv 0) pa_nil)) (pe_glob (v := .int 8) (by rfl) gm ⟨_, rfl⟩))))))
        (pss_one (ps_ret pe_bl)) pss_nil)
      (pss_one (ps_ret (pe_and (pe_m0 PySem.F.slot_str_isascii PySem.F.type_str_isascii mt_isascii (pv 0))
        (pe_and (pe_m0 PySem.F.slot_str_isalpha PySem.F.type_str_isalpha mt_isalpha (pv 0)) (pe_one (pe_m0 PySem.F.slot_str_islower PySem.F.type_str_islower mt_islower (pv 0))))))), ?_⟩
    rcases hv with ⟨z, rfl, hz⟩ | ⟨hn, t, ht, hk⟩
    · have q' : Q (.bl (nameB z)) H := q
      refine ⟨_, rfl, _, .ty "str", .type "str", .type "str", true, rfl, .ty _, .base (.str z), kit_ty (by decide +kernel), true, rfl, ?_⟩
      refine ⟨_, rfl, _, rfl, hz, _, _, rfl, rfl, _, rfl, ite2 (fun e1 => ?_) (fun e1 => ?_)⟩
      · have h1 : 1 ≤ z.cps.size := by
          have e2 : (1 : Int) ≤ (z.length : Int) := of_decide_eq_true e1
          have e3 : z.length = z.cps.size := rfl
          omega
        refine ⟨_, _, rfl, rfl, _, rfl, ?_⟩
        have e3 : decide ((z.length : Int) ≤ 8) = decide (z.cps.size ≤ 8) := decide_eq_decide.mpr (by
          have e3 : z.length = z.cps.size := rfl
          omega)
        by_cases h8 : z.cps.size ≤ 8
        · have e4 : decide ((z.length : Int) ≤ 8) = true := e3.trans (decide_eq_true h8)
          rw [e4]
          have e5 : nameB z = (Txt.isascii z && (Txt.isalpha z && Txt.islower z)) := by
            rw [name_by z h1]
            unfold nameB
            rw [decide_eq_true h1, decide_eq_true h8, Bool.true_and, Bool.true_and]
          rw [e5] at q'
          refine ⟨_, rfl, ⟨_, rfl⟩, z, rfl, rfl, trivial, _, rfl, ?_⟩
          cases a1 : Txt.isascii z with
          | false =>
            rw [a1] at q'
            exact q'
          | true =>
            rw [a1] at q'
            refine ⟨_, rfl, ⟨_, rfl⟩, z, rfl, rfl, trivial, _, rfl, ?_⟩
            cases a2 : Txt.isalpha z with
            | false =>
              rw [a2] at q'
              exact q'
            | true =>
              rw [a2] at q'
              exact ⟨_, rfl, ⟨_, rfl⟩, z, rfl, rfl, trivial, q'⟩
        · have e4 : decide ((z.length : Int) ≤ 8) = false := e3.trans (decide_eq_false h8)
          rw [e4]
          show Q (.bl false) H
          have e5 : nameB z = false := by
            unfold nameB
            rw [decide_eq_false h8, Bool.and_false, Bool.false_and]
          rw [← e5]
          exact q'
      · have h1 : ¬ 1 ≤ z.cps.size := fun h => e1 (decide_eq_true (by
          have e3 : z.length = z.cps.size := rfl
          omega))
        refine ⟨_, rfl, ?_⟩
        show Q (.bl false) H
        have e5 : nameB z = false := by
          unfold nameB
          rw [decide_eq_false h1, Bool.false_and, Bool.false_and]
        rw [← e5]
        exact q'
    · refine ⟨_, rfl, _, .ty "str", t, .type "str", false, rfl, .ty _, ht, hk, false, rfl, ?_⟩
      rw [nameV_no hn] at q
      exact q
end
end Kl

set_option maxRecDepth 100000
set_option maxHeartbeats 4000000
namespace Kl
open PySem PySem.Spec PyProof.Rows L2 Gx Mx
/-! ### kinds and their makings: the mathematics -/
abbrev Mak := List (Str × List Str)
/-- the names that are drawn -/
def POOL : List Str := ["a", "b", "ab", "c", "leaf", "zzzzzzzz", "d", "e", "f", "aa", "page", "to", "qq"]
theorem pool_names : POOL.all nameB = true := by decide +kernel
theorem pool_short : POOL.all (fun z => decide (z.length ≤ 8)) = true := by decide +kernel
theorem pool_nd : POOL.Nodup := by decide +kernel
theorem pool_name {z : Str} (h : z ∈ POOL) : nameB z = true := List.all_eq_true.mp pool_names z h
theorem pool_len {z : Str} (h : z ∈ POOL) : z.length ≤ 8 := of_decide_eq_true (List.all_eq_true.mp pool_short z h)
def keysOf (M : Mak) : List Str := M.map (·.1)
/-- these are kinds of drawn names -/
structure Vld (leaf : Str) (M : Mak) : Prop where
  lf : leaf ∈ POOL
  keys : ∀ z ∈ keysOf M, z ∈ POOL
  nd : (keysOf M).Nodup
  parts : ∀ m ∈ M, sortedS m.2 = true ∧ 2 ≤ m.2.length ∧ m.2.length ≤ 3 ∧ ∀ p ∈ m.2, p = leaf ∨ p ∈ keysOf M
  few : ∀ ns : List Str, ns.Nodup → (∀ z ∈ ns, z = leaf ∨ z ∈ keysOf M) → ns.length ≤ 6
theorem Vld.part {leaf : Str} {M : Mak} (v : Vld leaf M) {m : Str × List Str} (hm : m ∈ M) {p : Str} (hp : p ∈ m.2) : p ∈ POOL := by
  rcases (v.parts m hm).2.2.2 p hp with rfl | h
  · exact v.lf
  · exact v.keys p h
theorem Vld.len {leaf : Str} {M : Mak} (v : Vld leaf M) : M.length ≤ 6 := by
  have h := v.few (keysOf M) v.nd fun z hz => .inr hz
  unfold keysOf at h
  rw [List.length_map] at h
  exact h
/-- the ascending names of kinds -/
structure IsNames (leaf : Str) (ks ns : List Str) : Prop where
  srt : sortedS ns = true
  nd : ns.Nodup
  mem : ∀ z, z ∈ ns ↔ z = leaf ∨ z ∈ ks
theorem sorted_same {l m : List Str} (hl : sortedS l = true) (hm : sortedS m = true) (dl : l.Nodup) (dm : m.Nodup) (e : ∀ z, z ∈ l ↔ z ∈ m) : l = m :=
  sortedS_unique ((List.perm_ext_iff_of_nodup dl dm).mpr e) hl hm
theorem IsNames.unique {leaf : Str} {ks ks' ns ms : List Str} (h : IsNames leaf ks ns) (h' : IsNames leaf ks' ms) (e : ∀ z, z ∈ ks ↔ z ∈ ks') : ns = ms :=
  sorted_same h.srt h'.srt h.nd h'.nd fun z => by rw [h.mem, h'.mem, e]
theorem sortedS_sub {l m : List Str} (h : sortedS m = true) (s : l.Sublist m) : sortedS l = true := (sortedS_iff l).mpr (((sortedS_iff m).mp h).sublist s)
/-! ### makings looked up -/
def lookM (M : Mak) (z : Str) : Option (List Str) := (M.find? fun m => decide (m.1 = z)).map (·.2)
theorem lookM_cons (m : Str × List Str) (M : Mak) (z : Str) : lookM (m :: M) z = if m.1 = z then some m.2 else lookM M z := by
  unfold lookM
  rw [List.find?_cons]
  by_cases h : m.1 = z
  · rw [if_pos h, decide_eq_true h]
    rfl
  · rw [if_neg h, decide_eq_false h]
theorem lookM_mem {M : Mak} (nd : (keysOf M).Nodup) {m : Str × List Str} (h : m ∈ M) : lookM M m.1 = some m.2 := by
  induction M with
  | nil => cases h
  | cons x M ih =>
    have nd' : (x.1 :: keysOf M).Nodup := nd
    rw [List.nodup_cons] at nd'
    rw [lookM_cons]
    rcases List.mem_cons.mp h with rfl | h
    · rw [if_pos rfl]
    · rw [if_neg fun e => nd'.1 (by rw [e]; exact List.mem_map.mpr ⟨m, h, rfl⟩)]
      exact ih nd'.2 h
theorem lookM_some {M : Mak} {z : Str} {ps : List Str} (h : lookM M z = some ps) : (z, ps) ∈ M := by
  induction M with
  | nil => cases h
  | cons x M ih =>
    rw [lookM_cons] at h
    by_cases e : x.1 = z
    · rw [if_pos e] at h
      cases h
      rw [← e]
      exact List.mem_cons_self
    · rw [if_neg e] at h
      exact List.mem_cons_of_mem _ (ih h)
theorem lookM_none {M : Mak} {z : Str} : lookM M z = none ↔ z ∉ keysOf M := by
  induction M with
  | nil => exact ⟨(fun _ h => nomatch h), fun _ => rfl⟩
  | cons x M ih =>
    rw [lookM_cons]
    show _ ↔ z ∉ x.1 :: keysOf M
    rw [List.mem_cons, not_or]
    by_cases e : x.1 = z
    · rw [if_pos e]
      exact ⟨(fun h => nomatch h), fun h => absurd e.symm h.1⟩
    · rw [if_neg e, ih]
      exact ⟨fun h => ⟨fun q => e q.symm, h⟩, fun h => h.2⟩
theorem lookM_in {M : Mak} {z : Str} (h : z ∈ keysOf M) : ∃ ps, lookM M z = some ps := by
  cases e : lookM M z with
  | none => exact absurd h (lookM_none.mp e)
  | some ps => exact ⟨ps, rfl⟩
/-- M' is M, ascending by its keys -/
structure OrdOf (M M' : Mak) : Prop where
  srt : sortedS (keysOf M') = true
  nd : (keysOf M').Nodup
  look : ∀ z, lookM M' z = lookM M z
theorem OrdOf.keys {M M' : Mak} (h : OrdOf M M') (z : Str) : z ∈ keysOf M' ↔ z ∈ keysOf M := by
  have e := h.look z
  constructor
  · intro q
    obtain ⟨ps, hp⟩ := lookM_in q
    rw [hp] at e
    cases c : decide (z ∈ keysOf M) with
    | true => exact of_decide_eq_true c
    | false =>
      rw [lookM_none.mpr (of_decide_eq_false c)] at e
      cases e
  · intro q
    obtain ⟨ps, hp⟩ := lookM_in q
    rw [hp] at e
    cases c : decide (z ∈ keysOf M') with
    | true => exact of_decide_eq_true c
    | false =>
      rw [lookM_none.mpr (of_decide_eq_false c)] at e
      cases e
theorem mak_of_keys {M : Mak} (nd : (keysOf M).Nodup) : M = (keysOf M).map fun z => (z, (lookM M z).getD []) := by
  unfold keysOf
  rw [List.map_map]
  refine (List.map_id M).symm.trans (List.map_congr_left fun m hm => ?_)
  show m = (m.1, (lookM M m.1).getD [])
  rw [lookM_mem nd hm]
  rfl
theorem OrdOf.eq {M M' : Mak} (h : OrdOf M M') {ys : List Str} (hs : sortedS ys = true) (hp : ys.Perm (keysOf M)) (nd : (keysOf M).Nodup) : M' = ys.map fun z => (z, (lookM M z).getD []) := by
  have e : keysOf M' = ys := sorted_same h.srt hs h.nd (hp.nodup_iff.mpr nd) fun z => by rw [h.keys, hp.mem_iff]
  rw [mak_of_keys h.nd, e]
  exact List.map_congr_left fun z _ => by rw [h.look]
theorem OrdOf.mk' {M : Mak} {ys : List Str} (hs : sortedS ys = true) (hp : ys.Perm (keysOf M)) (nd : (keysOf M).Nodup) : OrdOf M (ys.map fun z => (z, (lookM M z).getD [])) := by
  have ek : keysOf (ys.map fun z => (z, (lookM M z).getD [])) = ys := by
    unfold keysOf
    rw [List.map_map]
    exact List.map_id ys
  have dy : ys.Nodup := hp.nodup_iff.mpr nd
  refine ⟨by rw [ek]; exact hs, by rw [ek]; exact dy, fun z => ?_⟩
  by_cases h : z ∈ ys
  · have h1 := lookM_mem (M := ys.map fun z => (z, (lookM M z).getD [])) (by rw [ek]; exact dy) (List.mem_map.mpr ⟨z, h, rfl⟩)
    obtain ⟨ps, q⟩ := lookM_in (hp.mem_iff.mp h)
    rw [h1, q]
    rfl
  · rw [lookM_none.mpr (by rw [ek]; exact h), lookM_none.mpr fun q => h (hp.mem_iff.mpr q)]
theorem OrdOf.vld {leaf : Str} {M M' : Mak} (h : OrdOf M M') (v : Vld leaf M) : Vld leaf M' := by
  refine ⟨v.lf, fun z hz => v.keys z ((h.keys z).mp hz), h.nd, fun m hm => ?_, fun ns hn hs => v.few ns hn fun z hz => (hs z hz).imp id (h.keys z).mp⟩
  have e := h.look m.1
  rw [lookM_mem h.nd hm] at e
  obtain ⟨h1, h2, h3, h4⟩ := v.parts (m.1, m.2) (lookM_some e.symm)
  exact ⟨h1, h2, h3, fun p hp => (h4 p hp).imp id (h.keys p).mpr⟩
/-! ### what is told of kinds -/
def lineK (n : Str) (ps : List Str) : Str := (("kind " : Str) ++ n ++ " ") ++ Txt.join "+" ps
def linesK (leaf : Str) (M : Mak) : List Str := (("leaf " : Str) ++ leaf) :: M.map fun m => lineK m.1 m.2
def usersK (M : Mak) (z : Str) : List Str := (M.filter fun m => decide (z ∈ m.2)).map (·.1)
def partedK (ps : List Str) (z : Str) : List Str := ps.take (ps.idxOf z) ++ ps.drop (ps.idxOf z + 1)
/-- the users by the names and the makings in any order -/
theorem users_by {leaf : Str} {M M' : Mak} {ns : List Str} (h : OrdOf M M') (hn : IsNames leaf (keysOf M) ns) (z : Str) : ns.filter (fun u => decide (z ∈ (lookM M u).getD [])) = usersK M' z := by
  have e : usersK M' z = (keysOf M').filter fun u => decide (z ∈ (lookM M u).getD []) := by
    unfold usersK keysOf
    rw [List.filter_map]
    refine congrArg _ (List.filter_congr fun m hm => ?_)
    show decide (z ∈ m.2) = decide (z ∈ (lookM M m.1).getD [])
    rw [← h.look, lookM_mem h.nd hm]
    rfl
  rw [e]
  refine sorted_same (sortedS_sub hn.srt List.filter_sublist) (sortedS_sub h.srt List.filter_sublist) (hn.nd.sublist List.filter_sublist) (h.nd.sublist List.filter_sublist) fun u => ?_
  rw [List.mem_filter, List.mem_filter, hn.mem, h.keys]
  constructor
  · rintro ⟨h1, h2⟩
    refine ⟨?_, h2⟩
    cases c : decide (u ∈ keysOf M) with
    | true => exact of_decide_eq_true c
    | false =>
      rw [lookM_none.mpr (of_decide_eq_false c)] at h2
      exact absurd (of_decide_eq_true h2) (by simp)
  · rintro ⟨h1, h2⟩
    exact ⟨.inr h1, h2⟩
/-! ### makings in the heap -/
/-- a tuple in the heap whose object has no dict of its own -/
def TupZ (H : Hp) (a : Addr) (xs : List V) : Prop := ∃ ob : Obj, ob.dict = none ∧ H a = some (.frz ob (.tup xs))
theorem TupZ.sq {K : PySem.W.Frag} {H : Hp} {a : Addr} {xs : List V} (h : TupZ H a xs) : SqT K H a xs := by
  obtain ⟨ob, _, e⟩ := h
  exact .inl (.inr ⟨ob, e⟩)
theorem TupZ.ty {K : PySem.W.Frag} {H : Hp} {a : Addr} {xs : List V} (h : TupZ H a xs) : TyX K H (.ref a) (.type "tuple") := by
  obtain ⟨ob, _, e⟩ := h
  exact .fTuple e
theorem TupZ.at {H H' : Hp} {a : Addr} {xs : List V} (h : TupZ H a xs) (s : ∀ o, H a = some o → H' a = some o) : TupZ H' a xs := by
  obtain ⟨ob, d, e⟩ := h
  exact ⟨ob, d, s _ e⟩
theorem TupZ.mono {H H' : Hp} {a : Addr} {xs : List V} (h : TupZ H a xs) (s : Same H H') : TupZ H' a xs := h.at fun o e => s _ _ e
theorem TupZ.ne {H : Hp} {a b : Addr} {xs : List V} (h : TupZ H a xs) {o : HO} (e : H b = some o) (n : ∀ ob, o ≠ .frz ob (.tup xs)) : a ≠ b := fun z => by
  obtain ⟨ob, _, q⟩ := h
  rw [z, e] at q
  exact n ob (Option.some.inj q)
def MakAt (H : Hp) (kvs : List (Key × V)) (M : Mak) : Prop := Paired (fun (kv : Key × V) (m : Str × List Str) => kv.1 = Sum.inr m.1 ∧ ∃ a, kv.2 = .ref a ∧ TupZ H a (m.2.map V.str)) kvs M
theorem MakAt.same {H H' : Hp} {kvs : List (Key × V)} {M : Mak} (h : MakAt H kvs M) (s : ∀ a xs, TupZ H a xs → TupZ H' a xs) : MakAt H' kvs M := by
  unfold MakAt at h ⊢
  induction h with
  | nil => exact .nil
  | cons h _ ih =>
    obtain ⟨h1, a, h2, h3⟩ := h
    exact .cons ⟨h1, a, h2, s a _ h3⟩ ih
theorem MakAt.len {H : Hp} {kvs : List (Key × V)} {M : Mak} (h : MakAt H kvs M) : kvs.length = M.length := Paired.length h
theorem MakAt.keys {H : Hp} {kvs : List (Key × V)} {M : Mak} (h : MakAt H kvs M) : kvs.map (·.1) = (keysOf M).map Sum.inr := by
  unfold MakAt at h
  induction h with
  | nil => rfl
  | cons h _ ih =>
    exact congr (congrArg List.cons h.1) ih
theorem MakAt.get {H : Hp} {kvs : List (Key × V)} {M : Mak} (h : MakAt H kvs M) (z : Str) : (lookM M z = none ∧ valV kvs (Sum.inr z) = none) ∨ ∃ ps a, lookM M z = some ps ∧ valV kvs (Sum.inr z) = some (.ref a) ∧ TupZ H a (ps.map V.str) := by
  unfold MakAt at h
  induction h with
  | nil => exact .inl ⟨rfl, rfl⟩
  | @cons kv m kvs M h _ ih =>
    obtain ⟨h1, a, h2, h3⟩ := h
    rw [lookM_cons]
    by_cases e : m.1 = z
    · rw [if_pos e, valV_pos (by rw [h1, e])]
      exact .inr ⟨m.2, a, rfl, by rw [h2], h3⟩
    · rw [if_neg e, valV_neg (by rw [h1]; exact fun q => e (Sum.inr.inj q))]
      exact ih
theorem MakAt.at {H : Hp} {kvs : List (Key × V)} {M : Mak} (h : MakAt H kvs M) {i : Nat} {k : Key} {v : V} (e : kvs[i]? = some (k, v)) : ∃ m a, M[i]? = some m ∧ k = Sum.inr m.1 ∧ v = .ref a ∧ TupZ H a (m.2.map V.str) := by
  unfold MakAt at h
  induction h generalizing i with
  | nil => cases e
  | @cons kv m kvs M h _ ih =>
    cases i with
    | zero =>
      cases e
      obtain ⟨h1, a, h2, h3⟩ := h
      exact ⟨m, a, rfl, h1, h2, h3⟩
    | succ i => exact ih e
theorem MakAt.key {H : Hp} {kvs : List (Key × V)} {M : Mak} (h : MakAt H kvs M) {z : Str} (hz : z ∈ keysOf M) : ∃ ps a, lookM M z = some ps ∧ valV kvs (Sum.inr z) = some (.ref a) ∧ TupZ H a (ps.map V.str) := by
  rcases h.get z with ⟨e, _⟩ | h
  · exact absurd hz (lookM_none.mp e)
  · exact h
/-- kinds with this leaf and these makings stand at x, their dict at md, their names ns -/
def KindsAt (C : Addr) (H : Hp) (x md : Addr) (leaf : Str) (M : Mak) (ns : List Str) : Prop :=
  ∃ dx nt kvs, H x = some (.ins C dx [("_leaf", .str leaf), ("_makings", .ref md), ("_names", .ref nt)]) ∧ H md = some (.dK kvs) ∧ MakAt H kvs M ∧ H nt = some (.tup (ns.map V.str))
theorem KindsAt.keep {C : Addr} {H H' : Hp} {x md e : Addr} {leaf : Str} {M : Mak} {ns : List Str} (h : KindsAt C H x md leaf M ns) (s : ∀ b o, b ≠ e → H b = some o → H' b = some o) (n1 : x ≠ e) (n2 : md ≠ e) (n3 : ∀ xs, H e ≠ some (.tup xs)) (n4 : ∀ xs, ¬ TupZ H e xs) : KindsAt C H' x md leaf M ns := by
  obtain ⟨dx, nt, kvs, h1, h2, h3, h4⟩ := h
  have t : ∀ a xs, H a = some (.tup xs) → H' a = some (.tup xs) := fun a xs q => s a _ (fun z => n3 xs (z ▸ q)) q
  exact ⟨dx, nt, kvs, s _ _ n1 h1, s _ _ n2 h2, h3.same fun a xs q => q.at fun o e' => s _ _ (fun z => n4 xs (z ▸ q)) e', t _ _ h4⟩
theorem KindsAt.same {C : Addr} {H H' : Hp} {x md : Addr} {leaf : Str} {M : Mak} {ns : List Str} (h : KindsAt C H x md leaf M ns) (s : Same H H') : KindsAt C H' x md leaf M ns := by
  obtain ⟨dx, nt, kvs, h1, h2, h3, h4⟩ := h
  exact ⟨dx, nt, kvs, s _ _ h1, s _ _ h2, h3.same fun a xs q => q.mono s, s _ _ h4⟩
end Kl

set_option maxRecDepth 100000
set_option maxHeartbeats 4000000
namespace Gx
open PySem PySem.Spec PyProof.Rows L2
/-- the name x is a def called with n values by position and keywords ks, that keeps sp and raises nothing -/
def CalO (P : Program) (w : World) (K : PySem.W.Frag) (mg : Str → Option Value) (base : Heap) (k : Nat) (x : Str) (ps : List Str) (n : Nat) (ks : List Str) (gV : List V → List V → List V) (sp : Sp) : Prop :=
  ∃ (f : Addr) (fd : FuncData) (g : List Value → List Value → List Value), FnOk P w K mg base CX0 k f fd ps sp ∧ PySem.W.keepIn K (.ref f) = true ∧ KBn K fd ps n ks g gV ∧ mg x = some (.ref f)
section
variable {P : Program} {w : World} {K : PySem.W.Frag} {mg : Str → Option Value} {base : Heap}
theorem DefK.calO {x qual : Str} {st : Stmt} {ps ks : List Str} {n : Nat} (d : DefK K mg x qual st ps n ks) {k : Nat} {sp : Sp} (h : ∀ f fd, Fun K x qual st f fd → FnOk P w K mg base CX0 k f fd ps sp) : CalO P w K mg base k x ps n ks (fun vs zs => vs ++ zs) sp := by
  obtain ⟨f, fd, F, b, g⟩ := d
  exact ⟨f, fd, _, h f fd F, F.kp, b, g⟩
theorem CalO.mono {x : Str} {ps ks : List Str} {n j k : Nat} {gV : List V → List V → List V} {sp : Sp} (c : CalO P w K mg base j x ps n ks gV sp) (h : j ≤ k) : CalO P w K mg base k x ps n ks gV sp := by
  obtain ⟨f, fd, g, F, more⟩ := c
  exact ⟨f, fd, g, F.mono h, more⟩
end
section
variable {X : Cx}
def tClO (n m : Nat) (sp : Sp) (gV : List V → List V → List V) (t tk : TA) : TE := fun σ H Q => t σ H fun vs H1 => tk σ H1 fun zs H2 => vs.length = n ∧ zs.length = m ∧ sp (gV vs zs) H2 Q E0
theorem pe_calO {x : Str} {ps ks : List Str} {n : Nat} {gV : List V → List V → List V} {sp : Sp} {k : Nat} {e : Expr} {es : List Expr} {kws : List Keyword} {t tk : TA} {p pos : Pos} (c : CalO X.prog X.w X.K X.mg X.base k x ps n ks gV sp) (room : Room k X.A) (hg : Gl X x)
    (h : PA X (e :: es) t) (hk : PK X kws tk) (hall : (backToKw pos (keywordEach kws X.env)).all (·.1.isSome) = true := by rfl) (hks : (backToKw pos (keywordEach kws X.env)).filterMap (·.1) = ks := by rfl)
    (hdb : (x == ("__debug__" : Str)) = false := by decide) (hst : starEach (e :: es) X.env = (false, eval e X.env) :: starEach es X.env := by rfl)
    (hpl : ((backTo pos (starEach (e :: es) X.env)).any (·.1) || (backToKw pos (keywordEach kws X.env)).any (·.1.isNone)) = false := by rfl) :
    PE X (.Call (.Name x p) (e :: es) kws pos) (tClO n ks.length sp gV t tk) := by
  obtain ⟨f, fd, gg, F, kp, b, hm⟩ := c
  refine ⟨fun pins s σ H Q I want => wpAny_Call_Name_kw (ld_glob I hg hm ?_ hdb)⟩
  refine PySem.W.callWith_KW (h₀ := X.base) I.ok.mod.kin kp hall (thn (h.run pos pins s σ H _ I want) ?_) hpl hst
  rintro us s1 ⟨vs, H1, I1, r, q⟩
  refine thn (hk.run pos pins s1 σ H1 _ I1 q) ?_
  rintro ws s2 ⟨zs, H2, I2, rz, l1, l2, q2⟩
  refine ⟨I2.kIn, ?_⟩
  rw [hks]
  have rel := b.rel r rz
  have bt := b.to s2 us ws I2.kIn (r.length.symm.trans l1) (rz.length.symm.trans l2)
  refine wpAny_call (codeAny_mono (F.run X.A X.stack s2 H2 ⟨us, ks.zip ws⟩ _ _ Q E0 room I2.env0 bt rel q2) fun res s' hres => ?_)
  match res, hres with
  | .error e, hres => exact hres.elim
  | .ok (.ret u), hres => exact I2.after hres
end
/-! ### rules within comprehensions, the written part named -/
section
variable {X : Cx} {K : PySem.W.Frag}
theorem pi_tupK {tg l : Expr} {tl : TE} (hk : X.K = K) (hl : PE X l tl) : PI X tg l (iTup K tl) := by
  subst hk
  exact pi_tup hl
theorem pi_listK {tg l : Expr} {tl : TE} (hk : X.K = K) (hl : PE X l tl) : PI X tg l (iList K tl) := by
  subst hk
  exact pi_list hl
theorem op_inSeqK (hk : X.K = K) : OpR X (compareOp .In) (rIn K false) := by
  subst hk
  exact op_in_seq
end
/-- a walk's bookkeeping, whatever its turn does -/
theorem walk_in {J : It} {n : Nat} {G : Hp → Prop} {Y : Nat → Hp → V → Hp → Prop} (w : Walk J n G Y) {H0 : Hp} {Qd : Hp → Prop} {body : V → Hp → (Hp → Prop) → Prop} (Pv : Nat → Hp → Prop) (h0 : Pv 0 H0) (hG : ∀ i H, i ≤ n → Pv i H → G H)
    (hs : ∀ i x H H', i < n → Pv i H → Y i H x H' → body x H' (Pv (i + 1))) (hd : ∀ H, Pv n H → Qd H) :
    ∃ W : Nat → Nat → Hp → Prop, (∃ m, W 0 m H0) ∧ ∀ i m H, W i m H → (J.stop i H ∧ Qd H) ∨ (J.go i H ∧ ∃ Nx : Hp → Prop, (∀ H', Nx H' → ∃ m', m' < m ∧ W (i + 1) m' H') ∧ ∀ x H', J.yld i H x H' → body x H' Nx) := by
  refine ⟨fun i m H => m = n - i ∧ i ≤ n ∧ Pv i H, ⟨n, (Nat.sub_zero n).symm, Nat.zero_le _, h0⟩, ?_⟩
  rintro i m H ⟨rfl, hi, p⟩
  have q := hG i H hi p
  rcases Nat.lt_or_ge i n with lt | ge
  · exact .inr ⟨w.goes i H lt q, Pv (i + 1), fun H' p' => ⟨n - (i + 1), by omega, rfl, lt, p'⟩, fun x H' y => hs i x H H' lt p (w.yields i H x H' lt q y)⟩
  · obtain rfl : i = n := Nat.le_antisymm hi ge
    exact .inl ⟨w.stops H q, hd H p⟩
end Gx
namespace Kl
open PySem PySem.Spec PyProof.Rows L2 Gx Mx
section
variable {P : Program} {w : World} {K : PySem.W.Frag} {mg : Str → Option Value} {base : Heap}
/-! ### is_sorted of texts -/
def spSorted (K : PySem.W.Frag) : Sp := fun vs H Q _ => ∃ (p : Addr) (zs : List Str) (M : Int), vs = [.ref p, .int M] ∧ SqT K H p (zs.map V.str) ∧ TyX K H (.ref p) (.type "tuple") ∧ 0 ≤ M ∧ M ≤ 100 ∧ zs.length ≤ 1000 ∧ (∀ z ∈ zs, z.length ≤ 1000) ∧
  ∀ H', Same H H' → Q (.bl (decide ((zs.length : Int) ≤ M) && (zs.all nameB && sortedS zs))) H'
theorem names_low {z : Str} (h : nameB z = true) : PyData.strOk z = true := by
  unfold nameB at h
  rw [Bool.and_eq_true] at h
  show z.cps.all _ = true
  rw [Array.all_eq_true']
  intro c hc
  have := List.all_eq_true.mp h.2 c (Array.mem_toList_iff.mpr hc)
  exact decide_eq_true (Nat.lt_trans (isLow_lt this) (by decide))
theorem ok_sorted {f : Addr} {fd : FuncData} (F : Fun K "is_sorted" "is_sorted" s_is_sorted f fd) (T : Top K mg) : FnOk P w K mg base CX0 3 f fd ["value", "most"] (spSorted K) := by
  have cc : Cal P w K mg base 2 "is_count" ["value"] (spCnt K) := T.d_is_count.cal fun f fd F => ok_cnt F T
  have cn : Cal P w K mg base 2 "is_name" ["value"] (spName K) := (T.d_is_name.cal fun f fd F => ok_name F T).mono (by decide)
  refine F.ok sc_is_sorted (fun vs H Q E h => ?_) (fun cdv A outer s H vs Q E hr h => ?_)
  · obtain ⟨p, zs, M, rfl, _⟩ := h
    rfl
  · obtain ⟨p, zs, M, rfl, hp, hT, hM, hM2, hlen, hz, hq⟩ := h
    refine ⟨_, pss_cons (ps_if (pt_not (pt_val (pe_cal cc hr (by rfl) (pa_cons (pv 1) pa_nil)))) (pss_one ps_never) pss_nil)
      (pss_cons (ps_if (PW.pt (pw_or (pt_not (pt_val (pe_callB call_isi (by rfl) T.b_isinstance (by decide +kernel) (pa_cons (pv 0) (pa_cons (pe_bltn (v := .ty "tuple") (by rfl) T.b_tuple (by decide +kernel) rfl) pa_nil)))))
          (pw_or1 (pt_cmpR op_gt (pe_callB call_len_seq (by rfl) T.b_len PySem.boot_len (pa_cons (pv 0) pa_nil)) (pv 1) (nomark _))))) (pss_one (ps_ret pe_bl)) pss_nil)
      (pss_cons (ps_if (pt_not (pt_val (pe_callB (cr_all rfl) (by rfl) T.b_all (by decide +kernel) (pa_cons (pe_lc (own := [("name", 2)]) (g := gName 2) (tt := tYes) rfl sc_is_sorted.nd (pi_tup (pv 0))
            (blkOk_by (N := ["value", "most", "name"]) (sc := defScope s_is_sorted) (by decide +kernel))
            (fun _ _ _ _ _ => pg_name (i := 2) sc_is_sorted.nd rfl (.inl rfl)) (fun _ _ _ _ _ => pts_nil) (fun _ _ _ _ _ => pe_cal cn hr (by rfl) (pa_cons (pv 2) pa_nil))) pa_nil)))) (pss_one (ps_ret pe_bl)) pss_nil)
      (pss_one (ps_ret (pe_cmpR (op_eqD hr.units) (pe_callTy call_list_of (by rfl) T.b_list (by decide +kernel) (pa_cons (pv 0) pa_nil)) (pe_callB cr_sortedTS (by rfl) T.b_sorted (by decide +kernel) (pa_cons (pv 0) pa_nil)) (nomark _)))))), ?_⟩
    have hc : cntV (.int M) = true := by
      show ((decide (-TEN60 < M) && decide (M < TEN60)) && decide (0 ≤ M)) = true
      rw [decide_eq_true (show -TEN60 < M by unfold TEN60; omega), decide_eq_true (show M < TEN60 by unfold TEN60; omega), decide_eq_true hM]
      rfl
    refine ⟨_, rfl, .int M, rfl, .inl ⟨M, rfl⟩, _, rfl, ?_⟩
    rw [hc]
    refine ⟨_, rfl, _, .ty "tuple", .type "tuple", .type "tuple", true, rfl, .ty _, hT, kit_ty (by decide +kernel), true, rfl, ?_⟩
    refine ⟨_, rfl, p, _, rfl, .inr hp, _, rfl, _, _, rfl, rfl, _, rfl, ite2 (fun e => ?_) (fun e => ?_)⟩
    · have e1 : decide ((zs.length : Int) ≤ M) = false := decide_eq_false (by
        have := of_decide_eq_true e
        rw [List.length_map] at this
        omega)
      rw [e1, Bool.false_and] at hq
      exact hq H (Same.refl H)
    · have e1 : decide ((zs.length : Int) ≤ M) = true := decide_eq_true (by
        have : ¬ (M < ((zs.map V.str).length : Int)) := fun z => e (decide_eq_true z)
        rw [List.length_map] at this
        omega)
      rw [e1, Bool.true_and] at hq
      refine ⟨_, rfl, p, rfl, ⟨_, hp⟩, fun D hD => ?_⟩
      refine lc_tup (xs := zs.map V.str) (fun j H2 => H2 D = some (.lst ((zs.take j).map fun z => V.bl (nameB z))) ∧ Same H H2) ⟨upd_same, fun b u e => by rw [upd_ne (ne_of_none e hD)]; exact e⟩ (fun j H2 _ hP => ?_) (fun j x H2 hj hP => ?_) (fun H2 hP => ?_)
      · rcases hp with (h | ⟨u, h⟩) | h
        · exact .inl (.inl (hP.2 _ _ h))
        · exact .inl (.inr ⟨u, hP.2 _ _ h⟩)
        · exact .inr h
      · obtain ⟨eD, sm⟩ := hP
        obtain ⟨z, hzj, rfl⟩ : ∃ z, zs[j]? = some z ∧ V.str z = x := by
          rw [List.getElem?_map] at hj
          cases e : zs[j]? with
          | none => rw [e] at hj; cases hj
          | some z => rw [e] at hj; exact ⟨z, rfl, by cases hj; rfl⟩
        refine ⟨rfl, _, rfl, _, rfl, .inl ⟨z, rfl, Nat.le_trans (hz z (List.mem_of_getElem? hzj)) (by decide)⟩, _, eD, ?_, ?_, fun b u e => by rw [upd_ne (ne_of_none e hD)]; exact sm b u e⟩
        · rw [List.length_map, List.length_take]
          exact Nat.lt_of_le_of_lt (Nat.le_trans (Nat.min_le_right _ _) hlen) (by decide)
        · rw [upd_same, List.take_add_one, hzj, List.map_append]
          rfl
      · obtain ⟨eD, sm⟩ := hP
        rw [List.length_map, List.take_length] at eD
        refine ⟨D, zs.map nameB, rfl, .inl (.inl (by rw [eD, List.map_map]; rfl)), _, rfl, ?_⟩
        have ea : (zs.map nameB).all id = zs.all nameB := by rw [List.all_map]; rfl
        rw [ea]
        cases hall : zs.all nameB with
        | false =>
          rw [hall, Bool.false_and] at hq
          exact hq _ sm
        | true =>
          rw [hall, Bool.true_and] at hq
          have hok : ∀ z ∈ zs, PyData.strOk z = true := fun z hz => names_low (List.all_eq_true.mp hall z hz)
          have hp2 : SqT K H2 p (zs.map V.str) := by
            rcases hp with (h | ⟨u, h⟩) | h
            · exact .inl (.inl (sm _ _ h))
            · exact .inl (.inr ⟨u, sm _ _ h⟩)
            · exact .inr h
          refine ⟨_, rfl, p, _, rfl, .inr hp2, fun l nl => ?_⟩
          have sm2 : Same H (upd H2 l (.lst (zs.map V.str))) := fun b u e => by rw [upd_ne (ne_of_none (sm b u e) nl)]; exact sm b u e
          have hp3 : SqT K (upd H2 l (.lst (zs.map V.str))) p (zs.map V.str) := by
            rcases hp with (h | ⟨u, h⟩) | h
            · exact .inl (.inl (sm2 _ _ h))
            · exact .inl (.inr ⟨u, sm2 _ _ h⟩)
            · exact .inr h
          refine ⟨_, rfl, p, zs, rfl, hp3, by omega, fun ys l2 hperm hsrt nl2 => ?_⟩
          refine ⟨.list (tD zs), .list (tD ys), ?_, ?_, shaped_texts hok, shaped_texts (fun z hz => hok z (hperm.mem_iff.mp hz)), ?_⟩
          · exact .lst (.inl (.inl (by rw [upd_ne (ne_of_none upd_same nl2), upd_same]))) (dp_texts zs)
          · exact .lst (.inl (.inl upd_same)) (dp_texts ys)
          · rw [PyData.eqv, eqv_texts, eq_sorted_iff hperm hsrt]
            exact hq _ (fun b u e => by rw [upd_ne (ne_of_none (sm2 b u e) nl2)]; exact sm2 b u e)
/-! ### _is_making of a making -/
def spMaking (K : PySem.W.Frag) : Sp := fun vs H Q _ => ∃ (p : Addr) (zs : List Str), vs = [.ref p] ∧ TupZ H p (zs.map V.str) ∧ zs.all nameB = true ∧ sortedS zs = true ∧ 2 ≤ zs.length ∧ zs.length ≤ 3 ∧ (∀ z ∈ zs, z.length ≤ 1000) ∧ ∀ H', Same H H' → Q (.bl true) H'
theorem ok_making {f : Addr} {fd : FuncData} (F : Fun K "_is_making" "_is_making" s_is_making f fd) (T : Top K mg) : FnOk P w K mg base CX0 4 f fd ["value"] (spMaking K) := by
  obtain ⟨tm, gm⟩ := T.g_MAX_PARTS
  have cs : CalO P w K mg base 3 "is_sorted" ["value", "most"] 1 ["most"] (fun vs zs => vs ++ zs) (spSorted K) := T.d_is_sorted.calO fun f fd F => ok_sorted F T
  refine F.ok sc_is_making (fun vs H Q E h => ?_) (fun cdv A outer s H vs Q E hr h => ?_)
  · obtain ⟨p, zs, rfl, _⟩ := h
    rfl
  · obtain ⟨p, zs, rfl, hp, hn, hs, h2, h3, hz, q⟩ := h
    refine ⟨_, pss_one (ps_ret (pe_and (pe_calO cs hr (by rfl) (pa_cons (pv 0) pa_nil) (pk_cons (pe_glob (v := .int 3) (by rfl) gm ⟨_, rfl⟩) pk_nil))
      (pe_one (pe_cmpR op_ge (pe_callB call_len_seq (by rfl) T.b_len PySem.boot_len (pa_cons (pv 0) pa_nil)) pe_int (nomark _))))), ?_⟩
    refine ⟨_, rfl, rfl, rfl, p, zs, 3, rfl, hp.sq, hp.ty, by decide, by decide, by omega, hz, fun H1 s1 => ⟨_, rfl, ?_⟩⟩
    rw [hn, hs, decide_eq_true (show ((zs.length : Int) ≤ 3) by omega)]
    refine ⟨_, rfl, p, _, rfl, .inr (hp.mono s1).sq, _, _, rfl, rfl, ?_⟩
    have e : decide ((2 : Int) ≤ ((zs.map V.str).length : Int)) = true := decide_eq_true (by rw [List.length_map]; omega)
    show Q (.bl (decide ((2 : Int) ≤ ((zs.map V.str).length : Int)))) H1
    rw [e]
    exact q H1 s1
/-! ### _all_names -/
def spNames : Sp := fun vs H Q _ => ∃ (leaf : Str) (md : Addr) (kvs : List (Key × V)) (ks : List Str), vs = [.str leaf, .ref md] ∧ H md = some (.dK kvs) ∧ kvs.map (·.1) = ks.map Sum.inr ∧ ks.length ≤ 100 ∧
  ∀ (ns : List Str) (p : Addr) (H' : Hp), IsNames leaf ks ns → Same H H' → H p = none → H' p = some (.tup (ns.map V.str)) → Q (.ref p) H'
theorem ok_names {f : Addr} {fd : FuncData} (F : Fun K "_all_names" "_all_names" s_all_names f fd) (T : Top K mg) : FnOk P w K mg base CX0 1 f fd ["leaf", "makings"] spNames := by
  refine F.ok sc_all_names (fun vs H Q E h => ?_) (fun cdv A outer s H vs Q E hr h => ?_)
  · obtain ⟨leaf, md, kvs, ks, rfl, _⟩ := h
    rfl
  · obtain ⟨leaf, md, kvs, ks, rfl, hd, hk, hl, q⟩ := h
    refine ⟨_, pss_one (ps_ret (pe_callTy call_tuple_of (by rfl) T.b_tuple (by decide +kernel) (pa_cons (pe_callB (cr_sortedX rfl) (by rfl) T.b_sorted (by decide +kernel) (pa_cons
      (pe_callTy (cr_setX rfl) (by rfl) T.b_set (by decide +kernel) (pa_cons (pe_lst (pa_cons (pv 0) (pa_starD rfl (pv 1) pa_nil))) pa_nil)) pa_nil)) pa_nil))), ?_⟩
    have ek : (kvs.map fun kv => kV kv.1) = ks.map V.str := by
      have e := congrArg (List.map kV) hk
      rw [List.map_map, List.map_map] at e
      exact e
    have lk : kvs.length = ks.length := by
      have e := congrArg List.length hk
      rw [List.length_map, List.length_map] at e
      exact e
    have e1 : [V.str leaf] ++ ((kvs.map fun kv => kV kv.1) ++ []) = ((leaf :: ks).map V.str) := by rw [List.append_nil, ek]; rfl
    refine ⟨_, rfl, _, rfl, md, kvs, rfl, hd, ?_, fun l nl => ?_⟩
    · show (V.str leaf :: ((kvs.map fun kv => kV kv.1) ++ [])).length ≤ sizeLine
      rw [List.length_cons, List.append_nil, List.length_map]
      exact Nat.le_trans (show kvs.length + 1 ≤ 101 by omega) (by decide)
    have s1 : Same H (upd H l (.lst ((leaf :: ks).map V.str))) := fun b u e => by rw [upd_ne (ne_of_none e nl)]; exact e
    have e2 : upd H l (.lst (V.str leaf :: ((kvs.map fun kv => kV kv.1) ++ []))) = upd H l (.lst ((leaf :: ks).map V.str)) := by rw [← e1]; rfl
    rw [e2]
    generalize hH1 : upd H l (.lst ((leaf :: ks).map V.str)) = H1 at s1
    have h1l : H1 l = some (.lst ((leaf :: ks).map V.str)) := by rw [← hH1, upd_same]
    refine ⟨l, leaf :: ks, rfl, .inl (.inl h1l), by show (leaf :: ks).length ≤ 1000; rw [List.length_cons]; omega, fun a na => ?_⟩
    have s2 : Same H (upd H1 a (SetO' P w a (leaf :: ks))) := fun b u e => by rw [upd_ne (ne_of_none (s1 b u e) na)]; exact s1 b u e
    refine ⟨a, leaf :: ks, rfl, upd_same, by show (leaf :: ks).length ≤ 1000; rw [List.length_cons]; omega, fun ys p hs nd hm np => ?_⟩
    have s3 : Same H (upd (upd H1 a (SetO' P w a (leaf :: ks))) p (.lst (ys.map V.str))) := fun b u e => by rw [upd_ne (ne_of_none (s2 b u e) np)]; exact s2 b u e
    refine ⟨p, ys.map V.str, rfl, .inl ⟨.inl (.inl upd_same), fun t nt => ?_⟩⟩
    refine q ys t _ ⟨hs, nd, fun z => (hm z).trans List.mem_cons⟩ (fun b u e => by rw [upd_ne (ne_of_none (s3 b u e) nt)]; exact s3 b u e) ?_ upd_same
    exact s3.free nt
end
end Kl

set_option maxRecDepth 100000
set_option maxHeartbeats 4000000
namespace Kl
open PySem PySem.Spec PyProof.Rows L2 Gx Mx
section
variable {P : Program} {w : World} {K : PySem.W.Frag} {mg : Str → Option Value} {base : Heap}
theorem flat_strs' (zs : List Str) : (zs.map V.str).all flatV = true := by
  rw [List.all_map]
  exact List.all_eq_true.mpr fun _ _ => rfl
theorem inV_strs (z : Str) (zs : List Str) : inV (.str z) (zs.map V.str) = decide (z ∈ zs) := by
  unfold inV
  rw [List.any_map]
  have e : (fun y => eqV y (V.str z)) ∘ V.str = fun y => decide (y = z) := by
    funext y
    show (y == z) = decide (y = z)
    by_cases h : y = z
    · subst h
      rw [decide_eq_true rfl]
      exact beq_self_eq_true y
    · rw [decide_eq_false h]
      exact beq_eq_false_iff_ne.mpr h
  rw [e, Bool.eq_iff_iff, List.any_eq_true, decide_eq_true_eq]
  constructor
  · rintro ⟨y, hy, q⟩
    rw [← of_decide_eq_true q]
    exact hy
  · intro h
    exact ⟨z, h, decide_eq_true rfl⟩
/-! ### _are_kinds of kinds -/
def spAre : Sp := fun vs H Q _ => ∃ (leaf : Str) (md : Addr) (kvs : List (Key × V)) (M : Mak), vs = [.str leaf, .ref md] ∧ H md = some (.dK kvs) ∧ MakAt H kvs M ∧ Vld leaf M ∧ ∀ H', Same H H' → Q (.bl true) H'
theorem all_true (n : Nat) : (List.replicate n true).all id = true := by
  induction n with
  | zero => rfl
  | succ n ih => rw [List.replicate_succ, List.all_cons, ih]; rfl
theorem rep_snoc (j : Nat) : (List.replicate j (V.bl true)) ++ [V.bl true] = List.replicate (j + 1) (V.bl true) := by
  rw [List.replicate_succ', ]
theorem rep_map (n : Nat) : List.replicate n (V.bl true) = (List.replicate n true).map V.bl := by rw [List.map_replicate]
abbrev NA : List Str := ["leaf", "makings", "names", "name", "part"]
theorem ok_are {f : Addr} {fd : FuncData} (F : Fun K "_are_kinds" "_are_kinds" s_are_kinds f fd) (T : Top K mg) : FnOk P w K mg base CX0 5 f fd ["leaf", "makings"] spAre := by
  obtain ⟨tm, gm⟩ := T.g_MAX_KINDS
  have cn : Cal P w K mg base 4 "is_name" ["value"] (spName K) := (T.d_is_name.cal fun f fd F => ok_name F T).mono (by decide)
  have cm : Cal P w K mg base 4 "_is_making" ["value"] (spMaking K) := T.d_is_making.cal fun f fd F => ok_making F T
  have ca : Cal P w K mg base 4 "_all_names" ["leaf", "makings"] spNames := (T.d_all_names.cal fun f fd F => ok_names F T).mono (by decide)
  refine F.ok sc_are_kinds (fun vs H Q E h => ?_) (fun cdv A outer s H vs Q E hr h => ?_)
  · obtain ⟨leaf, md, kvs, M, rfl, _⟩ := h
    rfl
  · obtain ⟨leaf, md, kvs, M, rfl, hd, hM, hV, q⟩ := h
    have hu := hu_of hr
    refine ⟨_, pss_cons (ps_if (PW.pt (pw_or (pt_not (pt_val (pe_cal cn hr (by rfl) (pa_cons (pv 0) pa_nil)))) (pw_or1 (pt_not (pt_val (pe_callB call_isi (by rfl) T.b_isinstance (by decide +kernel) (pa_cons (pv 1) (pa_cons (pe_bltn (v := .ty "dict") (by rfl) T.b_dict (by decide +kernel) rfl) pa_nil))))))))
          (pss_one (ps_ret pe_bl)) pss_nil)
      (pss_cons (ps_if (pt_not (pt_val (pe_callB (cr_all rfl) (by rfl) T.b_all (by decide +kernel) (pa_cons (pe_lock (pe_lc (own := [("name", 3)]) (g := gName 3) (tt := tYes) rfl sc_are_kinds.nd (pi_keys (pv 1))
            (blkOk_by (N := NA) (sc := defScope s_are_kinds) (by decide +kernel)) (fun _ _ _ _ _ => pg_name (i := 3) sc_are_kinds.nd rfl (.inl rfl)) (fun _ _ _ _ _ => pts_nil)
            (fun _ _ _ _ _ => pe_and (pe_cal cn hr (by rfl) (pa_cons (pv 3) pa_nil)) (pe_one (pe_cal cm hr (by rfl) (pa_cons (pe_dget hu (pv 1) (pv 3) (fun _ _ => rfl)) pa_nil)))))) pa_nil)))) (pss_one (ps_ret pe_bl)) pss_nil)
      (pss_cons (ps_set (i := 2) sc_are_kinds.nd rfl (.inr rfl) (pe_cal ca hr (by rfl) (pa_cons (pv 0) (pa_cons (pv 1) pa_nil))))
      (pss_cons (ps_if (pt_cmpR op_gt (pe_callB call_len_seq (by rfl) T.b_len PySem.boot_len (pa_cons (pv 2) pa_nil)) (pe_glob (v := .int 6) (by rfl) gm ⟨_, rfl⟩) (nomark _)) (pss_one (ps_ret pe_bl)) pss_nil)
      (pss_one (ps_ret (pe_callB (cr_all rfl) (by rfl) T.b_all (by decide +kernel) (pa_cons (pe_lock (pe_lc2 (own := [("name", 3), ("part", 4)]) (vs1 := [4]) (g := gName 3) (g1 := gName 4) (tt := tYes) (tt1 := tYes) rfl sc_are_kinds.nd (pi_keys (pv 1))
            (blkOk_by (N := NA) (sc := defScope s_are_kinds) (by decide +kernel)) (by decide) (fun _ _ _ _ _ => pg_name (i := 3) sc_are_kinds.nd rfl (.inl rfl)) (fun _ _ _ _ _ => pts_nil) (fun _ _ _ _ _ => pi_tupK (K := K) (by exact rfl) (pe_dget hu (pv 1) (pv 3) (fun _ _ => rfl)))
            (fun _ _ _ _ _ => pg_name (i := 4) sc_are_kinds.nd rfl (.inl rfl)) (fun _ _ _ _ _ => pts_nil)
            (fun _ _ _ _ _ => pe_cmpR (op_inSeqK (K := K) (by exact rfl)) (pv 4) (pv 2) (by rfl)))) pa_nil))))))), ?_⟩
    have lM := hV.len
    have lk := hM.len
    -- is_name(leaf), isinstance(makings, dict)
    refine ⟨_, rfl, .str leaf, rfl, .inl ⟨leaf, rfl, Nat.le_trans (pool_len hV.lf) (by decide)⟩, _, rfl, ?_⟩
    rw [show nameV (.str leaf) = true from pool_name hV.lf]
    refine ⟨_, rfl, _, .ty "dict", .type "dict", .type "dict", true, rfl, .ty _, .base (.dK hd), kit_ty (by decide +kernel), true, rfl, ?_⟩
    -- all([..])
    refine ⟨md, _, hd, trivial, fun od => ?_⟩
    have dM : ∀ {j : Nat} {m : Str × List Str}, M[j]? = some m → ∀ {H2 : Hp}, Same (upd H md (.frz od (.dK kvs))) H2 → ∃ a, DGet H2 md (.str m.1) (some (.ref a)) ∧ TupZ H2 a (m.2.map V.str) := by
      intro j m hj H2 s2
      obtain ⟨ps, a, e1, e2, e3⟩ := hM.key (z := m.1) (List.mem_map.mpr ⟨m, List.mem_of_getElem? hj, rfl⟩)
      rw [lookM_mem hV.nd (List.mem_of_getElem? hj)] at e1
      cases e1
      have na : a ≠ md := e3.ne hd (fun _ => nofun)
      refine ⟨a, .inl ⟨kvs, Sum.inr m.1, .inr ⟨od, s2 _ _ upd_same⟩, rfl, e2.symm⟩, (e3.at fun o e => by rw [upd_ne na]; exact e).mono s2⟩
    refine ⟨_, rfl, md, od, rfl, .inl ⟨kvs, upd_same, fun D hD => ?_⟩⟩
    refine lc_it walk_keys (fun j H2 => H2 D = some (.lst (List.replicate j (V.bl true))) ∧ Same (upd H md (.frz od (.dK kvs))) H2) ⟨upd_same, fun b u e => by rw [upd_ne (ne_of_none e hD)]; exact e⟩ (fun j H2 _ hP => hP.2 _ _ upd_same) (fun j x H2 H2' hj hP hy => ?_) (fun H2 hP => ?_)
    · obtain ⟨eD, sm⟩ := hP
      obtain ⟨rfl, k, v, hkv, rfl⟩ := hy
      obtain ⟨m, a, hm, rfl, rfl, _⟩ := hM.at hkv
      have hmM := List.mem_of_getElem? hm
      obtain ⟨p1, p2, p3, p4⟩ := hV.parts m hmM
      obtain ⟨a', hg, ha⟩ := dM hm sm
      have hpool : m.1 ∈ POOL := hV.keys _ (List.mem_map.mpr ⟨m, hmM, rfl⟩)
      refine ⟨rfl, _, rfl, .str m.1, rfl, .inl ⟨m.1, rfl, Nat.le_trans (pool_len hpool) (by decide)⟩, _, rfl, ?_⟩
      rw [show nameV (.str m.1) = true from pool_name hpool]
      refine ⟨_, rfl, _, rfl, md, _, rfl, hg, a', m.2, rfl, ha, List.all_eq_true.mpr fun z hz => pool_name (hV.part hmM hz), p1, p2, p3, fun z hz => Nat.le_trans (pool_len (hV.part hmM hz)) (by decide), fun H3 s3 => ?_⟩
      refine ⟨_, s3 _ _ eD, ?_, ?_, fun b u e => by rw [upd_ne (ne_of_none e hD)]; exact s3 _ _ (sm b u e)⟩
      · rw [List.length_replicate]
        exact Nat.lt_of_le_of_lt (show j ≤ 6 by omega) (by decide)
      · rw [upd_same, rep_snoc]
    obtain ⟨eD, sm⟩ := hP
    have s1 := same_unlock hd sm
    refine ⟨sm _ _ upd_same, D, List.replicate kvs.length true, rfl, .inl (.inl ?_), _, rfl, ?_⟩
    · have nD : D ≠ md := fun z => by
        rw [z, upd_same] at hD
        cases hD
      rw [upd_ne nD, eD, rep_map]
    rw [all_true]
    generalize upd H2 md (.dK kvs) = H3 at s1
    have hd3 := s1 _ _ hd
    have hM3 : MakAt H3 kvs M := hM.same fun a xs e => e.mono s1
    -- names
    refine ⟨_, rfl, _, rfl, leaf, md, kvs, keysOf M, rfl, hd3, hM3.keys, by unfold keysOf; rw [List.length_map]; omega, fun ns p H4 hns s4 np hp => ?_⟩
    refine ⟨_, rfl, p, _, rfl, .inr (.inl (.inl hp)), _, _, rfl, rfl, _, rfl, ?_⟩
    have few : ns.length ≤ 6 := hV.few ns hns.nd fun z hz => (hns.mem z).mp hz
    refine ite2 (fun e => ?_) (fun _ => ?_)
    · exfalso
      have e := of_decide_eq_true e
      rw [List.length_map] at e
      omega
    have hd4 := s4 _ _ hd3
    have hM4 : MakAt H4 kvs M := hM3.same fun a xs e => e.mono s4
    have s14 : Same H H4 := fun b u e => s4 _ _ (s1 _ _ e)
    clear hd hM hd3 hM3 s1 s4 hD eD sm dM
    refine ⟨md, _, hd4, trivial, fun od => ?_⟩
    have npm : p ≠ md := fun z => by
      rw [z, hd4] at hp
      cases hp
    refine ⟨_, rfl, md, od, rfl, .inl ⟨kvs, upd_same, fun D hD => ?_⟩⟩
    refine walk_in walk_keys (fun j H2 => ∃ n, H2 D = some (.lst (List.replicate n (V.bl true))) ∧ n ≤ 3 * j ∧ Same (upd H4 md (.frz od (.dK kvs))) H2) ⟨0, upd_same, Nat.zero_le _, fun b u e => by rw [upd_ne (ne_of_none e hD)]; exact e⟩ (fun j H2 _ hP => by obtain ⟨_, _, _, s5⟩ := hP; exact s5 _ _ upd_same) (fun j x H2 H2' hj hP hy => ?_) (fun H2 hP => ?_)
    · obtain ⟨n, eD, ln, sm⟩ := hP
      obtain ⟨rfl, k, v, hkv, rfl⟩ := hy
      obtain ⟨m, a, hm, rfl, rfl, ha⟩ := hM4.at hkv
      have hmM := List.mem_of_getElem? hm
      obtain ⟨p1, p2, p3, p4⟩ := hV.parts m hmM
      have na : a ≠ md := ha.ne hd4 (fun _ => nofun)
      have ha1 : TupZ (upd H4 md (.frz od (.dK kvs))) a (m.2.map V.str) := ha.at fun o e => by rw [upd_ne na]; exact e
      have hv : valV kvs (Sum.inr m.1) = some (.ref a) := by
        obtain ⟨ps, a', e1, e2, e3⟩ := hM4.key (z := m.1) (List.mem_map.mpr ⟨m, hmM, rfl⟩)
        have e4 : (kvs.map (·.1)).Nodup := by
          rw [hM4.keys]
          exact List.Pairwise.map Sum.inr (fun a b h q => h (Sum.inr.inj q)) hV.nd
        have e5 := val_nodup e4 (Sum.inr m.1, .ref a) (List.mem_of_getElem? hkv)
        exact e5
      refine ⟨rfl, ?_⟩
      refine ⟨_, rfl, _, rfl, md, .ref a, rfl, .inl ⟨kvs, Sum.inr m.1, .inr ⟨od, sm _ _ upd_same⟩, rfl, hv.symm⟩, a, rfl, ⟨_, (ha1.mono sm).sq⟩, ?_⟩
      refine walk_in (walk_tup (K := K) (a := a) (xs := m.2.map V.str)) (fun i H3 => H3 D = some (.lst (List.replicate (n + i) (V.bl true))) ∧ Same (upd H4 md (.frz od (.dK kvs))) H3) ⟨eD, sm⟩ (fun i H3 _ hP => (ha1.mono hP.2).sq) (fun i x H3 H3' hi hP hy => ?_) (fun H3 hP => ?_)
      · obtain ⟨eD3, sm3⟩ := hP
        obtain ⟨rfl, hx⟩ := hy
        obtain ⟨z, hz, rfl⟩ : ∃ z, m.2[i]? = some z ∧ V.str z = x := by
          rw [List.getElem?_map] at hx
          cases e : m.2[i]? with
          | none => rw [e] at hx; cases hx
          | some z => rw [e] at hx; exact ⟨z, rfl, by cases hx; rfl⟩
        have hin : z ∈ ns := (hns.mem z).mpr (p4 z (List.mem_of_getElem? hz))
        refine ⟨rfl, _, rfl, _, rfl, p, ns.map V.str, rfl, .inr (.inl (.inl (sm3 _ _ (by rw [upd_ne npm]; exact hp)))), rfl, flat_strs' ns, ?_⟩
        show ∃ acc, _
        rw [List.length_map] at hi
        refine ⟨_, eD3, ?_, ?_, fun b u e => by rw [upd_ne (ne_of_none e hD)]; exact sm3 b u e⟩
        · rw [List.length_replicate]
          exact Nat.lt_of_le_of_lt (show n + i ≤ 100 by omega) (by decide)
        · rw [upd_same]
          have e : inV (V.str z) (ns.map V.str) = true := by rw [inV_strs, decide_eq_true hin]
          simp only [e, Bool.false_eq_true, if_false]
          rw [rep_snoc, Nat.add_assoc]
      · obtain ⟨eD3, sm3⟩ := hP
        rw [List.length_map] at eD3
        exact ⟨_, eD3, by omega, sm3⟩
    · obtain ⟨n, eD, ln, sm⟩ := hP
      have s1 := same_unlock hd4 sm
      refine ⟨sm _ _ upd_same, D, List.replicate n true, rfl, .inl (.inl ?_), ?_⟩
      · have nD : D ≠ md := fun z => by
          rw [z, upd_same] at hD
          cases hD
        rw [upd_ne nD, eD, rep_map]
      rw [all_true]
      exact q _ fun b u e => s1 _ _ (s14 _ _ e)
end
end Kl

set_option maxRecDepth 100000
set_option maxHeartbeats 4000000
namespace Kl
open PySem PySem.Spec PyProof.Rows L2 Gx Mx
section
variable {P : Program} {w : World} {K : PySem.W.Frag} {mg : Str → Option Value} {base : Heap}
theorem kLM : ("_leaf" : Str) ≠ "_makings" := by decide +kernel
theorem kLN : ("_leaf" : Str) ≠ "_names" := by decide +kernel
theorem kMN : ("_makings" : Str) ≠ "_names" := by decide +kernel
theorem putF_app {k : Str} {v : V} : ∀ fs : List (Str × V), (∀ p ∈ fs, p.1 ≠ k) → putF k v fs = fs ++ [(k, v)]
  | [], _ => rfl
  | p :: fs, h => by
    have ih := putF_app (v := v) fs fun q hq => h q (List.mem_cons_of_mem _ hq)
    obtain ⟨a, b⟩ := p
    show (if a = k then (a, v) :: fs else (a, b) :: putF k v fs) = _
    rw [if_neg (h (a, b) List.mem_cons_self), ih]
    rfl
theorem same_new {H H1 : Hp} {p : Addr} {o : HO} (s : Same H H1) (n : H1 p = none) : Same H (upd H1 p o) := fun b u e => by
  rw [upd_ne (ne_of_none (s b u e) n)]
  exact s b u e
theorem at_texts {zs : List Str} {j : Nat} {x : V} (hj : (zs.map V.str)[j]? = some x) : ∃ z, zs[j]? = some z ∧ V.str z = x := by
  rw [List.getElem?_map] at hj
  cases e : zs[j]? with
  | none => rw [e] at hj; cases hj
  | some z => rw [e] at hj; exact ⟨z, rfl, by cases hj; rfl⟩
/-- the pairs of a dict, for some of its keys -/
def pairsOf' (kvs : List (Key × V)) (ys : List Str) : List (Key × V) := ys.map fun z => (Sum.inr z, (valV kvs (Sum.inr z)).getD .non)
theorem pairs_none {kvs : List (Key × V)} {ys : List Str} {z : Str} (h : z ∉ ys) : valV (pairsOf' kvs ys) (Sum.inr z) = none := by
  induction ys with
  | nil => rfl
  | cons y ys ih =>
    rw [List.mem_cons, not_or] at h
    show valV ((Sum.inr y, _) :: pairsOf' kvs ys) (Sum.inr z) = none
    rw [valV_neg (fun q => h.1 (Sum.inr.inj q).symm)]
    exact ih h.2
theorem mak_pairs {H : Hp} {kvs : List (Key × V)} {M : Mak} (h : MakAt H kvs M) : ∀ {ys : List Str}, (∀ z ∈ ys, z ∈ keysOf M) → MakAt H (pairsOf' kvs ys) (ys.map fun z => (z, (lookM M z).getD []))
  | [], _ => .nil
  | y :: ys, hy => by
    obtain ⟨ps, a, e1, e2, e3⟩ := h.key (hy y List.mem_cons_self)
    refine .cons ⟨rfl, a, ?_, ?_⟩ (mak_pairs h fun z hz => hy z (List.mem_cons_of_mem _ hz))
    · show (valV kvs (Sum.inr y)).getD .non = .ref a
      rw [e2]
      rfl
    · show TupZ H a (((lookM M y).getD []).map V.str)
      rw [e1]
      exact e3
/-! ### Kinds.__init__ -/
def spInit (C : Addr) : Sp := fun vs H Q _ => ∃ (x dx : Addr) (leaf : Str) (pd : Addr) (kvs : List (Key × V)) (M : Mak), vs = [.ref x, .str leaf, .ref pd] ∧ H x = some (.ins C dx []) ∧ H pd = some (.dK kvs) ∧ MakAt H kvs M ∧ Vld leaf M ∧
  ∀ (H' : Hp) (md : Addr) (M' : Mak) (ns : List Str), KindsAt C H' x md leaf M' ns → OrdOf M M' → IsNames leaf (keysOf M) ns → H md = none → (∀ b o, b ≠ x → H b = some o → H' b = some o) → Q .non H'
abbrev NI : List Str := ["self", "leaf", "makings", "name"]
theorem ok_init {C f : Addr} {fd : FuncData} (F : Fun K "__init__" "Kinds.__init__" s_Kinds_init f fd) (T : Top K mg) (TC : Cl_Kinds K mg C) : FnOk P w K mg base CX0 6 f fd ["self", "leaf", "makings"] (spInit C) := by
  have ca : Cal P w K mg base 5 "_are_kinds" ["leaf", "makings"] spAre := T.d_are_kinds.cal fun f fd F => ok_are F T
  have cn : Cal P w K mg base 5 "_all_names" ["leaf", "makings"] spNames := (T.d_all_names.cal fun f fd F => ok_names F T).mono (by decide)
  refine F.ok sc_Kinds_init (fun vs H Q E h => ?_) (fun cdv A outer s H vs Q E hr h => ?_)
  · obtain ⟨x, dx, leaf, pd, kvs, M, rfl, _⟩ := h
    rfl
  · obtain ⟨x, dx, leaf, pd, kvs, M, rfl, hx, hd, hM, hV, q⟩ := h
    have hu := hu_of hr
    refine ⟨_, pss_cons (ps_if (pt_not (pt_val (pe_cal ca hr (by rfl) (pa_cons (pv 1) (pa_cons (pv 2) pa_nil))))) (pss_one ps_never) pss_nil)
      (pss_cons (ps_fld (pv 0) (pv 1) rfl)
      (pss_cons (ps_fld (pv 0) (pe_dc (own := [("name", 3)]) (g := gName 3) (tt := tYes) rfl sc_Kinds_init.nd (pi_list (pe_callB (call_sortedD rfl) (by rfl) T.b_sorted (by decide +kernel) (pa_cons (pv 2) pa_nil)))
          (blkOk_by (N := NI) (sc := defScope s_Kinds_init) (by decide +kernel)) (fun _ _ _ _ _ => pg_name (i := 3) sc_Kinds_init.nd rfl (.inl rfl)) (fun _ _ _ _ _ => pts_nil) (fun _ _ _ _ _ => pv 3) (fun _ _ _ _ _ => pe_dget hu (pv 2) (pv 3) (fun _ _ => rfl))) rfl)
      (pss_one (ps_fld (pv 0) (pe_cal cn hr (by rfl) (pa_cons (pv 1) (pa_cons (pv 2) pa_nil))) rfl)))), ?_⟩
    have lM := hV.len
    have lk := hM.len
    refine ⟨_, rfl, _, rfl, leaf, pd, kvs, M, rfl, hd, hM, hV, fun H1 s1 => ⟨_, rfl, ?_⟩⟩
    -- self._leaf = leaf
    have hx1 := s1 _ _ hx
    refine ⟨_, rfl, _, rfl, x, C, dx, [], rfl, hx1, TC.cl, TC.n_leaf, by decide, ?_⟩
    have npx : pd ≠ x := fun z => by
      rw [z, hx] at hd
      cases hd
    have tupx : ∀ {H2 : Hp}, (∀ b o, b ≠ x → H b = some o → H2 b = some o) → MakAt H2 kvs M := fun {H2} s2 => hM.same fun a xs e => e.at fun o => s2 _ _ (e.ne hx (fun _ => nofun))
    have k1 : ∀ b o, b ≠ x → H b = some o → (upd H1 x (.ins C dx (putF "_leaf" (.str leaf) []))) b = some o := fun b o n e => by
      rw [upd_ne n]
      exact s1 b o e
    have x1 : (upd H1 x (.ins C dx (putF "_leaf" (.str leaf) []))) x = some (.ins C dx [("_leaf", .str leaf)]) := by
      rw [upd_same]
      rfl
    have f1 : ∀ b, (upd H1 x (.ins C dx (putF "_leaf" (.str leaf) []))) b = none → H b = none := fun b e => by
      have n : b ≠ x := fun z => by
        rw [z, upd_same] at e
        cases e
      rw [upd_ne n] at e
      exact s1.free e
    generalize upd H1 x (.ins C dx (putF "_leaf" (.str leaf) [])) = H2 at k1 x1 f1
    clear s1 hx1
    have hd2 := k1 _ _ npx hd
    have hM2 := tupx k1
    -- self._makings
    refine ⟨_, rfl, pd, kvs, keysOf M, rfl, .inl hd2, hM.keys, by unfold keysOf; rw [List.length_map]; omega, fun ys p hperm hsrt np => ?_⟩
    have nd : (keysOf M).Nodup := hV.nd
    have ndY : ys.Nodup := hperm.nodup_iff.mpr nd
    have lY : ys.length ≤ 6 := by
      rw [hperm.length_eq]
      unfold keysOf
      rw [List.length_map]
      exact lM
    refine ⟨p, rfl, ⟨_, .inl (.inl upd_same)⟩, fun D hD => ?_⟩
    have s2 : Same H2 (upd H2 p (.lst (ys.map V.str))) := same_new (Same.refl H2) np
    refine walk_in (walk_list (K := K) (a := p) (xs := ys.map V.str)) (fun j G => G D = some (.dK (pairsOf' kvs (ys.take j))) ∧ Same (upd H2 p (.lst (ys.map V.str))) G) ⟨upd_same, same_new (Same.refl _) hD⟩ (fun j G _ hP => .inl (.inl (hP.2 _ _ upd_same))) (fun j v G G' hj hP hy => ?_) (fun G hP => ?_)
    · obtain ⟨eD, sm⟩ := hP
      obtain ⟨rfl, hv⟩ := hy
      obtain ⟨z, hz, rfl⟩ := at_texts hv
      have hzM : z ∈ keysOf M := hperm.mem_iff.mp (List.mem_of_getElem? hz)
      obtain ⟨ps, a, e1, e2, e3⟩ := hM2.key hzM
      refine ⟨rfl, _, rfl, _, rfl, _, rfl, pd, .ref a, rfl, .inl ⟨kvs, Sum.inr z, .inl (sm _ _ (s2 _ _ hd2)), rfl, e2.symm⟩, pairsOf' kvs (ys.take j), Sum.inr z, rfl, eD, ?_, ?_, fun b u e => by rw [upd_ne (ne_of_none e hD)]; exact sm b u e⟩
      · unfold pairsOf'
        rw [List.length_map, List.length_take]
        exact Nat.lt_of_le_of_lt (Nat.le_trans (Nat.min_le_right _ _) lY) (by decide)
      · have hnot : z ∉ ys.take j := by
          intro hin
          obtain ⟨i, hi⟩ := List.mem_iff_getElem?.mp hin
          rw [List.getElem?_take] at hi
          by_cases c : i < j
          · rw [if_pos c] at hi
            have h1 := (List.getElem?_eq_some_iff.mp hi)
            have h2 := (List.getElem?_eq_some_iff.mp hz)
            have h3 := (List.getElem_inj (h₀ := h1.1) (h₁ := h2.1) ndY).mp (h1.2.trans h2.2.symm)
            omega
          · rw [if_neg c] at hi
            cases hi
        rw [upd_same, putK_new _ (pairs_none hnot), List.take_add_one, hz]
        unfold pairsOf'
        rw [List.map_append]
        show some (HO.dK (_ ++ [(Sum.inr z, V.ref a)])) = some (HO.dK (_ ++ [(Sum.inr z, (valV kvs (Sum.inr z)).getD .non)]))
        rw [e2]
        rfl
    obtain ⟨eD, sm⟩ := hP
    rw [List.length_map, List.take_length] at eD
    have s3 : Same H2 G := fun b u e => sm _ _ (s2 _ _ e)
    have fD : H2 D = none := s2.free hD
    have hx3 := s3 _ _ x1
    have nDx : D ≠ x := fun z => by
      rw [z, x1] at fD
      cases fD
    refine ⟨_, rfl, x, C, dx, _, rfl, hx3, TC.cl, TC.n_makings, by show 1 < 1000; decide, ?_⟩
    have e4 : putF "_makings" (.ref D) [("_leaf", .str leaf)] = [(("_leaf" : Str), V.str leaf), ("_makings", .ref D)] := putF_app _ fun p hp => by
      simp only [List.mem_cons, List.not_mem_nil, or_false] at hp
      subst hp
      exact kLM
    rw [e4]
    have k3 : ∀ b o, b ≠ x → H b = some o → (upd G x (.ins C dx [("_leaf", .str leaf), ("_makings", .ref D)])) b = some o := fun b o n e => by
      rw [upd_ne n]
      exact s3 _ _ (k1 b o n e)
    have x3 : (upd G x (.ins C dx [("_leaf", .str leaf), ("_makings", .ref D)])) x = some (.ins C dx [("_leaf", .str leaf), ("_makings", .ref D)]) := upd_same
    have d3 : (upd G x (.ins C dx [("_leaf", .str leaf), ("_makings", .ref D)])) D = some (.dK (pairsOf' kvs ys)) := by
      rw [upd_ne nDx]
      exact eD
    generalize upd G x (.ins C dx [("_leaf", .str leaf), ("_makings", .ref D)]) = H3 at k3 x3 d3
    clear sm eD s3 hx3 s2 x1 hM2 hd2
    have hM3 := tupx k3
    -- self._names
    refine ⟨_, rfl, _, rfl, leaf, pd, kvs, keysOf M, rfl, k3 _ _ npx hd, hM3.keys, by unfold keysOf; rw [List.length_map]; omega, fun ns t H4 hns s4 nt ht => ?_⟩
    refine ⟨_, rfl, x, C, dx, _, rfl, s4 _ _ x3, TC.cl, TC.n_names, by show 2 < 1000; decide, ?_⟩
    have e5 : putF "_names" (.ref t) [("_leaf", .str leaf), ("_makings", .ref D)] = [(("_leaf" : Str), V.str leaf), ("_makings", .ref D), ("_names", .ref t)] := putF_app _ fun p hp => by
      simp only [List.mem_cons, List.not_mem_nil, or_false] at hp
      rcases hp with rfl | rfl
      · exact kLN
      · exact kMN
    rw [e5]
    have k4 : ∀ b o, b ≠ x → H b = some o → (upd H4 x (.ins C dx [("_leaf", .str leaf), ("_makings", .ref D), ("_names", .ref t)])) b = some o := fun b o n e => by
      rw [upd_ne n]
      exact s4 _ _ (k3 b o n e)
    have ntx : t ≠ x := fun z => by
      rw [z, x3] at nt
      cases nt
    refine q _ D (ys.map fun z => (z, (lookM M z).getD [])) ns ⟨dx, t, pairsOf' kvs ys, upd_same, ?_, mak_pairs (tupx k4) fun z hz => hperm.mem_iff.mp hz, ?_⟩ (OrdOf.mk' hsrt hperm nd) hns (f1 _ fD) k4
    · rw [upd_ne nDx]
      exact s4 _ _ d3
    · rw [upd_ne ntx]
      exact ht
end
end Kl

set_option maxRecDepth 100000
set_option maxHeartbeats 4000000
namespace Gx
open PySem PySem.Spec PyProof.Rows L2
section
variable {X : Cx} {K : PySem.W.Frag} {e o : Expr} {f : Str} {te to : TE} {pos apos : Pos}
theorem pe_fldK (hk : X.K = K) (he : PE X e te) (hb : attributeBase e f X.env (eval e X.env) = eval e X.env := by rfl) : PE X (.Attribute e f pos) (tFld K te f) := by
  subst hk
  exact pe_fld he hb
/-- f'..' of two parts or more, told by a name -/
def tJoined (ts : List TE) : TE := fun σ H Q => tJs ts Str.empty σ H fun out H1 => Q (.str out) H1
theorem pe_joinedN {v1 v2 : Expr} {rest : List Expr} {ts : List TE} {pos : Pos} (h : PJ X (v1 :: v2 :: rest) ts) : PE X (.JoinedStr (v1 :: v2 :: rest) pos) (tJoined ts) := pe_joined h
/-- sep.join(xs) -/
def rJoin (K : PySem.W.Frag) : V → List V → Hp → VK → Prop := fun x xs H Q => ∃ a p, ∃ ys : List Str, x = .str a ∧ xs = [.ref p] ∧ (SqL K H p (ys.map V.str) ∨ SqT K H p (ys.map V.str)) ∧ (ys.map (·.length)).sum + ys.length * a.length ≤ 16777216 ∧ Q (.str (Txt.join a ys)) H
theorem pe_joinK (hk : X.K = K) (ho : PE X o to) (he : PE X e te) (hs : starEach [e] X.env = [(false, eval e X.env)] := by rfl) (hbase : attributeBase o "join" X.env (eval o X.env) = eval o X.env := by rfl) (hline : (apos.endLine == pos.line) = true := by rfl) :
    PE X (.Call (.Attribute o "join" apos) [e] [] pos) (tM1 (rJoin K) to te) := by
  subst hk
  exact pe_join ho he hs hbase hline
end
end Gx
namespace Kl
open PySem PySem.Spec PyProof.Rows L2 Gx Mx
section
variable {P : Program} {w : World} {K : PySem.W.Frag} {mg : Str → Option Value} {base : Heap}
/-! ### what Kinds tells: leaf, makings, names, lines -/
abbrev kf (leaf : Str) (md nt : Addr) : List (Str × V) := [("_leaf", .str leaf), ("_makings", .ref md), ("_names", .ref nt)]
theorem kf_leaf (leaf : Str) (md nt : Addr) : List.lookup ("_leaf" : Str) (kf leaf md nt) = some (.str leaf) := by simp [List.lookup]
theorem kf_mak (leaf : Str) (md nt : Addr) : List.lookup ("_makings" : Str) (kf leaf md nt) = some (.ref md) := by
  have h : (("_makings" : Str) == "_leaf") = false := beq_eq_false_iff_ne.mpr (Ne.symm kLM)
  simp [List.lookup, h]
theorem kf_names (leaf : Str) (md nt : Addr) : List.lookup ("_names" : Str) (kf leaf md nt) = some (.ref nt) := by
  have h : (("_names" : Str) == "_leaf") = false := beq_eq_false_iff_ne.mpr (Ne.symm kLN)
  have h2 : (("_names" : Str) == "_makings") = false := beq_eq_false_iff_ne.mpr (Ne.symm kMN)
  simp [List.lookup, h, h2]
theorem kf_no (leaf : Str) (md nt : Addr) {m : Str} (h1 : m ≠ "_leaf") (h2 : m ≠ "_makings") (h3 : m ≠ "_names") : (kf leaf md nt).lookup m = none := by
  have e1 : (m == "_leaf") = false := beq_eq_false_iff_ne.mpr h1
  have e2 : (m == "_makings") = false := beq_eq_false_iff_ne.mpr h2
  have e3 : (m == "_names") = false := beq_eq_false_iff_ne.mpr h3
  simp [List.lookup, e1, e2, e3]
def spKLeaf (C : Addr) : Sp := fun vs H Q _ => ∃ x md leaf M ns, vs = [.ref x] ∧ KindsAt C H x md leaf M ns ∧ Q (.str leaf) H
theorem ok_kleaf {C f : Addr} {fd : FuncData} (F : Fun K "leaf" "Kinds.leaf" s_Kinds_leaf f fd) (TC : Cl_Kinds K mg C) : FnOk P w K mg base CX0 1 f fd ["self"] (spKLeaf C) := by
  refine F.ok sc_Kinds_leaf (fun vs H Q E h => ?_) (fun cdv A outer s H vs Q E hr h => ?_)
  · obtain ⟨x, md, leaf, M, ns, rfl, _⟩ := h
    rfl
  · obtain ⟨x, md, leaf, M, ns, rfl, ⟨dx, nt, kvs, hx, hd, hM, hn⟩, q⟩ := h
    refine ⟨_, pss_one (ps_ret (pe_fld (pv 0) rfl)), ?_⟩
    exact ⟨_, rfl, x, C, dx, _, _, rfl, hx, TC.cl, TC.n_leaf, kf_leaf _ _ _, q⟩
def spKMak (C : Addr) : Sp := fun vs H Q _ => ∃ x md leaf M ns, vs = [.ref x] ∧ KindsAt C H x md leaf M ns ∧ ∀ p kvs, H p = none → MakAt H kvs M → Q (.ref p) (upd H p (.dK kvs))
theorem ok_kmak {C f : Addr} {fd : FuncData} (F : Fun K "makings" "Kinds.makings" s_Kinds_makings f fd) (T : Top K mg) (TC : Cl_Kinds K mg C) : FnOk P w K mg base CX0 1 f fd ["self"] (spKMak C) := by
  refine F.ok sc_Kinds_makings (fun vs H Q E h => ?_) (fun cdv A outer s H vs Q E hr h => ?_)
  · obtain ⟨x, md, leaf, M, ns, rfl, _⟩ := h
    rfl
  · obtain ⟨x, md, leaf, M, ns, rfl, ⟨dx, nt, kvs, hx, hd, hM, hn⟩, q⟩ := h
    refine ⟨_, pss_one (ps_ret (pe_callTy call_dictD (by rfl) T.b_dict (by decide +kernel) (pa_cons (pe_fld (pv 0) rfl) pa_nil))), ?_⟩
    exact ⟨_, rfl, x, C, dx, _, _, rfl, hx, TC.cl, TC.n_makings, kf_mak _ _ _, md, kvs, rfl, .inl hd, fun p np => q p kvs np hM⟩
def spKNam (C : Addr) : Sp := fun vs H Q _ => ∃ x md leaf M ns, vs = [.ref x] ∧ KindsAt C H x md leaf M ns ∧ ∀ p, H p = some (.tup (ns.map V.str)) → Q (.ref p) H
theorem ok_knam {C f : Addr} {fd : FuncData} (F : Fun K "names" "Kinds.names" s_Kinds_names f fd) (TC : Cl_Kinds K mg C) : FnOk P w K mg base CX0 1 f fd ["self"] (spKNam C) := by
  refine F.ok sc_Kinds_names (fun vs H Q E h => ?_) (fun cdv A outer s H vs Q E hr h => ?_)
  · obtain ⟨x, md, leaf, M, ns, rfl, _⟩ := h
    rfl
  · obtain ⟨x, md, leaf, M, ns, rfl, ⟨dx, nt, kvs, hx, hd, hM, hn⟩, q⟩ := h
    refine ⟨_, pss_one (ps_ret (pe_fld (pv 0) rfl)), ?_⟩
    exact ⟨_, rfl, x, C, dx, _, _, rfl, hx, TC.cl, TC.n_names, kf_names _ _ _, q nt hn⟩
/-! ### lines -/
theorem empty_app (a : Str) : Str.empty ++ a = a := by
  show (⟨#[] ++ a.cps⟩ : Str) = a
  rw [Array.empty_append]
theorem len_app (a b : Str) : (a ++ b).length = a.length + b.length := by
  show (a.cps ++ b.cps).size = _
  rw [Array.size_append]
  rfl
end
end Kl

set_option maxRecDepth 100000
set_option maxHeartbeats 4000000
namespace Gx
open PySem PySem.Spec PyProof.Rows L2 SeqAt Mx
open AutoSeq1 (wpAny_loadPart')
/-! ### a dict is no text; data and dicts in a tuple -/
theorem str_eq_dict (b : Str) (u : Tok) (l : Addr) (dd : Option Addr) (sl : Array (Option Value)) (es : Array DictEntry) (ep : Nat) :
    Meets (Builtin.«str.__eq__» ⟨[.str b u, .ref l], []⟩) (fun _ R s => s.heap.get? l = some { cls := .type "dict", dict := dd, data := .dict es ep, slots := sl } ∧ R (.ok (.ret .notImplemented)) s) :=
  .of_wp fun prog w A R s h => by obtain ⟨hp, g, d, tk, os⟩ := s; obtain ⟨hl, h⟩ := h; wp_walk using wpAny_loadPart' hl, wpAny_load hl; exact ⟨_, rfl, h⟩
theorem dict_eq_str {prog : Program} {w : World} {A : Around} {E : Value → Shared → Prop} {s : Shared} {Q : Value → Shared → Prop} {a : Addr} {b : Str} {u : Tok} (da : s.TypeIs (.ref a) "dict") (h : Q .notImplemented s) :
    wpAny (model prog w) A (call (.builtin "dict.__eq__") [.ref a, .str b u]) Q E s := by
  refine wpAny_call_entry PySem.F.slot_dict_eq da PySem.F.entry_dict_eq ?_ (PySem.F.args_dict_eq_2 _ _)
  show wpAny _ _ (Builtin.Dict.dictSlotArgs "__eq__" ⟨[.ref a, .str b u], []⟩ >>= _) _ _ s
  refine wpAny_bind ?_
  unfold Builtin.Dict.dictSlotArgs
  refine wpAny_bind (wpAny_notOrdered_dict da ?_)
  show wpAny _ _ (pure (Value.ref a, Value.str b u)) _ _ s
  refine wpAny_pure ?_
  refine wpAny_bind (wpAny_isInstance (T := "str") (typeIs_str s b u) PySem.F.sub_str_dict ?_)
  simp only [Bool.not_false, if_true]
  exact wpAny_bind (wpAny_rule (wpAny_bind (wpAny_pure (wpAny_pure ⟨_, rfl, h⟩))))
section
variable {A : Around} {s : Shared}
theorem eqAt_str_dict {l : Addr} {ob : Obj} (b : Str) (u : Tok) (hl : s.heap.get? l = some ob) (hc : ob.cls = .type "dict") {es : Array DictEntry} {ep : Nat} (hde : ob.data = .dict es ep) (hu : A.units < cLine) : EqAt A s (.str b u) (.ref l) false := fun prog w E Q h => by
  unfold eqBool
  refine wpAny_holding ?_
  refine wpAny_ite_split (fun hab => absurd (eq_of_beq hab) nofun) (fun _ => ?_)
  obtain ⟨cls2, dd2, data2, sl2⟩ := ob
  simp only at hc hde
  subst hc hde
  refine wpAny_bind ?_
  exact rc_eq_decline_or (k := false) (typeIs_str s b u) ⟨_, hl, rfl⟩ (by decide) F.sub_dict_str F.slot_str_eq F.slot_dict_eq_refl
    (fun _ hq => call_meets F.slot_str_eq (typeIs_str s b u) F.entry_str_eq (F.args_str_eq_2 _ _) (str_eq_dict b u l dd2 sl2 es ep) ⟨hl, hq⟩)
    (fun _ hq => dict_eq_str ⟨_, hl, rfl⟩ hq)
    (fun _ hq => wpAny_of_eq (rfl : isSame (.str b u) (.ref l) = pure false) hq) (.inr hu) (wpAny_truthy_bool h)
end
section
variable {X : Cx}
theorem vals_mem : ∀ {zs : List Str} {its : List Value} {y : Value}, Vals (zs.map V.str) its → y ∈ its → ∃ z t, y = .str z t
  | [], _, _, .nil, h => nomatch h
  | z :: zs, _, y, .cons r t, h => by
    rcases List.mem_cons.mp h with rfl | h
    · obtain ⟨tk, e⟩ := r
      exact ⟨z, tk, e⟩
    · exact vals_mem t h
/-- x in a tuple of texts: data that are not deep, or a dict -/
def rInTx (K : PySem.W.Frag) : R2 := fun x y H Q => ∃ (p : Addr) (zs : List Str), y = .ref p ∧ SqT K H p (zs.map V.str) ∧ (∀ z ∈ zs, PyData.strOk z = true) ∧
  ((∃ d, Dp K H x d ∧ d.canLay0 = true ∧ d.depth ≤ 10 ∧ Q (.bl ((tD zs).any fun z => PyData.eqv z d)) H) ∨ ∃ a kvs, x = .ref a ∧ H a = some (.dK kvs) ∧ Q (.bl false) H)
theorem op_inTx (hu : X.A.units + 64 < cLine) : OpR X (compareOp .In) (rInTx X.K) := by
  intro pins s σ H x y v u Q I rx ry h
  obtain ⟨p, zs, rfl, hp, ok, h⟩ := h
  rcases h with ⟨d, hd, sd, dp, q⟩ | ⟨a, kvs, rfl, ea, q⟩
  · obtain ⟨as, r1⟩ := Dp.reads I d x v hd rx
    obtain ⟨bs, r2⟩ := Dp.reads I (.tuple (tD zs)) (.ref p) u (.tup hp (dp_texts zs)) ry
    exact SeqAt.in_tuple_reads r2 r1 (canLay_texts zs ok) sd (by omega) ⟨.bl _, H, I, rfl, q⟩
  · cases rx
    cases ry
    obtain ⟨its, rv, pl, hz⟩ := I.tuple hp
    obtain ⟨_, _, vs, _, hd⟩ := dk_of I.hok ea
    obtain ⟨ob, hb, hD⟩ := Heap.dictOf_iff.mp hd
    obtain ⟨es, ep, ex, ed, _⟩ := hD
    have hcb : ob.cls = .type "dict" := ex.1
    refine SeqAt.in_tupleAt (fun _ => false) pl (fun y hy => ?_) ⟨.bl false, H, I, ?_, q⟩
    · rw [List.mem_toArray] at hy
      obtain ⟨z, t, rfl⟩ := vals_mem rv hy
      exact eqAt_str_dict z t hb hcb ed (by show X.A.units + 1 < cLine; omega)
    · show Value.bool _ = Value.bool false
      rw [Array.any_eq_false' |>.mpr (fun _ _ => by simp)]
end
end Gx

set_option maxRecDepth 100000
set_option maxHeartbeats 4000000
namespace Kl
open PySem PySem.Spec PyProof.Rows L2 Gx Mx
section
variable {X : Cx}
/-! ### tuple(list): a tuple whose object is known; its index -/
theorem call_tupleZ : CallR X (.type "tuple") (fun xs H Q => ∃ p ys, xs = [.ref p] ∧ SqL X.K H p ys ∧ ∀ l H', TupZ H' l ys → H l = none → (∀ b, b ≠ l → H' b = H b) → Q (.ref l) H') := by
  intro pins s σ H xs us Q I r h
  obtain ⟨p, ys, rfl, hq, q⟩ := h
  obtain ⟨u, rfl, rx⟩ := vals1 r
  cases rx
  obtain ⟨its, r', pl, hz⟩ := I.list hq
  have hlen := r'.length
  refine call_tuple_list pl.isList (fun h' kp => ?_) (by simp only [List.size_toArray] <;> omega)
  have I1 : Inv X pins σ H { s with heap := h' } := I.kept (t' := s.toks) kp
  have I2 : Inv X pins σ (upd H h'.objs.size (.frz { cls := .type "tuple", data := .seq its.toArray } (.tup ys))) { s with heap := h'.push { cls := .type "tuple", data := .seq its.toArray } } :=
    I1.laid (t' := s.toks) (fun b o e => Heap.get?_push_of_some _ e) (Nat.le_refl _) (show ObjOk X.prog X.w _ _ _ (.frz _ (.tup ys)) from ⟨Heap.get?_push_size _ rfl, hz, its, r', IsTup.new _ _⟩)
  exact ⟨.ref h'.objs.size, _, I2, rfl, q _ _ ⟨_, rfl, upd_same⟩ (I1.hok.fresh (Nat.le_refl _)) (fun b n => upd_ne n)⟩
def tyTupZ (x : V) (H : Hp) : Prop := ∃ a xs, x = .ref a ∧ TupZ H a xs
theorem ty_tupZ : TyOk X "tuple" tyTupZ := by
  intro pins σ H s x v I r ty
  obtain ⟨a, xs, rfl, ob, hd, e⟩ := ty
  cases r
  obtain ⟨e1, hz, its, rv, o2, e2, hc, _⟩ := I.hok a _ e
  rw [e1] at e2
  cases e2
  refine ⟨⟨_, e1, hc⟩, fun b q => ?_⟩
  cases q
  exact ⟨_, e1, hd⟩
end
section
variable {P : Program} {w : World} {K : PySem.W.Frag} {mg : Str → Option Value} {base : Heap}
/-! ### in, [..], len, str -/
def spKHas (K : PySem.W.Frag) (C : Addr) : Sp := fun vs H Q _ => ∃ (x md : Addr) (leaf : Str) (M : Mak) (ns : List Str) (v : V), vs = [V.ref x, v] ∧ KindsAt C H x md leaf M ns ∧ (∀ z ∈ ns, PyData.strOk z = true) ∧
  ((∃ d, Dp K H v d ∧ d.canLay0 = true ∧ d.depth ≤ 10 ∧ Q (.bl ((tD ns).any fun z => PyData.eqv z d)) H) ∨ ∃ a kvs, v = .ref a ∧ H a = some (.dK kvs) ∧ Q (.bl false) H)
theorem ok_khas {C f : Addr} {fd : FuncData} (F : Fun K "__contains__" "Kinds.__contains__" s_Kinds_contains f fd) (T : Top K mg) (TC : Cl_Kinds K mg C) : FnOk P w K mg base CX0 1 f fd ["self", "value"] (spKHas K C) := by
  refine F.ok sc_Kinds_contains (fun vs H Q E h => ?_) (fun cdv A outer s H vs Q E hr h => ?_)
  · obtain ⟨x, md, leaf, M, ns, v, rfl, _⟩ := h
    rfl
  · obtain ⟨x, md, leaf, M, ns, v, rfl, ⟨dx, nt, kvs, hx, hd, hM, hn⟩, ok, q⟩ := h
    have hu := hu_of hr
    refine ⟨_, pss_one (ps_ret (pe_cmpR (op_inTx hr.units) (pv 1) (pe_fld (pv 0) rfl) (by rfl))), ?_⟩
    exact ⟨_, rfl, _, rfl, x, C, dx, _, _, rfl, hx, TC.cl, TC.n_names, kf_names _ _ _, nt, ns, rfl, .inl (.inl hn), ok, q⟩
def spKGet (C : Addr) : Sp := fun vs H Q _ => ∃ (x md : Addr) (leaf : Str) (M : Mak) (ns : List Str) (z : Str), vs = [V.ref x, .str z] ∧ KindsAt C H x md leaf M ns ∧ z ∈ ns ∧
  ∀ p H', Same H H' → ((∃ ps, lookM M z = some ps ∧ TupZ H' p (ps.map V.str)) ∨ (lookM M z = none ∧ H' p = some (.tup []))) → Q (.ref p) H'
theorem ok_kget {C f : Addr} {fd : FuncData} (F : Fun K "__getitem__" "Kinds.__getitem__" s_Kinds_getitem f fd) (T : Top K mg) (TC : Cl_Kinds K mg C) : FnOk P w K mg base CX0 1 f fd ["self", "name"] (spKGet C) := by
  refine F.ok sc_Kinds_getitem (fun vs H Q E h => ?_) (fun cdv A outer s H vs Q E hr h => ?_)
  · obtain ⟨x, md, leaf, M, ns, z, rfl, _⟩ := h
    rfl
  · obtain ⟨x, md, leaf, M, ns, z, rfl, ⟨dx, nt, kvs, hx, hd, hM, hn⟩, hz, q⟩ := h
    have hu := hu_of hr
    refine ⟨_, pss_cons (ps_if (pt_cmpR op_notIn_seq (pv 1) (pe_fld (pv 0) rfl) (by rfl)) (pss_one ps_never) pss_nil)
      (pss_one (ps_ret (pe_dget2 hu (pe_fld (pv 0) rfl) (pv 1) (pe_tup pa_nil) (by constructor <;> rfl)))), ?_⟩
    refine ⟨_, rfl, _, rfl, x, C, dx, _, _, rfl, hx, TC.cl, TC.n_names, kf_names _ _ _, nt, _, rfl, .inr (.inl (.inl hn)), rfl, flat_strs' ns, _, rfl, ?_⟩
    have e : inV (V.str z) (ns.map V.str) = true := by rw [inV_strs, decide_eq_true hz]
    simp only [e, if_true, Bool.not_true, Bool.false_eq_true, if_false]
    refine ⟨_, rfl, x, C, dx, _, _, rfl, hx, TC.cl, TC.n_makings, kf_mak _ _ _, md, rfl, .inl ⟨kvs, .inl hd⟩, _, rfl, Nat.zero_le _, fun p np => ?_⟩
    have s1 : Same H (upd H p (.tup [])) := same_new (Same.refl H) np
    have hd1 := s1 _ _ hd
    rcases hM.get z with ⟨e1, e2⟩ | ⟨ps, a, e1, e2, e3⟩
    · refine ⟨none, .inl ⟨kvs, Sum.inr z, .inl hd1, rfl, e2.symm⟩, ?_⟩
      exact q p _ s1 (.inr ⟨e1, upd_same⟩)
    · refine ⟨some (.ref a), .inl ⟨kvs, Sum.inr z, .inl hd1, rfl, e2.symm⟩, ?_⟩
      exact q a _ s1 (.inl ⟨ps, e1, e3.mono s1⟩)
def spKLen (C : Addr) : Sp := fun vs H Q _ => ∃ (x md : Addr) (leaf : Str) (M : Mak) (ns : List Str), vs = [V.ref x] ∧ KindsAt C H x md leaf M ns ∧ Q (.int (ns.length : Nat)) H
theorem ok_klen {C f : Addr} {fd : FuncData} (F : Fun K "__len__" "Kinds.__len__" s_Kinds_len f fd) (T : Top K mg) (TC : Cl_Kinds K mg C) : FnOk P w K mg base CX0 1 f fd ["self"] (spKLen C) := by
  refine F.ok sc_Kinds_len (fun vs H Q E h => ?_) (fun cdv A outer s H vs Q E hr h => ?_)
  · obtain ⟨x, md, leaf, M, ns, rfl, _⟩ := h
    rfl
  · obtain ⟨x, md, leaf, M, ns, rfl, ⟨dx, nt, kvs, hx, hd, hM, hn⟩, q⟩ := h
    refine ⟨_, pss_one (ps_ret (pe_callB call_len_seq (by rfl) T.b_len PySem.boot_len (pa_cons (pe_fld (pv 0) rfl) pa_nil))), ?_⟩
    refine ⟨_, rfl, x, C, dx, _, _, rfl, hx, TC.cl, TC.n_names, kf_names _ _ _, nt, _, rfl, .inr (.inl (.inl hn)), ?_⟩
    rw [List.length_map]
    exact q
def strK (n : Nat) (leaf : Str) : Str := ((toString (n : Int) : Str) ++ " kinds, leaf ") ++ leaf
theorem strK_len {n : Nat} (h : n ≤ 6) : ((toString (n : Int) : Str)).length ≤ 8 := by
  have e : (List.range 7).all (fun n => decide (((toString (n : Int) : Str)).length ≤ 8)) = true := by decide +kernel
  exact of_decide_eq_true (List.all_eq_true.mp e n (List.mem_range.mpr (by omega)))
theorem log_six {n : Nat} (h : n ≤ 6) : ((n : Int)).natAbs.log2 < 1920 := by
  have e : (List.range 7).all (fun n => decide (((n : Int)).natAbs.log2 < 1920)) = true := by decide +kernel
  exact of_decide_eq_true (List.all_eq_true.mp e n (List.mem_range.mpr (by omega)))
def spKStr (C : Addr) : Sp := fun vs H Q _ => ∃ (x md : Addr) (leaf : Str) (M : Mak) (ns : List Str), vs = [V.ref x] ∧ KindsAt C H x md leaf M ns ∧ ns.length ≤ 6 ∧ leaf.length ≤ 8 ∧ Q (.str (strK ns.length leaf)) H
theorem ok_kstr {C f : Addr} {fd : FuncData} (F : Fun K "__str__" "Kinds.__str__" s_Kinds_str f fd) (T : Top K mg) (TC : Cl_Kinds K mg C) : FnOk P w K mg base CX0 1 f fd ["self"] (spKStr C) := by
  refine F.ok sc_Kinds_str (fun vs H Q E h => ?_) (fun cdv A outer s H vs Q E hr h => ?_)
  · obtain ⟨x, md, leaf, M, ns, rfl, _⟩ := h
    rfl
  · obtain ⟨x, md, leaf, M, ns, rfl, ⟨dx, nt, kvs, hx, hd, hM, hn⟩, l6, l8, q⟩ := h
    refine ⟨_, pss_one (ps_ret (pe_joinedN (.cons (pe_fmt (pe_callB call_len_seq (by rfl) T.b_len PySem.boot_len (pa_cons (pe_fld (pv 0) rfl) pa_nil))) (.cons pe_str (.cons (pe_fmt (pe_fld (pv 0) rfl)) .nil))))), ?_⟩
    refine ⟨_, rfl, x, C, dx, _, _, rfl, hx, TC.cl, TC.n_names, kf_names _ _ _, nt, _, rfl, .inr (.inl (.inl hn)), .inr ⟨(ns.length : Int), by rw [List.length_map], log_six l6, ?_⟩⟩
    have k14 : (" kinds, leaf " : Str).length = 13 := rfl
    have big : 1000 ≤ sizeLine := by decide
    have e8 := strK_len l6
    refine ⟨_, rfl, by rw [empty_app]; omega, _, rfl, by rw [empty_app, len_app]; omega, _, rfl, x, C, dx, _, _, rfl, hx, TC.cl, TC.n_leaf, kf_leaf _ _ _, .inl ⟨leaf, rfl, by omega, _, rfl, by rw [empty_app, len_app, len_app]; omega, ?_⟩⟩
    rw [empty_app]
    exact q
end
end Kl

set_option maxRecDepth 100000
set_option maxHeartbeats 4000000
namespace Kl
open PySem PySem.Spec PyProof.Rows L2 Gx Mx
/-! ### equal makings -/
def eqB (M N : Mak) : Bool := M.length == N.length && M.all fun m => decide (lookM N m.1 = some m.2)
theorem sub_back : ∀ {xs ys : List Str}, xs.Nodup → (∀ z ∈ xs, z ∈ ys) → ys.length ≤ xs.length → ∀ z ∈ ys, z ∈ xs
  | [], ys, _, _, hl, z, hz => by
    have e : ys = [] := List.eq_nil_of_length_eq_zero (Nat.le_zero.mp hl)
    rw [e] at hz
    exact hz
  | x :: xs, ys, nd, hs, hl, z, hz => by
    have nd' := List.nodup_cons.mp nd
    have hx : x ∈ ys := hs x List.mem_cons_self
    by_cases e : z = x
    · rw [e]
      exact List.mem_cons_self
    · refine List.mem_cons_of_mem _ (sub_back nd'.2 (ys := ys.erase x) (fun y hy => ?_) ?_ z ((List.mem_erase_of_ne e).mpr hz))
      · exact (List.mem_erase_of_ne (fun q => nd'.1 (by rw [← q]; exact hy))).mpr (hs y (List.mem_cons_of_mem _ hy))
      · rw [List.length_erase_of_mem hx]
        rw [List.length_cons] at hl
        omega
theorem eqB_iff {M N : Mak} (hM : (keysOf M).Nodup) (hN : (keysOf N).Nodup) : eqB M N = true ↔ ∀ z, lookM M z = lookM N z := by
  unfold eqB
  rw [Bool.and_eq_true, beq_iff_eq, List.all_eq_true]
  constructor
  · rintro ⟨hl, ha⟩ z
    have sub : ∀ z ∈ keysOf M, z ∈ keysOf N := fun z hz => by
      obtain ⟨m, hm, rfl⟩ := List.mem_map.mp hz
      exact List.mem_map.mpr ⟨(m.1, m.2), lookM_some (of_decide_eq_true (ha m hm)), rfl⟩
    have back := sub_back hM sub (by unfold keysOf; rw [List.length_map, List.length_map]; omega)
    by_cases hz : z ∈ keysOf M
    · obtain ⟨m, hm, rfl⟩ := List.mem_map.mp hz
      rw [lookM_mem hM hm, of_decide_eq_true (ha m hm)]
    · rw [lookM_none.mpr hz, lookM_none.mpr fun q => hz (back z q)]
  · intro h
    have k : ∀ z, z ∈ keysOf M ↔ z ∈ keysOf N := fun z => by
      constructor
      · intro q
        obtain ⟨ps, e⟩ := lookM_in q
        rw [h] at e
        exact List.mem_map.mpr ⟨_, lookM_some e, rfl⟩
      · intro q
        obtain ⟨ps, e⟩ := lookM_in q
        rw [← h] at e
        exact List.mem_map.mpr ⟨_, lookM_some e, rfl⟩
    refine ⟨?_, fun m hm => decide_eq_true ((h m.1).symm.trans (lookM_mem hM hm))⟩
    have := ((List.perm_ext_iff_of_nodup hM hN).mpr k).length_eq
    unfold keysOf at this
    rwa [List.length_map, List.length_map] at this
theorem eqB_ord {M M' N N' : Mak} (hM : (keysOf M).Nodup) (hN : (keysOf N).Nodup) (o : OrdOf M M') (o' : OrdOf N N') : eqB M' N' = eqB M N := by
  rw [Bool.eq_iff_iff, eqB_iff o.nd o'.nd, eqB_iff hM hN]
  constructor
  · intro h z
    rw [← o.look, ← o'.look]
    exact h z
  · intro h z
    rw [o.look, o'.look]
    exact h z
theorem hits {K : PySem.W.Frag} {H : Hp} {ls : List (Key × V)} {N : Mak} (hN : MakAt H ls N) : ∀ {ks : List (Key × V)} {M : Mak}, MakAt H ks M → M.length ≤ 1000 → (∀ m ∈ M, SeqAt.shaped (.tuple (tD m.2)) = true) → (∀ m ∈ N, SeqAt.shaped (.tuple (tD m.2)) = true) →
    HitsV K H ls ks (M.all fun m => decide (lookM N m.1 = some m.2))
  | _, _, .nil, _, _, _ => .nil
  | kv :: ks, m :: M, .cons h t, hl, hs, hs' => by
    obtain ⟨h1, a, h2, h3⟩ := h
    have ih := hits (K := K) hN t (by rw [List.length_cons] at hl; omega) (fun m hm => hs m (List.mem_cons_of_mem _ hm)) hs'
    rw [List.all_cons]
    rcases hN.get m.1 with ⟨e1, e2⟩ | ⟨ps, b, e1, e2, e3⟩
    · rw [e1, show decide ((none : Option (List Str)) = some m.2) = false from rfl, Bool.false_and]
      exact .miss (by rw [h1]; exact e2)
    · have e : decide (lookM N m.1 = some m.2) = PyData.eqv (.tuple (tD m.2)) (.tuple (tD ps)) := by
        rw [PyData.eqv, eqv_texts, e1, Bool.eq_iff_iff, decide_eq_true_eq, decide_eq_true_eq]
        constructor
        · intro q
          exact (Option.some.inj q).symm
        · intro q
          rw [q]
      rw [e]
      exact .hit (by rw [h1]; exact e2) (by rw [h2]; exact .tup h3.sq (dp_texts _)) (.tup e3.sq (dp_texts _)) (hs m List.mem_cons_self) (hs' (m.1, ps) (lookM_some e1)) ih
section
variable {P : Program} {w : World} {K : PySem.W.Frag} {mg : Str → Option Value} {base : Heap}
/-! ### == -/
theorem hu66_of {A : Around} {k : Nat} (hr : Room k A) : A.units + 66 < cLine := by
  have := hr.un
  omega
theorem texts_shaped : ∀ (zs : List Str), (∀ z ∈ zs, z ∈ POOL) → zs.length ≤ 3 → SeqAt.shaped (.tuple (tD zs)) = true
  | [], _, _ => by decide +kernel
  | [a], h, _ => by
    have e : POOL.all (fun a => SeqAt.shaped (.tuple (tD [a]))) = true := by decide +kernel
    exact List.all_eq_true.mp e a (h a List.mem_cons_self)
  | [a, b], h, _ => by
    have e : POOL.all (fun a => POOL.all fun b => SeqAt.shaped (.tuple (tD [a, b]))) = true := by decide +kernel
    exact List.all_eq_true.mp (List.all_eq_true.mp e a (h a (by simp))) b (h b (by simp))
  | [a, b, c], h, _ => by
    have e : POOL.all (fun a => POOL.all fun b => POOL.all fun c => SeqAt.shaped (.tuple (tD [a, b, c]))) = true := by decide +kernel
    exact List.all_eq_true.mp (List.all_eq_true.mp (List.all_eq_true.mp e a (h a (by simp))) b (h b (by simp))) c (h c (by simp))
  | a :: b :: c :: d :: r, _, hl => by simp at hl
theorem Vld.shaped {leaf : Str} {M : Mak} (v : Vld leaf M) : ∀ m ∈ M, SeqAt.shaped (.tuple (tD m.2)) = true := fun m hm =>
  texts_shaped m.2 (fun z hz => v.part hm hz) (v.parts m hm).2.2.1
def spKEq (K : PySem.W.Frag) (C : Addr) : Sp := fun vs H Q _ => ∃ (x md : Addr) (leaf : Str) (M : Mak) (ns : List Str) (y : V), vs = [V.ref x, y] ∧ KindsAt C H x md leaf M ns ∧ Vld leaf M ∧
  ((∃ (x' md' : Addr) (leaf' : Str) (N : Mak) (ns' : List Str), y = .ref x' ∧ KindsAt C H x' md' leaf' N ns' ∧ Vld leaf' N ∧ Q (.bl (decide (leaf = leaf') && eqB M N)) H) ∨
    ∃ t, TyX K H y t ∧ PySem.W.kitOne K t (.ref C) = some false ∧ Q (.bl false) H)
theorem ok_keq {C f : Addr} {fd : FuncData} (F : Fun K "__eq__" "Kinds.__eq__" s_Kinds_eq f fd) (T : Top K mg) (TC : Cl_Kinds K mg C) : FnOk P w K mg base CX0 1 f fd ["self", "other"] (spKEq K C) := by
  refine F.ok sc_Kinds_eq (fun vs H Q E h => ?_) (fun cdv A outer s H vs Q E hr h => ?_)
  · obtain ⟨x, md, leaf, M, ns, y, rfl, _⟩ := h
    rfl
  · obtain ⟨x, md, leaf, M, ns, y, rfl, ⟨dx, nt, kvs, hx, hd, hM, hn⟩, hV, q⟩ := h
    have hu := hu_of hr
    refine ⟨_, pss_one (ps_ret (pe_and (pe_callB call_isi (by rfl) T.b_isinstance (by decide +kernel) (pa_cons (pv 1) (pa_cons (pe_glob (v := .ref C) (by rfl) TC.gC rfl) pa_nil)))
      (pe_and (pe_cmpR op_eq (pe_fld (pv 0) rfl) (pe_fld (pv 1) rfl) (nomark _)) (pe_one (pe_cmpR (op_eqDX (hu66_of hr)) (pe_fld (pv 0) rfl) (pe_fld (pv 1) rfl) (nomark _)))))), ?_⟩
    rcases q with ⟨x', md', leaf', N, ns', rfl, ⟨dx', nt', kvs', hx', hd', hN, hn'⟩, hV', q⟩ | ⟨t, ty, kt, q⟩
    · refine ⟨_, rfl, _, _, .ref C, .ref C, true, rfl, .own C, .base (.ins hx' TC.cl TC.ca TC.cg TC.ct TC.ob), TC.kit, true, rfl, ?_⟩
      rw [if_pos rfl]
      refine ⟨_, rfl, x, C, dx, _, _, rfl, hx, TC.cl, TC.n_leaf, kf_leaf _ _ _, _, rfl, x', C, dx', _, _, rfl, hx', TC.cl, TC.n_leaf, kf_leaf _ _ _, rfl, _, rfl, ?_⟩
      have ed : decide (V.str leaf = V.str leaf') = decide (leaf = leaf') := by
        rw [Bool.eq_iff_iff, decide_eq_true_eq, decide_eq_true_eq]
        exact ⟨fun q => V.str.inj q, fun q => by rw [q]⟩
      rw [ed]
      by_cases e : leaf = leaf'
      · rw [decide_eq_true e, if_pos rfl]
        rw [decide_eq_true e, Bool.true_and] at q
        refine ⟨_, rfl, x, C, dx, _, _, rfl, hx, TC.cl, TC.n_makings, kf_mak _ _ _, _, rfl, x', C, dx', _, _, rfl, hx', TC.cl, TC.n_makings, kf_mak _ _ _, md, md', kvs, kvs', _, rfl, rfl, hd, hd', fun _ => hits hN hM (by have := hV.len; omega) hV.shaped hV'.shaped, ?_⟩
        rw [hM.len, hN.len]
        exact q
      · rw [decide_eq_false e] at q ⊢
        rw [if_neg (by decide)]
        exact q
    · refine ⟨_, rfl, _, _, t, .ref C, false, rfl, .own C, ty, kt, false, rfl, ?_⟩
      rw [if_neg (by decide)]
      exact q
end
end Kl

set_option maxRecDepth 100000
set_option maxHeartbeats 4000000
namespace Gx
open PySem PySem.Spec PyProof.Rows L2
/-! data stay while nothing is changed -/
theorem sqT_st {K : PySem.W.Frag} {H H' : Hp} {a : Addr} {xs : List V} (s : ∀ b o, H b = some o → H' b = some o) (h : SqT K H a xs) : SqT K H' a xs := by
  rcases h with (h | ⟨o, h⟩) | h
  · exact .inl (.inl (s _ _ h))
  · exact .inl (.inr ⟨o, s _ _ h⟩)
  · exact .inr h
theorem sqL_st {K : PySem.W.Frag} {H H' : Hp} {a : Addr} {xs : List V} (s : ∀ b o, H b = some o → H' b = some o) (h : SqL K H a xs) : SqL K H' a xs := by
  rcases h with (h | ⟨o, h⟩) | h
  · exact .inl (.inl (s _ _ h))
  · exact .inl (.inr ⟨o, s _ _ h⟩)
  · exact .inr h
mutual
theorem dp_st {K : PySem.W.Frag} {H H' : Hp} (s : ∀ b o, H b = some o → H' b = some o) : ∀ (d : PyData) (v : V), Dp K H v d → Dp K H' v d
  | .none, _, h => by cases h; exact .non
  | .bool _, _, h => by cases h; exact .bl _
  | .int _, _, h => by cases h; exact .int _
  | .str _, _, h => by cases h; exact .str _
  | .list ds, _, h => by
    cases h with
    | lst e r => exact .lst (sqL_st s e) (dpAll_st s ds _ r)
  | .tuple ds, _, h => by
    cases h with
    | tup e r => exact .tup (sqT_st s e) (dpAll_st s ds _ r)
  | .dict _, _, h => by cases h
theorem dpAll_st {K : PySem.W.Frag} {H H' : Hp} (s : ∀ b o, H b = some o → H' b = some o) : ∀ (ds : List PyData) (vs : List V), DpAll K H vs ds → DpAll K H' vs ds
  | [], _, h => by cases h; exact .nil
  | d :: ds, _, h => by
    cases h with
    | cons a r => exact .cons (dp_st s d _ a) (dpAll_st s ds _ r)
end
theorem _root_.L2.Dp.st {K : PySem.W.Frag} {H H' : Hp} {v : V} {d : PyData} (h : Dp K H v d) (s : ∀ b o, H b = some o → H' b = some o) : Dp K H' v d := dp_st s d v h
theorem _root_.L2.DpAll.st {K : PySem.W.Frag} {H H' : Hp} {vs : List V} {ds : List PyData} (h : DpAll K H vs ds) (s : ∀ b o, H b = some o → H' b = some o) : DpAll K H' vs ds := dpAll_st s ds vs h
end Gx

set_option maxRecDepth 100000
set_option maxHeartbeats 4000000
namespace Kl
open PySem PySem.Spec PyProof.Rows L2 Gx Mx
section
variable {P : Program} {w : World} {K : PySem.W.Frag} {mg : Str → Option Value} {base : Heap}
/-! ### the law's dice -/
def spDice (K : PySem.W.Frag) : Sp := fun vs H Q _ => ∃ (a : Addr) (ns : List Int) (i : Nat), vs = [.ref a, .int i] ∧ SqL K H a (ns.map V.int) ∧ ns.length ≤ 63 ∧ i ≤ 1000 ∧
  ∀ (p : Addr) (x b : Int), H p = none → Q (.ref p) (upd H p (.lst [.int x, .int b, .int 0]))
theorem ok_dice {f : Addr} {fd : FuncData} (F : Fun K "_law_dice" "_law_dice" s_law_dice f fd) (T : Top K mg) : FnOk P w K mg base CX0 1 f fd ["_law_script", "_law_spot"] (spDice K) := by
  refine F.ok sc_law_dice (fun vs H Q E h => ?_) (fun cdv A outer s H vs Q E hr h => ?_)
  · obtain ⟨a, ns, i, rfl, _⟩ := h
    rfl
  · obtain ⟨a, ns, i, rfl, hS, hlen, hi, q⟩ := h
    refine ⟨_, pss_cut (ps_set (i := 2) sc_law_dice.nd rfl (.inl rfl) (pe_ifExp
        (pt_cmpR op_lt (pv 1) (pe_callB call_len_seq (by rfl) T.b_len PySem.boot_len (pa_cons (pv 0) pa_nil)) (nomark _))
        (pe_callTy call_int1 (by rfl) T.b_int (by decide +kernel) (pa_cons (pe_ix ix_list (pv 0) (pv 1) (fun _ _ => rfl)) pa_nil))
        (pe_op op_add (pe_op op_mul pe_int (pv 1)) pe_int)))
      (pss_cons (ps_set (i := 3) sc_law_dice.nd rfl (.inl rfl) (pe_op op_mod
        (pe_callB (call_max2 rfl) (by rfl) T.b_max (by decide +kernel) (pa_cons pe_int (pa_cons (pe_op op_sub
          (pe_callB call_abs (by rfl) T.b_abs (by decide +kernel) (pa_cons (pv 2) pa_nil)) (pe_op op_pow pe_int pe_int)) pa_nil)))
        (pe_op op_mulW (pe_op op_pow pe_int pe_int) (pe_op op_pow pe_int pe_int))))
      (pss_one (ps_ret (pe_lst (pa_cons (pv 3) (pa_cons
        (pe_op op_add (pe_op op_add (pe_op op_add (pe_op op_mul (pe_op op_mod (pe_callB call_abs (by rfl) T.b_abs (by decide +kernel) (pa_cons (pv 2) pa_nil)) pe_int) pe_int)
          (pe_op op_mul pe_int (pv 1)))
          (pe_op op_mul pe_int (pe_callTy call_int1 (by rfl) T.b_int (by decide +kernel) (pa_cons (pe_cmpR op_lt (pv 2) pe_int (nomark _)) pa_nil)))) pe_int)
        (pa_cons pe_int pa_nil))))))), ?_⟩
    refine ⟨fun σ' H' => ∃ c : Int, σ' = [some (.ref a), some (.int i), some (.int c), none] ∧ H' = H, ?_, ?_⟩
    · refine ⟨_, rfl, .ref a, rfl, a, _, rfl, .inl hS, _, _, rfl, rfl, _, rfl, ite2 (fun e => ?_) (fun e => ?_)⟩
      · have e' : i < ns.length := by
          have := of_decide_eq_true e
          rw [List.length_map] at this
          omega
        refine ⟨.ref a, rfl, .int i, rfl, a, _, _, .int ns[i], rfl, rfl, hS, atI_nat (by rw [List.getElem?_map, List.getElem?_eq_getElem e']; rfl), .inl ⟨_, rfl, ns[i], rfl, rfl⟩⟩
      · refine ⟨_, rfl, _, _, rfl, rfl, .inl ⟨by decide, by decide⟩, _, _, rfl, rfl, _, rfl, rfl⟩
    · rintro σ' H' ⟨c, rfl, rfl⟩
      refine ⟨_, rfl, _, rfl, ?_⟩
      refine ⟨_, _, rfl, rfl, ⟨by decide, by decide, by decide⟩, ?_⟩
      refine ⟨_, _, rfl, rfl, ?_⟩
      refine ⟨_, _, rfl, ?_⟩
      refine ⟨_, _, rfl, rfl, ⟨by decide, by decide, by decide⟩, ?_⟩
      refine ⟨_, _, rfl, rfl, ⟨by decide, by decide, by decide⟩, ?_⟩
      refine ⟨_, _, rfl, rfl, wide_mul (a := 200) (b := 200) (by decide) (by decide) (by decide) (by decide) (by decide), ?_⟩
      refine ⟨_, _, rfl, rfl, by show (0 : Int) < _; decide, ?_⟩
      generalize (if (if c < 0 then -c else c) - 10 ^ Int.toNat 17 > 0 then (if c < 0 then -c else c) - 10 ^ Int.toNat 17 else 0) % (10 ^ Int.toNat 60 * 10 ^ Int.toNat 60) = left
      refine ⟨_, rfl, _, rfl, _, rfl, _, _, rfl, rfl, by show (0 : Int) < _; decide, _, _, rfl, rfl, .inr ⟨by decide, by decide⟩, ?_⟩
      refine ⟨_, rfl, _, _, rfl, rfl, .inl ⟨by decide, by decide⟩, _, _, rfl, rfl, _, rfl, _, _, rfl, rfl, .inr ⟨_, rfl, ?_⟩⟩
      refine ⟨_, _, rfl, rfl, .inl ⟨by decide, by decide⟩, _, _, rfl, rfl, _, _, rfl, rfl, by show 3 ≤ sizeLine; decide, fun p hp => ?_⟩
      exact q p _ _ hp
def spRoll : Sp := fun vs H Q _ => ∃ (d : Addr) (t : Int), vs = [.ref d, .int t] ∧ DiceAt H d ∧ 0 < t ∧ t.natAbs.log2 < 9000 ∧
  ∀ (r x b c : Int), 0 ≤ r → r < t → Q (.int r) (upd H d (.lst [.int x, .int b, .int c]))
theorem ok_roll {f : Addr} {fd : FuncData} (F : Fun K "_law_roll" "_law_roll" s_law_roll f fd) (T : Top K mg) : FnOk P w K mg base CX0 1 f fd ["_law_dice_here", "_law_total"] spRoll := by
  refine F.ok sc_law_roll (fun vs H Q E h => ?_) (fun cdv A outer s H vs Q E hr h => ?_)
  · obtain ⟨d, t, rfl, _⟩ := h
    rfl
  · obtain ⟨d, t, rfl, ⟨x, b, c, hd⟩, ht, ht2, q⟩ := h
    refine ⟨_, pss_cons (ps_if (pt_cmpR op_gt (pe_ix ix_list (pv 0) pe_int (fun _ _ => rfl)) pe_int (nomark _))
        (pss_cons (ps_set (i := 2) sc_law_roll.nd rfl (.inl rfl) (pe_op op_mod (pe_callTy call_int1 (by rfl) T.b_int (by decide +kernel) (pa_cons (pe_ix ix_list (pv 0) pe_int (fun _ _ => rfl)) pa_nil)) (pv 1)))
        (pss_cons (ps_asg (pe_op op_fdivW (pe_ix ix_list (pv 0) pe_int (fun _ _ => rfl)) (pv 1)) (pg_sub (pv 0) pe_int set_list))
        (pss_one (ps_ret (pv 2))))) pss_nil)
      (pss_cons (ps_asg (pe_op op_add (pe_ix ix_list (pv 0) pe_int (fun _ _ => rfl)) pe_int) (pg_sub (pv 0) pe_int set_list))
      (pss_cons (ps_set (i := 3) sc_law_roll.nd rfl (.inl rfl) (pe_op op_mod (pe_callTy call_int1 (by rfl) T.b_int (by decide +kernel) (pa_cons
        (pe_op op_add (pe_ix ix_list (pv 0) pe_int (fun _ _ => rfl)) (pe_op op_mul pe_int (pe_ix ix_list (pv 0) pe_int (fun _ _ => rfl)))) pa_nil)) pe_int))
      (pss_cons (ps_set (i := 4) sc_law_roll.nd rfl (.inl rfl) (pe_op op_add (pe_op op_mul (pe_op op_mod (pe_callTy call_int1 (by rfl) T.b_int (by decide +kernel) (pa_cons
        (pe_op op_add (pe_op op_mul (pv 3) (pv 3)) (pe_op op_mul pe_int (pe_ix ix_list (pv 0) pe_int (fun _ _ => rfl)))) pa_nil)) pe_int) pe_int) (pv 3)))
      (pss_one (ps_ret (pe_op op_mod (pe_callTy call_int1 (by rfl) T.b_int (by decide +kernel) (pa_cons (pe_op op_fdiv (pv 4) pe_int) pa_nil)) (pv 1))))))), ?_⟩
    have at0 : ∀ (x y z : V), atI [x, y, z] 0 = some x := fun x y z => atI_nat (j := 0) rfl
    have at1 : ∀ (x y z : V), atI [x, y, z] 1 = some y := fun x y z => atI_nat (j := 1) rfl
    have at2 : ∀ (x y z : V), atI [x, y, z] 2 = some z := fun x y z => atI_nat (j := 2) rfl
    have hS : SqL K H d [.int x, .int b, .int c] := .inl (.inl hd)
    refine ⟨_, rfl, d, _, _, _, rfl, rfl, hS, at0 _ _ _, _, _, rfl, rfl, _, rfl, ite2 (fun e => ?_) (fun e => ?_)⟩
    · refine ⟨_, rfl, d, _, _, _, rfl, rfl, hS, at0 _ _ _, .inl ⟨_, rfl, _, rfl, _, _, rfl, rfl, ht, ?_⟩⟩
      refine ⟨_, rfl, d, _, _, _, rfl, rfl, hS, at0 _ _ _, _, rfl, _, _, rfl, rfl, ⟨ht, ht2⟩, ?_⟩
      refine ⟨_, rfl, d, _, _, 0, rfl, rfl, hd, rfl, ?_⟩
      refine ⟨_, rfl, ?_⟩
      exact q _ _ _ _ (Int.emod_nonneg _ (by omega)) (Int.emod_lt_of_pos _ ht)
    · refine ⟨_, rfl, d, _, _, _, rfl, rfl, hS, at2 _ _ _, _, _, rfl, rfl, ?_⟩
      refine ⟨_, rfl, d, _, _, 2, rfl, rfl, hd, rfl, ?_⟩
      have hd1 : (upd H d (.lst ([V.int x, V.int b, V.int c].set 2 (.int (c + 1))))) d = some (.lst [V.int x, V.int b, V.int (c + 1)]) := upd_same
      have hS1 : SqL K (upd H d (.lst ([V.int x, V.int b, V.int c].set 2 (.int (c + 1))))) d [V.int x, V.int b, V.int (c + 1)] := .inl (.inl hd1)
      refine ⟨_, rfl, d, _, _, _, rfl, rfl, hS1, at1 _ _ _, _, rfl, d, _, _, _, rfl, rfl, hS1, at2 _ _ _, _, _, rfl, rfl, .inl ⟨by decide, by decide⟩, _, _, rfl, rfl, .inl ⟨_, rfl, ?_⟩⟩
      refine ⟨_, _, rfl, rfl, by show (0 : Int) < _; decide, ?_⟩
      have h1 := Int.emod_nonneg (b + 7919 * (c + 1)) (show (2305843009213693907 : Int) ≠ 0 by decide)
      have h2 := Int.emod_lt_of_pos (b + 7919 * (c + 1)) (show (0 : Int) < 2305843009213693907 by decide)
      generalize (b + 7919 * (c + 1)) % 2305843009213693907 = one at h1 h2
      refine ⟨_, rfl, _, rfl, _, _, rfl, rfl, .inl ⟨by omega, by omega⟩, _, rfl, d, _, _, _, rfl, rfl, hS1, at2 _ _ _, _, _, rfl, rfl, .inl ⟨by decide, by decide⟩, _, _, rfl, rfl, .inl ⟨_, rfl, ?_⟩⟩
      refine ⟨_, _, rfl, rfl, by show (0 : Int) < _; decide, _, _, rfl, rfl, .inr ⟨by decide, by decide⟩, _, rfl, _, _, rfl, rfl, ?_⟩
      refine ⟨_, rfl, _, _, rfl, rfl, ⟨by decide, by decide⟩, .inl ⟨_, rfl, _, rfl, _, _, rfl, rfl, ht, ?_⟩⟩
      exact q _ _ _ _ (Int.emod_nonneg _ (by omega)) (Int.emod_lt_of_pos _ ht)
/-- what may be picked from: the items of a list, a tuple, a text -/
def Items (K : PySem.W.Frag) (H : Hp) (d : Addr) (x : V) (xs : List V) : Prop :=
  (∃ p, x = .ref p ∧ p ≠ d ∧ (SqL K H p xs ∨ SqT K H p xs)) ∨ ∃ z : Str, x = .str z ∧ xs = signV z ∧ z.length ≤ sizeLine
def spPick (K : PySem.W.Frag) : Sp := fun vs H Q _ => ∃ (d : Addr) (x : V) (xs : List V), vs = [.ref d, x] ∧ DiceAt H d ∧ Items K H d x xs ∧ xs ≠ [] ∧ xs.length ≤ 100000 ∧
  ∀ (v : V) (x b c : Int), v ∈ xs → Q v (upd H d (.lst [.int x, .int b, .int c]))
theorem log2_small {n : Nat} (h : n ≤ 100000) : ((n : Int).natAbs).log2 < 9000 := by
  have h1 : ((n : Int).natAbs) < 2 ^ 20 := by
    rw [Int.natAbs_natCast]
    exact Nat.lt_of_le_of_lt h (by decide)
  exact Nat.lt_of_lt_of_le (PySem.Flt.log2_lt_of (by decide) h1) (by decide)
theorem ok_pick {f : Addr} {fd : FuncData} (F : Fun K "_law_pick" "_law_pick" s_law_pick f fd) (T : Top K mg) : FnOk P w K mg base CX0 2 f fd ["_law_dice_here", "_law_items"] (spPick K) := by
  have cr : Cal P w K mg base 1 "_law_roll" ["_law_dice_here", "_law_total"] spRoll := T.d_law_roll.cal fun f fd F => ok_roll F T
  refine F.ok sc_law_pick (fun vs H Q E h => ?_) (fun cdv A outer s H vs Q E hr h => ?_)
  · obtain ⟨d, x, xs, rfl, _⟩ := h
    rfl
  · obtain ⟨d, x, xs, rfl, hd, hI, hne, hlen, q⟩ := h
    refine ⟨_, pss_one (ps_ret (pe_ix ix_seq (pv 1) (pe_cal cr hr (by rfl) (pa_cons (pv 0) (pa_cons (pe_callB call_len (by rfl) T.b_len PySem.boot_len (pa_cons (pv 1) pa_nil)) pa_nil))) (fun _ _ => rfl))), ?_⟩
    have hpos : 0 < xs.length := List.length_pos_iff.mpr hne
    rcases hI with ⟨p, rfl, hp, hs⟩ | ⟨z, rfl, rfl, hz⟩
    · refine ⟨_, rfl, _, rfl, _, rfl, _, (xs.length : Nat), rfl, ?_, ?_⟩
      · rcases hs with hs | hs
        · exact .inl ⟨_, hs, rfl⟩
        · exact .inr ⟨_, hs, rfl⟩
      · refine ⟨d, _, rfl, hd, by omega, log2_small hlen, fun r x b c h0 h1 => ?_⟩
        obtain ⟨v, hv, ha⟩ := atI_int (xs := xs) h0 h1
        rcases hs with hs | hs
        · exact .inl ⟨p, _, _, v, rfl, rfl, sqL_ne hp hs, ha, q v x b c hv⟩
        · exact .inr (.inl ⟨p, _, _, v, rfl, rfl, sqT_ne hp hs, ha, q v x b c hv⟩)
    · have hlz := signV_len z
      refine ⟨_, rfl, _, rfl, _, rfl, _, (z.length : Nat), rfl, ⟨hz, rfl⟩, ?_⟩
      refine ⟨d, _, rfl, hd, by omega, log2_small (by omega), fun r x b c h0 h1 => ?_⟩
      obtain ⟨v, hv, ha⟩ := atI_int (xs := z.cps.toList) h0 (by rw [Array.length_toList]; exact h1)
      exact .inr (.inr ⟨z, r, v, rfl, rfl, hz, ha, q _ x b c (List.mem_map.mpr ⟨_, hv, rfl⟩)⟩)
end
end Kl

set_option maxRecDepth 100000
set_option maxHeartbeats 4000000
namespace Kl
open PySem PySem.Spec PyProof.Rows L2 Gx Mx
/-! ### all but the dice stays -/
/-- all but what stands at d is as it was -/
def SameX (d : Addr) (H H' : Hp) : Prop := ∀ b o, b ≠ d → H b = some o → H' b = some o
theorem SameX.refl (d : Addr) (H : Hp) : SameX d H H := fun _ _ _ e => e
theorem SameX.trans {d : Addr} {H H' H'' : Hp} (h : SameX d H H') (h' : SameX d H' H'') : SameX d H H'' := fun b o n e => h' b o n (h b o n e)
theorem SameX.atd {d : Addr} {H H' : Hp} {o : HO} (h : SameX d H H') : SameX d H (upd H' d o) := fun b u n e => by rw [upd_ne n]; exact h b u n e
theorem SameX.new {d p : Addr} {H H' : Hp} {o : HO} (h : SameX d H H') (n : H' p = none) : SameX d H (upd H' p o) := fun b u nb e => by
  have e' := h b u nb e
  rw [upd_ne (ne_of_none e' n)]
  exact e'
theorem SameX.at {d p : Addr} {H H' : Hp} {o : HO} (h : SameX d H H') (n : H p = none) : SameX d H (upd H' p o) := fun b u nb e => by
  rw [upd_ne (ne_of_none e n)]
  exact h b u nb e
theorem SameX.of {d : Addr} {H H' : Hp} (h : Same H H') : SameX d H H' := fun b o _ e => h b o e
theorem SameX.free {d p : Addr} {H H' : Hp} (h : SameX d H H') (n : p ≠ d) (e : H' p = none) : H p = none := by
  cases q : H p with
  | none => rfl
  | some o => rw [h p o n q] at e; cases e
theorem dice_ne {H : Hp} {d p : Addr} (h : DiceAt H d) (e : H p = none) : p ≠ d := fun q => by
  obtain ⟨_, _, _, h⟩ := h
  rw [q, h] at e
  cases e
theorem dice_upd {H : Hp} {d p : Addr} {o : HO} (h : DiceAt H d) (n : p ≠ d) : DiceAt (upd H p o) d := by
  obtain ⟨a, b, c, h⟩ := h
  exact ⟨a, b, c, by rw [upd_ne n.symm]; exact h⟩
theorem dice_new {H : Hp} {d : Addr} (x b c : Int) : DiceAt (upd H d (.lst [.int x, .int b, .int c])) d := ⟨_, _, _, upd_same⟩
end Kl

set_option maxRecDepth 100000
set_option maxHeartbeats 4000000
namespace Kl
open PySem PySem.Spec PyProof.Rows L2 Gx Mx
/-! ### data that are small -/
theorem ok_app (a b : Str) : PyData.strOk (a ++ b) = (PyData.strOk a && PyData.strOk b) := by
  show (a.cps ++ b.cps).all _ = (a.cps.all _ && b.cps.all _)
  rw [Array.all_append]
structure Sm (B k : Nat) (d : PyData) : Prop where
  lay : d.canLay0 = true
  dp : d.depth ≤ k
  wt : d.weight ≤ B
  sh : d.showable = true
  is : d.intsShort 13 = true
theorem Sm.str {B k : Nat} {s : Str} (h : PyData.strOk s = true) (hl : s.length ≤ B) : Sm B k (.str s) := ⟨h, Nat.zero_le _, hl, rfl, rfl⟩
theorem Sm.up {B B' k k' : Nat} {d : PyData} (h : Sm B k d) (hB : B ≤ B') (hk : k ≤ k') : Sm B' k' d := ⟨h.lay, Nat.le_trans h.dp hk, Nat.le_trans h.wt hB, h.sh, h.is⟩
theorem Sm.all {B k : Nat} : ∀ {ds : List PyData}, (∀ d ∈ ds, Sm B k d) → PyData.canLayAll0 ds = true ∧ PyData.depthAll ds ≤ k ∧ PyData.weightAll ds ≤ ds.length * (B + 1) ∧ PyData.showableAll ds = true ∧ PyData.intsShortAll 13 ds = true
  | [], _ => ⟨rfl, Nat.zero_le _, Nat.zero_le _, rfl, rfl⟩
  | d :: ds, h => by
    obtain ⟨h1, h2, h3, h4, h5⟩ := h d List.mem_cons_self
    obtain ⟨i1, i2, i3, i4, i5⟩ := Sm.all (ds := ds) fun x hx => h x (List.mem_cons_of_mem _ hx)
    refine ⟨?_, ?_, ?_, ?_, ?_⟩
    · rw [PyData.canLayAll0, h1, i1]; rfl
    · rw [PyData.depthAll]; exact Nat.max_le.mpr ⟨h2, i2⟩
    · rw [PyData.weightAll, List.length_cons, Nat.succ_mul]
      omega
    · rw [PyData.showableAll, h4, i4]; rfl
    · rw [PyData.intsShortAll, h5, i5]; rfl
theorem Sm.tup {B k n B' k' : Nat} {ds : List PyData} (h : ∀ d ∈ ds, Sm B k d) (hn : ds.length ≤ n) (hB : n * (B + 1) ≤ B') (hk : k + 1 ≤ k') : Sm B' k' (.tuple ds) := by
  obtain ⟨i1, i2, i3, i4, i5⟩ := Sm.all h
  have hm : ds.length * (B + 1) ≤ n * (B + 1) := Nat.mul_le_mul_right _ hn
  exact ⟨i1, by rw [PyData.depth]; omega, by rw [PyData.weight]; omega, i4, i5⟩
theorem Sm.lst {B k n B' k' : Nat} {ds : List PyData} (h : ∀ d ∈ ds, Sm B k d) (hn : ds.length ≤ n) (hB : n * (B + 1) ≤ B') (hk : k + 1 ≤ k') : Sm B' k' (.list ds) := by
  obtain ⟨i1, i2, i3, i4, i5⟩ := Sm.all h
  have hm : ds.length * (B + 1) ≤ n * (B + 1) := Nat.mul_le_mul_right _ hn
  exact ⟨i1, by rw [PyData.depth]; omega, by rw [PyData.weight]; omega, i4, i5⟩
theorem Sm.int {B k n : Nat} (h : n ≤ 6) (hB : 3 ≤ B) : Sm B k (.int (n : Int)) := by
  have e : (List.range 7).all (fun n => decide (PyData.weight (.int (n : Int)) ≤ 3) && PyData.showable (.int (n : Int)) && PyData.intsShort 13 (.int (n : Int))) = true := by decide +kernel
  have e2 := List.all_eq_true.mp e n (List.mem_range.mpr (by omega))
  rw [Bool.and_eq_true, Bool.and_eq_true] at e2
  exact ⟨rfl, Nat.zero_le _, Nat.le_trans (of_decide_eq_true e2.1.1) hB, e2.1.2, e2.2⟩
/-- what repr asks of data -/
theorem Sm.repr {B k : Nat} {d : PyData} (h : Sm B k d) (hB : B ≤ 1000000) (hk : k ≤ 60) : d.showable = true ∧ d.hasDict = false ∧ d.depth ≤ 60 ∧ d.shown.length ≤ sizeLine := by
  have hl : PyData.layable0 d = true := by
    show (PyData.canLay0 d && decide (PyData.depth d ≤ 64) && decide (PyData.weight d ≤ 2 ^ 20)) = true
    rw [h.lay, decide_eq_true (show d.depth ≤ 64 from Nat.le_trans h.dp (by omega)), decide_eq_true (show d.weight ≤ 2 ^ 20 from Nat.le_trans h.wt (Nat.le_trans hB (by decide)))]
    rfl
  refine ⟨h.sh, PyData.hasDict_of_layable hl, Nat.le_trans h.dp hk, Nat.le_trans (shown_le13 hl h.is) (by decide)⟩
/-- texts -/
theorem sm_texts {B n : Nat} {zs : List Str} (h : ∀ z ∈ zs, PyData.strOk z = true ∧ z.length ≤ B) (hn : zs.length ≤ n) : Sm (n * (B + 1)) 1 (.tuple (tD zs)) := by
  refine Sm.tup (k := 0) (n := n) (fun d hd => ?_) (by unfold tD; rw [List.length_map]; exact hn) (Nat.le_refl _) (Nat.le_refl _)
  obtain ⟨z, hz, rfl⟩ := List.mem_map.mp hd
  exact Sm.str (h z hz).1 (h z hz).2
theorem Sm.intB {B k : Nat} {i : Int} (h : i.natAbs < 10 ^ 12) (hB : 41 ≤ B) : Sm B k (.int i) := by
  have hl : i.natAbs.log2 < 40 := PySem.Flt.log2_lt_of (by decide) (Nat.lt_trans h (by decide))
  refine ⟨rfl, Nat.zero_le _, ?_, decide_eq_true (Nat.lt_trans hl (by decide)), decide_eq_true (PyData.shown_int_le h)⟩
  rw [PyData.weight]
  split
  · exact Nat.zero_le _
  · omega
theorem Sm.bool {B k : Nat} (b : Bool) : Sm B k (.bool b) := ⟨rfl, Nat.zero_le _, Nat.zero_le _, rfl, rfl⟩
theorem Sm.non {B k : Nat} : Sm B k .none := ⟨rfl, Nat.zero_le _, Nat.zero_le _, rfl, rfl⟩
theorem Sm.shaped {B k : Nat} {d : PyData} (h : Sm B k d) (hk : k ≤ 64) : SeqAt.shaped d = true := by
  unfold SeqAt.shaped
  rw [Bool.and_eq_true]
  exact ⟨h.lay, decide_eq_true (Nat.le_trans h.dp hk)⟩
theorem sm_cons {B k : Nat} {d : PyData} {ds : List PyData} (h : Sm B k d) (r : ∀ e ∈ ds, Sm B k e) : ∀ e ∈ d :: ds, Sm B k e := fun e he => by
  rcases List.mem_cons.mp he with rfl | he
  · exact h
  · exact r e he
theorem sm_nil {B k : Nat} : ∀ e ∈ ([] : List PyData), Sm B k e := fun e he => nomatch he
/-! ### what stays while the dice are thrown -/
theorem sqT_sx {K : PySem.W.Frag} {G G' : Hp} {d a : Addr} {xs : List V} (hd : DiceAt G d) (s : SameX d G G') (h : SqT K G a xs) : SqT K G' a xs := by
  obtain ⟨p, q, r, e⟩ := hd
  rcases h with (h | ⟨o, h⟩) | h
  · exact .inl (.inl (s _ _ (fun z => by rw [z, e] at h; cases h) h))
  · exact .inl (.inr ⟨o, s _ _ (fun z => by rw [z, e] at h; cases h) h⟩)
  · exact .inr h
theorem ins_sx {G G' : Hp} {d a C dx : Addr} {fs : List (Str × V)} (hd : DiceAt G d) (s : SameX d G G') (h : G a = some (.ins C dx fs)) : G' a = some (.ins C dx fs) := by
  obtain ⟨p, q, r, e⟩ := hd
  exact s _ _ (fun z => by rw [z, e] at h; cases h) h
theorem dice_sm {H H' : Hp} {d : Addr} (s : ∀ b o, H b = some o → H' b = some o) (q : DiceAt H d) : DiceAt H' d := by
  obtain ⟨x, b, c, h⟩ := q
  exact ⟨x, b, c, s _ _ h⟩
end Kl

set_option maxRecDepth 100000
set_option maxHeartbeats 4000000
namespace Kl
open PySem PySem.Spec PyProof.Rows L2 Gx Mx
/-! ### trees -/
mutual
/-- a tree: its way, its key, its children digit by digit -/
inductive Tr
  | mk (way : List Str) (key : Int) (ds : Dgs)
inductive Dgs
  | nil
  | cons (d : Trs) (r : Dgs)
inductive Trs
  | nil
  | cons (t : Tr) (r : Trs)
end
mutual
def Tr.size : Tr → Nat
  | .mk _ _ ds => 1 + ds.size
def Dgs.size : Dgs → Nat
  | .nil => 0
  | .cons d r => d.size + r.size
def Trs.size : Trs → Nat
  | .nil => 0
  | .cons t r => t.size + r.size
end
def Tr.way : Tr → List Str
  | .mk w _ _ => w
def Tr.key : Tr → Int
  | .mk _ k _ => k
def Tr.kids : Tr → Dgs
  | .mk _ _ d => d
def Dgs.len : Dgs → Nat
  | .nil => 0
  | .cons _ r => r.len + 1
def Tr.rank (t : Tr) : Nat := t.kids.len
def Tr.kind (t : Tr) : Str := t.way.getLastD ""
abbrev tf (kx : Addr) (key : Int) (wl cl : Addr) (n : Nat) : List (Str × V) := [("_kinds", .ref kx), ("_key", .int key), ("_way", .ref wl), ("_children", .ref cl), ("_size", .int (n : Nat))]
mutual
/-- a tree of these kinds stands at x -/
def TreeAt (K : PySem.W.Frag) (C kx : Addr) (H : Hp) : Tr → Addr → Prop
  | .mk way key ds, x => ∃ (dx wl cl : Addr) (das : List Addr), H x = some (.ins C dx (tf kx key wl cl (1 + ds.size))) ∧ SqT K H wl (way.map V.str) ∧ SqT K H cl (das.map V.ref) ∧ DgsAt K C kx H ds das
def DgsAt (K : PySem.W.Frag) (C kx : Addr) (H : Hp) : Dgs → List Addr → Prop
  | .nil, as => as = []
  | .cons d r, as => ∃ (a : Addr) (bs xs : List Addr), as = a :: bs ∧ SqT K H a (xs.map V.ref) ∧ TrsAt K C kx H d xs ∧ DgsAt K C kx H r bs
def TrsAt (K : PySem.W.Frag) (C kx : Addr) (H : Hp) : Trs → List Addr → Prop
  | .nil, xs => xs = []
  | .cons t r, xs => ∃ (x : Addr) (ys : List Addr), xs = x :: ys ∧ TreeAt K C kx H t x ∧ TrsAt K C kx H r ys
end
section
variable {K : PySem.W.Frag} {C kx : Addr} {H H' : Hp}
mutual
theorem TreeAt.mono (s : ∀ a xs, SqT K H a xs → SqT K H' a xs) (si : ∀ a D dx fs, H a = some (.ins D dx fs) → H' a = some (.ins D dx fs)) : ∀ (t : Tr) (x : Addr), TreeAt K C kx H t x → TreeAt K C kx H' t x
  | .mk way key ds, x, h => by
    unfold TreeAt at h ⊢
    obtain ⟨dx, wl, cl, das, h1, h2, h3, h4⟩ := h
    exact ⟨dx, wl, cl, das, si _ _ _ _ h1, s _ _ h2, s _ _ h3, DgsAt.mono s si ds das h4⟩
theorem DgsAt.mono (s : ∀ a xs, SqT K H a xs → SqT K H' a xs) (si : ∀ a D dx fs, H a = some (.ins D dx fs) → H' a = some (.ins D dx fs)) : ∀ (ds : Dgs) (as : List Addr), DgsAt K C kx H ds as → DgsAt K C kx H' ds as
  | .nil, as, h => by
    unfold DgsAt at h ⊢
    exact h
  | .cons d r, as, h => by
    unfold DgsAt at h ⊢
    obtain ⟨a, bs, xs, e, h1, h2, h3⟩ := h
    exact ⟨a, bs, xs, e, s _ _ h1, TrsAt.mono s si d xs h2, DgsAt.mono s si r bs h3⟩
theorem TrsAt.mono (s : ∀ a xs, SqT K H a xs → SqT K H' a xs) (si : ∀ a D dx fs, H a = some (.ins D dx fs) → H' a = some (.ins D dx fs)) : ∀ (ts : Trs) (xs : List Addr), TrsAt K C kx H ts xs → TrsAt K C kx H' ts xs
  | .nil, xs, h => by
    unfold TrsAt at h ⊢
    exact h
  | .cons t r, xs, h => by
    unfold TrsAt at h ⊢
    obtain ⟨x, ys, e, h1, h2⟩ := h
    exact ⟨x, ys, e, TreeAt.mono s si t x h1, TrsAt.mono s si r ys h2⟩
end
theorem TreeAt.same {t : Tr} {x : Addr} (h : TreeAt K C kx H t x) (s : Same H H') : TreeAt K C kx H' t x := TreeAt.mono (fun _ _ q => sqT_st s q) (fun _ _ _ _ e => s _ _ e) t x h
theorem TreeAt.sx {t : Tr} {x d : Addr} (h : TreeAt K C kx H t x) (hd : DiceAt H d) (s : SameX d H H') : TreeAt K C kx H' t x :=
  TreeAt.mono (fun _ _ q => sqT_sx hd s q) (fun _ _ _ _ e => ins_sx hd s e) t x h
end
end Kl

set_option maxRecDepth 100000
set_option maxHeartbeats 4000000
namespace Kl
open PySem PySem.Spec PyProof.Rows L2 Gx Mx
abbrev TN5 : List Str := ["_kinds", "_key", "_way", "_children", "_size"]
theorem tn_ne : ("_kinds" : Str) ≠ "_key" ∧ ("_kinds" : Str) ≠ "_way" ∧ ("_kinds" : Str) ≠ "_children" ∧ ("_kinds" : Str) ≠ "_size" ∧ ("_key" : Str) ≠ "_way" ∧ ("_key" : Str) ≠ "_children" ∧ ("_key" : Str) ≠ "_size" ∧ ("_way" : Str) ≠ "_children" ∧ ("_way" : Str) ≠ "_size" ∧ ("_children" : Str) ≠ "_size" := by decide +kernel
theorem tf_kinds (kx : Addr) (key : Int) (wl cl : Addr) (n : Nat) : List.lookup ("_kinds" : Str) (tf kx key wl cl n) = some (.ref kx) := by simp [List.lookup]
theorem tf_key (kx : Addr) (key : Int) (wl cl : Addr) (n : Nat) : List.lookup ("_key" : Str) (tf kx key wl cl n) = some (.int key) := by
  have h1 : (("_key" : Str) == "_kinds") = false := by decide +kernel
  simp [List.lookup, h1]
theorem tf_way (kx : Addr) (key : Int) (wl cl : Addr) (n : Nat) : List.lookup ("_way" : Str) (tf kx key wl cl n) = some (.ref wl) := by
  have h1 : (("_way" : Str) == "_kinds") = false := by decide +kernel
  have h2 : (("_way" : Str) == "_key") = false := by decide +kernel
  simp [List.lookup, h1, h2]
theorem tf_children (kx : Addr) (key : Int) (wl cl : Addr) (n : Nat) : List.lookup ("_children" : Str) (tf kx key wl cl n) = some (.ref cl) := by
  have h1 : (("_children" : Str) == "_kinds") = false := by decide +kernel
  have h2 : (("_children" : Str) == "_key") = false := by decide +kernel
  have h3 : (("_children" : Str) == "_way") = false := by decide +kernel
  simp [List.lookup, h1, h2, h3]
theorem tf_size (kx : Addr) (key : Int) (wl cl : Addr) (n : Nat) : List.lookup ("_size" : Str) (tf kx key wl cl n) = some (.int (n : Nat)) := by
  have h1 : (("_size" : Str) == "_kinds") = false := by decide +kernel
  have h2 : (("_size" : Str) == "_key") = false := by decide +kernel
  have h3 : (("_size" : Str) == "_way") = false := by decide +kernel
  have h4 : (("_size" : Str) == "_children") = false := by decide +kernel
  simp [List.lookup, h1, h2, h3, h4]
theorem tn_app {k : Str} {v : V} {fs : List (Str × V)} (h : ((fs.map (·.1)).all fun n => !decide (n = k)) = true) : putF k v fs = fs ++ [(k, v)] := putF_app fs fun p hp e => by
  have := List.all_eq_true.mp h p.1 (List.mem_map.mpr ⟨p, hp, rfl⟩)
  rw [decide_eq_true e] at this
  cases this
theorem sqT_atx {K : PySem.W.Frag} {G : Hp} {x C dx a : Addr} {fs : List (Str × V)} {o : HO} {xs : List V} (h : G x = some (.ins C dx fs)) (q : SqT K G a xs) : SqT K (upd G x o) a xs := by
  rcases q with (q | ⟨u, q⟩) | q
  · exact .inl (.inl (by rw [upd_ne (fun e => by rw [e, h] at q; cases q)]; exact q))
  · exact .inl (.inr ⟨u, by rw [upd_ne (fun e => by rw [e, h] at q; cases q)]; exact q⟩)
  · exact .inr q
section
variable {P : Program} {w : World} {K : PySem.W.Frag} {mg : Str → Option Value} {base : Heap}
/-! ### Tree.__init__ -/
def spTInit (K : PySem.W.Frag) (C Ck : Addr) : Sp := fun vs H Q _ => ∃ (x dx kx md : Addr) (leaf : Str) (M : Mak) (ns : List Str) (key : Int), vs = [.ref x, .ref kx, .int key] ∧ H x = some (.ins C dx []) ∧ KindsAt Ck H kx md leaf M ns ∧ intV (.int key) = true ∧
  ∀ H', TreeAt K C kx H' (.mk [leaf] key .nil) x → (∀ b o, b ≠ x → H b = some o → H' b = some o) → Q .non H'
theorem ok_tinit {C Ck f : Addr} {fd : FuncData} (F : Fun K "__init__" "Tree.__init__" s_Tree_init f fd) (T : Top K mg) (TC : Cl_Tree K mg C) (TK : Cl_Kinds K mg Ck) : FnOk P w K mg base CX0 3 f fd ["self", "kinds", "key"] (spTInit K C Ck) := by
  have ci : Cal P w K mg base 2 "is_integer" ["value"] (spInt K) := (T.d_is_integer.cal fun f fd F => ok_int F T).mono (by decide)
  have kLeaf : CalP P w K mg base Ck "leaf" 1 (spKLeaf Ck) := (TK.p_leaf.cal fun f fd F => ok_kleaf F TK).mono (by decide)
  refine F.ok sc_Tree_init (fun vs H Q E h => ?_) (fun cdv A outer s H vs Q E hr h => ?_)
  · obtain ⟨x, dx, kx, md, leaf, M, ns, key, rfl, _⟩ := h
    rfl
  · obtain ⟨x, dx, kx, md, leaf, M, ns, key, rfl, hx, hK, hk, q⟩ := h
    refine ⟨_, pss_cons (ps_if (pt_not (pt_val (pe_callB call_isi (by rfl) T.b_isinstance (by decide +kernel) (pa_cons (pv 1) (pa_cons (pe_glob (v := .ref Ck) (by rfl) TK.gC rfl) pa_nil))))) (pss_one ps_never) pss_nil)
      (pss_cons (ps_if (pt_not (pt_val (pe_cal ci hr (by rfl) (pa_cons (pv 2) pa_nil)))) (pss_one ps_never) pss_nil)
      (pss_cut (ps_fld (pv 0) (pv 1) rfl)
      (pss_cut (ps_fld (pv 0) (pv 2) rfl)
      (pss_cut (ps_fld (pv 0) (pe_tup (pa_cons (pe_propC (pv 1) TK.cl kLeaf hr rfl) pa_nil)) rfl)
      (pss_cut (ps_fld (pv 0) (pe_tup pa_nil) rfl)
      (pss_one (ps_fld (pv 0) pe_int rfl))))))), ?_⟩
    have big : 100000 ≤ sizeLine := by decide
    obtain ⟨dk, nt, kvs, hkx, _⟩ := id hK
    refine ⟨_, rfl, _, _, .ref Ck, .ref Ck, true, rfl, .own Ck, .base (.ins hkx TK.cl TK.ca TK.cg TK.ct TK.ob), TK.kit, true, rfl, ?_⟩
    show (if (!true) = true then _ else _)
    rw [if_neg (by decide)]
    refine ⟨_, rfl, .int key, rfl, .inl ⟨_, rfl⟩, _, rfl, ?_⟩
    rw [hk]
    show (if (!true) = true then _ else _)
    rw [if_neg (by decide)]
    have nkx : kx ≠ x := fun h => by rw [h, hx] at hkx; cases hkx
    refine ⟨fun σ' G => σ' = [some (.ref x), some (.ref kx), some (.int key)] ∧ G x = some (.ins C dx [("_kinds", .ref kx)]) ∧ SameX x H G, ?_, ?_⟩
    · exact ⟨_, rfl, _, rfl, x, C, dx, [], rfl, hx, TC.cl, TC.n_kinds, by decide, rfl, upd_same, (SameX.refl x H).atd⟩
    rintro σ' G1 ⟨rfl, h1, s1⟩
    refine ⟨fun σ' G => σ' = [some (.ref x), some (.ref kx), some (.int key)] ∧ G x = some (.ins C dx [("_kinds", .ref kx), ("_key", .int key)]) ∧ SameX x H G, ?_, ?_⟩
    · refine ⟨_, rfl, _, rfl, x, C, dx, _, rfl, h1, TC.cl, TC.n_key, by show 1 < 1000; decide, ?_⟩
      rw [tn_app (by show ((["_kinds"] : List Str).all fun n => !decide (n = "_key")) = true; decide +kernel)]
      exact ⟨rfl, upd_same, s1.atd⟩
    clear h1 s1
    rintro σ' G1 ⟨rfl, h1, s1⟩
    have hK1 : KindsAt Ck G1 kx md leaf M ns := hK.keep s1 nkx (fun h => by obtain ⟨_, _, _, _, e, _⟩ := id hK; rw [h, hx] at e; cases e) (fun xs e => by rw [hx] at e; cases e) (fun xs e => by obtain ⟨o, _, e⟩ := e; rw [hx] at e; cases e)
    obtain ⟨dk1, nt1, kvs1, hkx1, _⟩ := id hK1
    refine ⟨fun σ' G => ∃ wl : Addr, σ' = [some (.ref x), some (.ref kx), some (.int key)] ∧ G x = some (.ins C dx [("_kinds", .ref kx), ("_key", .int key), ("_way", .ref wl)]) ∧ SqT K G wl [.str leaf] ∧ SameX x H G ∧ wl ≠ x, ?_, ?_⟩
    · refine ⟨_, rfl, kx, dk1, _, rfl, hkx1, kx, md, leaf, M, ns, rfl, hK1, by show 1 ≤ sizeLine; omega, fun wl nwl => ?_⟩
      have s2 := same_new (o := .tup [.str leaf]) (Same.refl G1) nwl
      have e2 : (upd G1 wl (.tup [.str leaf])) wl = some (.tup [.str leaf]) := upd_same
      have nwx : wl ≠ x := fun h => by rw [h, h1] at nwl; cases nwl
      refine ⟨_, rfl, x, C, dx, _, rfl, s2 _ _ h1, TC.cl, TC.n_way, by show 2 < 1000; decide, ?_⟩
      rw [tn_app (by show ((["_kinds", "_key"] : List Str).all fun n => !decide (n = "_way")) = true; decide +kernel)]
      exact ⟨wl, rfl, upd_same, .inl (.inl (by rw [upd_ne nwx]; exact e2)), (s1.new nwl).atd, nwx⟩
    clear h1 s1 hK1 hkx1
    rintro σ' G1 ⟨wl, rfl, h1, hwl, s1, nwx⟩
    refine ⟨fun σ' G => ∃ cl : Addr, σ' = [some (.ref x), some (.ref kx), some (.int key)] ∧ G x = some (.ins C dx [("_kinds", .ref kx), ("_key", .int key), ("_way", .ref wl), ("_children", .ref cl)]) ∧ SqT K G wl [.str leaf] ∧ SqT K G cl [] ∧ SameX x H G, ?_, ?_⟩
    · refine ⟨Nat.zero_le _, fun cl ncl => ?_⟩
      have s2 := same_new (o := .tup []) (Same.refl G1) ncl
      have e2 : (upd G1 cl (.tup [])) cl = some (.tup []) := upd_same
      have ncx : cl ≠ x := fun h => by rw [h, h1] at ncl; cases ncl
      refine ⟨_, rfl, x, C, dx, _, rfl, s2 _ _ h1, TC.cl, TC.n_children, by show 3 < 1000; decide, ?_⟩
      rw [tn_app (by show ((["_kinds", "_key", "_way"] : List Str).all fun n => !decide (n = "_children")) = true; decide +kernel)]
      exact ⟨cl, rfl, upd_same, sqT_atx (s2 _ _ h1) (sqT_st s2 hwl), .inl (.inl (by rw [upd_ne ncx]; exact e2)), (s1.new ncl).atd⟩
    rintro σ' G2 ⟨cl, rfl, h2, hwl2, hcl, s2⟩
    refine ⟨_, rfl, x, C, dx, _, rfl, h2, TC.cl, TC.n_size, by show 4 < 1000; decide, ?_⟩
    rw [tn_app (by show ((["_kinds", "_key", "_way", "_children"] : List Str).all fun n => !decide (n = "_size")) = true; decide +kernel)]
    refine q _ ?_ s2.atd
    unfold TreeAt
    refine ⟨dx, wl, cl, [], upd_same, sqT_atx h2 hwl2, sqT_atx h2 hcl, ?_⟩
    unfold DgsAt
    rfl
end
end Kl

set_option maxRecDepth 100000
set_option maxHeartbeats 4000000
namespace Kl
open PySem PySem.Spec PyProof.Rows L2 Gx Mx
theorem DgsAt.len {K : PySem.W.Frag} {C kx : Addr} {H : Hp} : ∀ (ds : Dgs) (as : List Addr), DgsAt K C kx H ds as → as.length = ds.len
  | .nil, as, h => by
    unfold DgsAt at h
    rw [h]
    rfl
  | .cons d r, as, h => by
    unfold DgsAt at h
    obtain ⟨a, bs, xs, rfl, _, _, h3⟩ := h
    show bs.length + 1 = r.len + 1
    rw [DgsAt.len r bs h3]
theorem last_at {w : List Str} (h : w ≠ []) : atI (w.map V.str) (-1) = some (.str (w.getLastD "")) := by
  have hl : 0 < w.length := Nat.pos_of_ne_zero fun e => h (List.length_eq_zero_iff.mp e)
  unfold atI ixN
  rw [if_neg (by omega), if_pos (by rw [List.length_map]; omega)]
  rw [List.length_map]
  show (w.map V.str)[(-1 + (w.length : Int)).toNat]? = _
  rw [show (-1 + (w.length : Int)).toNat = w.length - 1 by omega, List.getElem?_map, ← List.getLast?_eq_getElem?, List.getLastD_eq_getLast?]
  rw [List.getLast?_eq_some_getLast h]
  rfl
section
variable {P : Program} {w : World} {K : PySem.W.Frag} {mg : Str → Option Value} {base : Heap}
/-! ### what a tree tells -/
def spTKinds (K : PySem.W.Frag) (C : Addr) : Sp := fun vs H Q _ => ∃ (x kx : Addr) (t : Tr), vs = [.ref x] ∧ TreeAt K C kx H t x ∧ Q (.ref kx) H
theorem ok_tkinds {C f : Addr} {fd : FuncData} (F : Fun K "kinds" "Tree.kinds" s_Tree_kinds f fd) (TC : Cl_Tree K mg C) : FnOk P w K mg base CX0 1 f fd ["self"] (spTKinds K C) := by
  refine F.ok sc_Tree_kinds (fun vs H Q E h => ?_) (fun cdv A outer s H vs Q E hr h => ?_)
  · obtain ⟨x, kx, t, rfl, _⟩ := h
    rfl
  · obtain ⟨x, kx, ⟨way, key, ds⟩, rfl, ht, q⟩ := h
    unfold TreeAt at ht
    obtain ⟨dx, wl, cl, das, hx, _⟩ := ht
    exact ⟨_, pss_one (ps_ret (pe_fld (pv 0) rfl)), _, rfl, x, C, dx, _, _, rfl, hx, TC.cl, TC.n_kinds, tf_kinds _ _ _ _ _, q⟩
def spTKey (K : PySem.W.Frag) (C : Addr) : Sp := fun vs H Q _ => ∃ (x kx : Addr) (t : Tr), vs = [.ref x] ∧ TreeAt K C kx H t x ∧ Q (.int t.key) H
theorem ok_tkey {C f : Addr} {fd : FuncData} (F : Fun K "key" "Tree.key" s_Tree_key f fd) (TC : Cl_Tree K mg C) : FnOk P w K mg base CX0 1 f fd ["self"] (spTKey K C) := by
  refine F.ok sc_Tree_key (fun vs H Q E h => ?_) (fun cdv A outer s H vs Q E hr h => ?_)
  · obtain ⟨x, kx, t, rfl, _⟩ := h
    rfl
  · obtain ⟨x, kx, ⟨way, key, ds⟩, rfl, ht, q⟩ := h
    unfold TreeAt at ht
    obtain ⟨dx, wl, cl, das, hx, _⟩ := ht
    exact ⟨_, pss_one (ps_ret (pe_fld (pv 0) rfl)), _, rfl, x, C, dx, _, _, rfl, hx, TC.cl, TC.n_key, tf_key _ _ _ _ _, q⟩
def spTSize (K : PySem.W.Frag) (C : Addr) : Sp := fun vs H Q _ => ∃ (x kx : Addr) (t : Tr), vs = [.ref x] ∧ TreeAt K C kx H t x ∧ Q (.int (t.size : Nat)) H
theorem ok_tsize {C f : Addr} {fd : FuncData} (F : Fun K "size" "Tree.size" s_Tree_size f fd) (TC : Cl_Tree K mg C) : FnOk P w K mg base CX0 1 f fd ["self"] (spTSize K C) := by
  refine F.ok sc_Tree_size (fun vs H Q E h => ?_) (fun cdv A outer s H vs Q E hr h => ?_)
  · obtain ⟨x, kx, t, rfl, _⟩ := h
    rfl
  · obtain ⟨x, kx, ⟨way, key, ds⟩, rfl, ht, q⟩ := h
    unfold TreeAt at ht
    obtain ⟨dx, wl, cl, das, hx, _⟩ := ht
    refine ⟨_, pss_one (ps_ret (pe_fld (pv 0) rfl)), _, rfl, x, C, dx, _, _, rfl, hx, TC.cl, TC.n_size, tf_size _ _ _ _ _, ?_⟩
    rw [Tr.size] at q
    exact q
def spTWay (K : PySem.W.Frag) (C : Addr) : Sp := fun vs H Q _ => ∃ (x kx : Addr) (t : Tr), vs = [.ref x] ∧ TreeAt K C kx H t x ∧ ∀ wl, SqT K H wl (t.way.map V.str) → Q (.ref wl) H
theorem ok_tway {C f : Addr} {fd : FuncData} (F : Fun K "way" "Tree.way" s_Tree_way f fd) (TC : Cl_Tree K mg C) : FnOk P w K mg base CX0 1 f fd ["self"] (spTWay K C) := by
  refine F.ok sc_Tree_way (fun vs H Q E h => ?_) (fun cdv A outer s H vs Q E hr h => ?_)
  · obtain ⟨x, kx, t, rfl, _⟩ := h
    rfl
  · obtain ⟨x, kx, ⟨way, key, ds⟩, rfl, ht, q⟩ := h
    unfold TreeAt at ht
    obtain ⟨dx, wl, cl, das, hx, hw, _⟩ := ht
    exact ⟨_, pss_one (ps_ret (pe_fld (pv 0) rfl)), _, rfl, x, C, dx, _, _, rfl, hx, TC.cl, TC.n_way, tf_way _ _ _ _ _, q wl hw⟩
def spTKids (K : PySem.W.Frag) (C : Addr) : Sp := fun vs H Q _ => ∃ (x kx : Addr) (t : Tr), vs = [.ref x] ∧ TreeAt K C kx H t x ∧ ∀ cl das, SqT K H cl (das.map V.ref) → DgsAt K C kx H t.kids das → Q (.ref cl) H
theorem ok_tkids {C f : Addr} {fd : FuncData} (F : Fun K "children" "Tree.children" s_Tree_children f fd) (TC : Cl_Tree K mg C) : FnOk P w K mg base CX0 1 f fd ["self"] (spTKids K C) := by
  refine F.ok sc_Tree_children (fun vs H Q E h => ?_) (fun cdv A outer s H vs Q E hr h => ?_)
  · obtain ⟨x, kx, t, rfl, _⟩ := h
    rfl
  · obtain ⟨x, kx, ⟨way, key, ds⟩, rfl, ht, q⟩ := h
    unfold TreeAt at ht
    obtain ⟨dx, wl, cl, das, hx, _, hc, hds⟩ := ht
    exact ⟨_, pss_one (ps_ret (pe_fld (pv 0) rfl)), _, rfl, x, C, dx, _, _, rfl, hx, TC.cl, TC.n_children, tf_children _ _ _ _ _, q cl das hc hds⟩
def spTRank (K : PySem.W.Frag) (C : Addr) : Sp := fun vs H Q _ => ∃ (x kx : Addr) (t : Tr), vs = [.ref x] ∧ TreeAt K C kx H t x ∧ Q (.int (t.rank : Nat)) H
theorem ok_trank {C f : Addr} {fd : FuncData} (F : Fun K "rank" "Tree.rank" s_Tree_rank f fd) (T : Top K mg) (TC : Cl_Tree K mg C) : FnOk P w K mg base CX0 1 f fd ["self"] (spTRank K C) := by
  refine F.ok sc_Tree_rank (fun vs H Q E h => ?_) (fun cdv A outer s H vs Q E hr h => ?_)
  · obtain ⟨x, kx, t, rfl, _⟩ := h
    rfl
  · obtain ⟨x, kx, ⟨way, key, ds⟩, rfl, ht, q⟩ := h
    unfold TreeAt at ht
    obtain ⟨dx, wl, cl, das, hx, _, hc, hds⟩ := ht
    refine ⟨_, pss_one (ps_ret (pe_callB call_len_seq (by rfl) T.b_len PySem.boot_len (pa_cons (pe_fld (pv 0) rfl) pa_nil))), _, rfl, x, C, dx, _, _, rfl, hx, TC.cl, TC.n_children, tf_children _ _ _ _ _, cl, _, rfl, .inr hc, ?_⟩
    rw [List.length_map, DgsAt.len ds das hds]
    exact q
def spTKind (K : PySem.W.Frag) (C : Addr) : Sp := fun vs H Q _ => ∃ (x kx : Addr) (t : Tr), vs = [.ref x] ∧ TreeAt K C kx H t x ∧ t.way ≠ [] ∧ Q (.str t.kind) H
theorem ok_tkind {C f : Addr} {fd : FuncData} (F : Fun K "kind" "Tree.kind" s_Tree_kind f fd) (TC : Cl_Tree K mg C) : FnOk P w K mg base CX0 1 f fd ["self"] (spTKind K C) := by
  refine F.ok sc_Tree_kind (fun vs H Q E h => ?_) (fun cdv A outer s H vs Q E hr h => ?_)
  · obtain ⟨x, kx, t, rfl, _⟩ := h
    rfl
  · obtain ⟨x, kx, ⟨way, key, ds⟩, rfl, ht, hne, q⟩ := h
    unfold TreeAt at ht
    obtain ⟨dx, wl, cl, das, hx, hw, _⟩ := ht
    exact ⟨_, pss_one (ps_ret (pe_ix ix_tup (pe_fld (pv 0) rfl) (pe_un un_neg pe_int) (fun _ _ => rfl))), _, rfl, x, C, dx, _, _, rfl, hx, TC.cl, TC.n_way, tf_way _ _ _ _ _, _, rfl, wl, _, _, _, rfl, rfl, hw, last_at hne, q⟩
end
end Kl

set_option maxRecDepth 100000
set_option maxHeartbeats 4000000
namespace Kl
open PySem PySem.Spec PyProof.Rows L2 Gx Mx
def Trs.list : Trs → List Tr
  | .nil => []
  | .cons t r => t :: r.list
theorem TrsAt.len {K : PySem.W.Frag} {C kx : Addr} {H : Hp} : ∀ (ts : Trs) (xs : List Addr), TrsAt K C kx H ts xs → xs.length = ts.list.length
  | .nil, xs, h => by
    unfold TrsAt at h
    rw [h]
    rfl
  | .cons t r, xs, h => by
    unfold TrsAt at h
    obtain ⟨x, ys, rfl, _, h2⟩ := h
    show ys.length + 1 = r.list.length + 1
    rw [TrsAt.len r ys h2]
theorem ix_tupK {X : Cx} {K : PySem.W.Frag} (hk : X.K = K) : IxR X (rIxT K) := by
  subst hk
  exact ix_tup
theorem isi_K {X : Cx} {K : PySem.W.Frag} (hk : X.K = K) : CallR X (.builtin "isinstance") (rIsi K) := by
  subst hk
  exact call_isi
theorem eqM_K {X : Cx} {K : PySem.W.Frag} {C : Addr} {k : Nat} {ps : List Str} {sp : Sp} (hk : X.K = K) (c : CalM X.prog X.w X.K X.mg X.base C "__eq__" k ps sp) (hr : Room k X.A) : OpR X (compareOp .Eq) (rEqM K C sp) := by
  subst hk
  exact op_eqM c hr
theorem TrsAt.get {K : PySem.W.Frag} {C kx : Addr} {H : Hp} : ∀ {ts : Trs} {xs : List Addr} {j : Nat} {x : Addr}, TrsAt K C kx H ts xs → xs[j]? = some x → ∃ t, ts.list[j]? = some t ∧ TreeAt K C kx H t x
  | .nil, xs, j, x, h, e => by
    unfold TrsAt at h
    subst h
    cases e
  | .cons t r, xs, 0, x, h, e => by
    unfold TrsAt at h
    obtain ⟨y, ys, rfl, h1, _⟩ := h
    cases e
    exact ⟨t, rfl, h1⟩
  | .cons t r, xs, j + 1, x, h, e => by
    unfold TrsAt at h
    obtain ⟨y, ys, rfl, _, h2⟩ := h
    exact TrsAt.get (ts := r) h2 e
theorem refs_at' {xs : List Addr} {j : Nat} {u : V} (h : (xs.map V.ref)[j]? = some u) : ∃ x, xs[j]? = some x ∧ u = .ref x := by
  rw [List.getElem?_map] at h
  obtain ⟨x, e, r⟩ := Option.map_eq_some_iff.mp h
  exact ⟨x, e, r.symm⟩
theorem hu_of' {A : Around} {k : Nat} (r : Room k A) : A.units + 1 < cLine := by
  have := r.un
  omega
theorem reps_snoc (j : Nat) : (List.replicate j true).map V.bl ++ [V.bl true] = (List.replicate (j + 1) true).map V.bl := by
  rw [List.replicate_succ', List.map_append]
  rfl
theorem reps_all (j : Nat) : (List.replicate j true).all id = true := by
  rw [List.all_eq_true]
  intro b hb
  exact List.eq_of_mem_replicate hb
section
variable {P : Program} {w : World} {K : PySem.W.Frag} {mg : Str → Option Value} {base : Heap}
/-! ### _are_fit -/
abbrev NFT : List Str := ["trees", "tree"]
def spFit (K : PySem.W.Frag) (C Ck : Addr) : Sp := fun vs H Q _ => ∃ (p kx md : Addr) (xs : List Addr) (ts : Trs) (n : Nat) (leaf : Str) (M : Mak) (ns : List Str), vs = [V.ref p] ∧ SqT K H p (xs.map V.ref) ∧ TrsAt K C kx H ts xs ∧ 2 ≤ xs.length ∧ xs.length ≤ 3 ∧ (∀ t ∈ ts.list, t.rank = n) ∧ KindsAt Ck H kx md leaf M ns ∧ Vld leaf M ∧ eqB M M = true ∧
  ∀ H', Same H H' → Q (.bl true) H'
theorem ok_fit {C Ck f : Addr} {fd : FuncData} (F : Fun K "_are_fit" "_are_fit" s_are_fit f fd) (T : Top K mg) (TC : Cl_Tree K mg C) (TK : Cl_Kinds K mg Ck) : FnOk P w K mg base CX0 4 f fd ["trees"] (spFit K C Ck) := by
  have kKin : CalP P w K mg base C "kinds" 2 (spTKinds K C) := (TC.p_kinds.cal fun f fd F => ok_tkinds F TC).mono (by decide)
  have kRnk : CalP P w K mg base C "rank" 2 (spTRank K C) := (TC.p_rank.cal fun f fd F => ok_trank F T TC).mono (by decide)
  have kEq : CalM P w K mg base Ck "__eq__" 3 ["self", "other"] (spKEq K Ck) := (TK.m_eq.cal fun f fd F => ok_keq F T TK).mono (by decide)
  refine F.ok sc_are_fit (fun vs H Q E h => ?_) (fun cdv A outer s H vs Q E hr h => ?_)
  · obtain ⟨p, kx, md, xs, ts, n, leaf, M, ns, rfl, _⟩ := h
    rfl
  · obtain ⟨p, kx, md, xs, ts, n, leaf, M, ns, rfl, hp, hts, h2, h3, hrk, hK, hV, hM, q⟩ := h
    refine ⟨_, pss_cons (ps_if (PW.pt (pw_or (pt_not (pt_val (pe_callB call_isi (by rfl) T.b_isinstance (by decide +kernel) (pa_cons (pv 0) (pa_cons (pe_bltn (v := .ty "tuple") (by rfl) T.b_tuple (by decide +kernel) rfl) pa_nil)))))
          (pw_or1 (pt_not (pt_chain op_le op_le pe_int (pe_callB call_len_seq (by rfl) T.b_len PySem.boot_len (pa_cons (pv 0) pa_nil)) pe_int))))) (pss_one (ps_ret pe_bl)) pss_nil)
      (pss_cut (ps_if (pt_not (pt_val (pe_callB (cr_all rfl) (by rfl) T.b_all (by decide +kernel) (pa_cons (pe_lc (own := [("tree", 1)]) (g := gName 1) (tt := tYes) rfl sc_are_fit.nd (pi_tup (pv 0)) (blkOk_by (N := NFT) (sc := defScope s_are_fit) (by decide +kernel)) (fun _ _ _ _ _ => pg_name (i := 1) sc_are_fit.nd rfl (.inl rfl)) (fun _ _ _ _ _ => pts_nil)
            (fun _ _ _ _ _ => pe_callB (id := "isinstance") (isi_K (K := K) (by exact rfl)) (by rfl) T.b_isinstance (by decide +kernel) (pa_cons (pv 1) (pa_cons (pe_glob (v := .ref C) (by rfl) TC.gC rfl) pa_nil)))) pa_nil)))) (pss_one (ps_ret pe_bl)) pss_nil)
      (pss_one (ps_ret (pe_callB (cr_all rfl) (by rfl) T.b_all (by decide +kernel) (pa_cons (pe_lc (own := [("tree", 1)]) (g := gName 1) (tt := tYes) rfl sc_are_fit.nd (pi_tup (pv 0)) (blkOk_by (N := NFT) (sc := defScope s_are_fit) (by decide +kernel)) (fun _ _ _ _ _ => pg_name (i := 1) sc_are_fit.nd rfl (.inl rfl)) (fun _ _ _ _ _ => pts_nil)
            (fun _ _ _ _ _ => pe_and (pe_cmpR (eqM_K (K := K) (by exact rfl) kEq hr) (pe_propC (pv 1) TC.cl kKin hr rfl) (pe_propC (pe_ix (ix_tupK (K := K) (by exact rfl)) (pv 0) pe_int (fun _ _ => rfl)) TC.cl kKin hr rfl) (by rfl)) (pe_one (pe_cmpR op_eq (pe_propC (pv 1) TC.cl kRnk hr rfl) (pe_propC (pe_ix (ix_tupK (K := K) (by exact rfl)) (pv 0) pe_int (fun _ _ => rfl)) TC.cl kRnk hr rfl) (by rfl))))) pa_nil))))), ?_⟩
    have big : 100000 ≤ sizeLine := by decide
    have hty : TyX K H (.ref p) (.type "tuple") := by
      rcases id hp with (h | ⟨o, h⟩) | ⟨o, its, m, h, c, _⟩
      · exact .base (.tup h)
      · exact .fTuple h
      · exact .kTuple h c
    refine ⟨_, rfl, _, .ty "tuple", .type "tuple", .type "tuple", true, rfl, .ty _, hty, kit_ty (by decide +kernel), true, rfl, ?_⟩
    show (if (!true) = true then _ else _)
    rw [if_neg (by decide)]
    refine ⟨_, rfl, p, _, rfl, .inr hp, _, _, rfl, rfl, _, rfl, ?_⟩
    rw [List.length_map, decide_eq_true (show (2 : Int) ≤ ((xs.length : Nat) : Int) by omega)]
    show (if true = true then _ else _)
    rw [if_pos rfl]
    refine ⟨_, _, rfl, rfl, _, rfl, ?_⟩
    rw [decide_eq_true (show ((xs.length : Nat) : Int) ≤ 3 by omega)]
    show (if (!true) = true then _ else _)
    rw [if_neg (by decide)]
    refine ⟨fun σ' G => σ' = [some (.ref p), none] ∧ Same H G, ?_, ?_⟩
    · refine ⟨_, rfl, p, rfl, ⟨_, hp⟩, fun D hD => ?_⟩
      refine lc_it (g := gName 1) (tt := tYes) (vs := [1]) (walk_tup (K := K) (a := p) (xs := xs.map V.ref)) (fun j G' => G' D = some (.lst ((List.replicate j true).map V.bl)) ∧ Same H G')
        ⟨upd_same, same_new (Same.refl H) hD⟩ (fun j G' _ h => sqT_st h.2 hp) (fun j u Gx G' hj h hy => ?_) (fun G' h => ?_)
      · obtain ⟨eD, sm⟩ := h
        obtain ⟨rfl, hu⟩ := hy
        obtain ⟨x, hx, rfl⟩ := refs_at' hu
        obtain ⟨⟨way, key, ds⟩, ht, hT⟩ := TrsAt.get hts hx
        unfold TreeAt at hT
        obtain ⟨dx, wl, cl, das, hxi, _⟩ := hT
        have hj3 : j < 3 := by
          have := (List.getElem?_eq_some_iff.mp hx).1
          omega
        refine ⟨rfl, _, rfl, _, .ref C, .ref C, .ref C, true, rfl, .own C, .base (.ins (sm _ _ hxi) TC.cl TC.ca TC.cg TC.ct TC.ob), TC.kit, _, eD, ?_, ?_, fun b o e => by rw [upd_ne (ne_of_none e hD)]; exact sm b o e⟩
        · rw [List.length_map, List.length_replicate]
          exact Nat.lt_of_lt_of_le hj3 (by decide)
        · rw [upd_same, reps_snoc]
      · obtain ⟨eD, sm⟩ := h
        refine ⟨D, _, rfl, .inl (.inl eD), _, rfl, ?_⟩
        rw [reps_all]
        show (if (!true) = true then _ else _)
        rw [if_neg (by decide)]
        exact ⟨rfl, sm⟩
    rintro σ' G ⟨rfl, s1⟩
    have hp1 := sqT_st s1 hp
    have hts1 : TrsAt K C kx G ts xs := TrsAt.mono (fun _ _ q => sqT_st s1 q) (fun _ _ _ _ e => s1 _ _ e) ts xs hts
    have hK1 := hK.same s1
    have hx0 : xs[0]? = some xs[0] := List.getElem?_eq_getElem (by omega)
    generalize xs[0] = x0 at hx0
    have hat0 : atI (xs.map V.ref) 0 = some (.ref x0) := by
      refine atI_nat (j := 0) ?_
      rw [List.getElem?_map, hx0]
      rfl
    refine ⟨_, rfl, p, rfl, ⟨_, hp1⟩, fun D hD => ?_⟩
    refine lc_it (g := gName 1) (tt := tYes) (vs := [1]) (walk_tup (K := K) (a := p) (xs := xs.map V.ref)) (fun j G' => G' D = some (.lst ((List.replicate j true).map V.bl)) ∧ Same G G')
      ⟨upd_same, same_new (Same.refl G) hD⟩ (fun j G' _ h => sqT_st h.2 hp1) (fun j u Gx G' hj h hy => ?_) (fun G' h => ?_)
    · obtain ⟨eD, sm⟩ := h
      obtain ⟨rfl, hu⟩ := hy
      obtain ⟨x, hx, rfl⟩ := refs_at' hu
      have htm : TrsAt K C kx G' ts xs := TrsAt.mono (fun _ _ q => sqT_st sm q) (fun _ _ _ _ e => sm _ _ e) ts xs hts1
      obtain ⟨t, htl, hT⟩ := TrsAt.get htm hx
      obtain ⟨t0, htl0, hT0⟩ := TrsAt.get htm hx0
      have hr1 := hrk t (List.mem_of_getElem? htl)
      have hr0 := hrk t0 (List.mem_of_getElem? htl0)
      have hK2 := hK1.same sm
      have hp2 := sqT_st sm hp1
      obtain ⟨dk, nt, kvs, hkx, _⟩ := id hK2
      obtain ⟨dx, fs, hxi⟩ : ∃ dx fs, G' x = some (.ins C dx fs) := by
        cases t with
        | mk way key ds =>
          unfold TreeAt at hT
          obtain ⟨dx, wl, cl, das, hxi, _⟩ := hT
          exact ⟨dx, _, hxi⟩
      obtain ⟨dx0, fs0, hxi0⟩ : ∃ dx fs, G' x0 = some (.ins C dx fs) := by
        cases t0 with
        | mk way key ds =>
          unfold TreeAt at hT0
          obtain ⟨dx, wl, cl, das, hxi, _⟩ := hT0
          exact ⟨dx, _, hxi⟩
      have hj3 : j < 3 := by
        have := (List.getElem?_eq_some_iff.mp hx).1
        omega
      refine ⟨rfl, _, rfl, x, dx, _, rfl, hxi, x, kx, t, rfl, hT, ?_⟩
      refine ⟨_, rfl, p, _, _, _, rfl, rfl, hp2, hat0, x0, dx0, _, rfl, hxi0, x0, kx, t0, rfl, hT0, ?_⟩
      refine ⟨kx, dk, _, _, rfl, hkx, .ins hkx, kx, md, leaf, M, ns, .ref kx, rfl, hK2, hV, .inl ⟨kx, md, leaf, M, ns, rfl, hK2, hV, _, rfl, ?_⟩⟩
      rw [hM, decide_eq_true rfl]
      refine ⟨_, rfl, ?_⟩
      show (if true = true then _ else _)
      rw [if_pos rfl]
      refine ⟨_, rfl, x, dx, _, rfl, hxi, x, kx, t, rfl, hT, ?_⟩
      refine ⟨_, rfl, p, _, _, _, rfl, rfl, hp2, hat0, x0, dx0, _, rfl, hxi0, x0, kx, t0, rfl, hT0, rfl, ?_⟩
      rw [hr1, hr0, decide_eq_true rfl]
      refine ⟨_, eD, ?_, ?_, fun b o e => by rw [upd_ne (ne_of_none e hD)]; exact sm b o e⟩
      · rw [List.length_map, List.length_replicate]
        exact Nat.lt_of_lt_of_le hj3 (by decide)
      · rw [upd_same, reps_snoc]
    · obtain ⟨eD, sm⟩ := h
      refine ⟨D, _, rfl, .inl (.inl eD), ?_⟩
      rw [reps_all]
      exact q _ fun b o e => sm _ _ (s1 _ _ e)
end
end Kl

set_option maxRecDepth 100000
/-! ### own rule: zip(t, l), t a tuple, l a list; a walk within a walk -/
namespace L2
open PySem PySem.Spec PyProof.Rows
set_option maxHeartbeats 4000000
theorem sep_zip {z TI TO i1 i2 a b : Addr} (D : ZipApart z TI TO i1 i2 a b) : ZipSep2 z TI TO i1 i2 [i1, a] [i2, b] := by
  refine ⟨D.TIz, D.TOz, D.TITO, D.TIi1, by simp, ?_, ?_, D.TIi2, by simp, ?_, ?_, ?_, ?_⟩
  · simp only [List.mem_cons, List.not_mem_nil, or_false, not_or]
    exact ⟨D.i1z.symm, D.l1z.symm⟩
  · simp only [List.mem_cons, List.not_mem_nil, or_false, not_or]
    exact ⟨D.TOi1, D.l1TO.symm⟩
  · simp only [List.mem_cons, List.not_mem_nil, or_false, not_or]
    exact ⟨D.i2z.symm, D.l2z.symm⟩
  · simp only [List.mem_cons, List.not_mem_nil, or_false, not_or]
    exact ⟨D.TOi2, D.l2TO.symm⟩
  · simp only [List.mem_cons, List.not_mem_nil, or_false, not_or]
    exact ⟨D.i12, D.l2i1.symm⟩
  · simp only [List.mem_cons, List.not_mem_nil, or_false, not_or]
    exact ⟨D.i12.symm, D.l1i2.symm⟩
/-- the tuple at a and the list at b, items side by side in new pairs -/
def ItzM (K : PySem.W.Frag) (a b : Addr) : It :=
  ⟨fun i H => ∃ (xs ys : List V) (x y : V), SqT K H a xs ∧ SqL K H b ys ∧ xs[i]? = some x ∧ ys[i]? = some y,
    fun i H v H' => ∃ T x y, v = .ref T ∧ H T = none ∧ H' = upd H T (.tup [x, y]) ∧ (∀ us, SqT K H a us → us[i]? = some x) ∧ ∀ us, SqL K H b us → us[i]? = some y,
    fun i H => ∃ xs ys : List V, SqT K H a xs ∧ SqL K H b ys ∧ i ≤ xs.length ∧ i ≤ ys.length ∧ (xs.length = i ∨ ys.length = i)⟩
theorem turn_zipM {P : Program} {w : World} {K : PySem.W.Frag} {elts : List Expr} {kk : Nat} {tpos : Pos} {a b z TI TO i1 i2 : Addr} (D : ZipApart z TI TO i1 i2 a b) :
    Turn P w K (.Tuple elts kk tpos) (ItzM K a b) [z, TI, TO, i1, i2] z (fun i h => IsZip h z TI TO .none ∧ IsTupOf2 h TI (.ref i1) (.ref i2) ∧ (∃ x y, IsTupOf2 h TO x y) ∧ h.IsTupleIter i1 a i ∧ h.IsListIter i2 b i) where
  mem := by simp
  obj := fun i h st c hc => by
    obtain ⟨hz, hTI, ⟨x, y, hTO⟩, ⟨o1, e1, _, d1⟩, ⟨o2, e2, _, d2⟩⟩ := st
    have e' : c = z ∨ c = TI ∨ c = TO ∨ c = i1 ∨ c = i2 := by simpa using hc
    rcases e' with q | q | q | q | q
    · rw [q]; exact ⟨_, hz, fun v q => nomatch q⟩
    · rw [q]; exact ⟨_, hTI, fun v q => nomatch q⟩
    · rw [q]; exact ⟨_, hTO, fun v q => nomatch q⟩
    · rw [q]; exact ⟨o1, e1, fun v q => by rw [d1] at q; cases q⟩
    · rw [q]; exact ⟨o2, e2, fun v q => by rw [d2] at q; cases q⟩
  keep := fun i h h' st k => by
    obtain ⟨hz, hTI, ⟨x, y, hTO⟩, h1, h2⟩ := st
    refine ⟨k z (by simp) _ hz, k TI (by simp) _ hTI, ⟨x, y, k TO (by simp) _ hTO⟩, h1.at fun o q => k i1 (by simp) o q, ?_⟩
    exact h2.at fun o q => k i2 (by simp) o q
  item := by
    intro X hP hw hK hc i pins s σ H E I hf st hg
    subst hP hw hK
    obtain ⟨hz, hTI, ⟨x0, y0, hTO⟩, h1, h2⟩ := st
    obtain ⟨xs, ys, x, y, hqx, hqy, hx, hy⟩ := hg
    obtain ⟨its, rv, p, _⟩ := I.tuple hqx
    obtain ⟨its2, rv2, p2, _⟩ := I.list hqy
    obtain ⟨u, hu, ru⟩ := rv.get hx
    obtain ⟨u2, hu2, ru2⟩ := rv2.get hy
    have hp : s.heap.IsTuple a its.toArray := p
    have hp2 : s.heap.IsList b its2.toArray := p2.isList
    have hzl : z < s.heap.objs.size := Heap.lt_size hz
    have lt1 : i < its.toArray.size := by
      have := (List.getElem?_eq_some_iff.mp hu).1
      simpa using this
    have lt2 : i < its2.toArray.size := by
      have := (List.getElem?_eq_some_iff.mp hu2).1
      simpa using this
    refine wpAny_pyNext_zipD2_item (sep_zip D) (Draws.tuple (A := X.A.in1) (I.ok.hd hc) i1 a D.l1i1 its.toArray) (Draws.list (A := X.A.in1) (I.ok.hd hc) i2 b D.l2i2 its2.toArray) hz hTI hTO ⟨h1, hp⟩ ⟨h2, hp2⟩ lt1 lt2 fun w1 w2 h' tk y1 y2 z' TO' st1 st2 hT hsz hk => ?_
    have ew1 : w1 = u := by
      have q : its.toArray[i]? = some u := by simpa using hu
      exact Option.some.inj (y1.symm.trans q)
    have ew2 : w2 = u2 := by
      have q : its2.toArray[i]? = some u2 := by simpa using hu2
      exact Option.some.inj (y2.symm.trans q)
    subst ew1 ew2
    refine ⟨_, rfl, wpAny_letOwnedTupleGo_zip (s := { s with heap := h', toks := tk }) z' fun h'' z'' sb => ?_⟩
    have hT2 : h''.get? s.heap.objs.size = some { cls := .type "tuple", data := .seq #[w1, w2] } := (sb.2 _ (Nat.ne_of_gt hzl)).trans hT
    have new : ObjOk X.prog X.w (upd H s.heap.objs.size (.tup [x, y])) h'' s.heap.objs.size (.tup [x, y]) :=
      ⟨by show 2 ≤ sizeLine; decide, [w1, w2], .cons ru (.cons ru2 .nil), ⟨_, hT2, rfl, _, rfl⟩⟩
    have I1 : Inv X pins σ (upd H s.heap.objs.size (.tup [x, y])) { s with heap := h'', toks := tk } := by
      refine I.turnedNew (ch := [z, TI, TO, i1, i2]) (fun c o hb q => ?_) hf (Nat.le_refl _) new
      have nb : c ≠ z ∧ c ≠ TI ∧ c ≠ TO ∧ c ≠ i1 ∧ c ≠ i2 := by simpa using hb
      exact (sb.2 c nb.1).trans (hk c o nb.1 nb.2.2.1 nb.2.2.2.1 nb.2.2.2.2 q)
    refine ⟨.ref s.heap.objs.size, _, I1, rfl, ⟨_, x, y, rfl, I.hok.fresh (Nat.le_refl _), rfl, fun l hl => ?_, fun l hl => ?_⟩, ⟨z'', ?_, ⟨w1, w2, ?_⟩, ?_, ?_⟩, fun c hcm => ?_⟩
    · rw [I.tuple_inj hl hqx]
      exact hx
    · rw [I.list_inj hl hqy]
      exact hy
    · exact (sb.2 _ D.TIz).trans (hk _ _ D.TIz D.TITO D.TIi1 D.TIi2 hTI)
    · exact (sb.2 _ D.TOz).trans TO'
    · exact st1.1.at fun o q => (sb.2 _ D.i1z).trans q
    · exact st2.1.at fun o q => (sb.2 _ D.i2z).trans q
    · have hlt : c < s.heap.objs.size := by
        have e' : c = z ∨ c = TI ∨ c = TO ∨ c = i1 ∨ c = i2 := by simpa using hcm
        rcases e' with rfl | rfl | rfl | rfl | rfl
        · exact hzl
        · exact Heap.lt_size hTI
        · exact Heap.lt_size hTO
        · obtain ⟨_, e1, _⟩ := h1
          exact Heap.lt_size e1
        · obtain ⟨_, e2, _⟩ := h2
          exact Heap.lt_size e2
      rw [upd_ne (Nat.ne_of_lt hlt)]
      exact (hf c hcm).1
  done := by
    intro X hP hw hK hc i pins s σ H E I hf st hg
    subst hP hw hK
    obtain ⟨hz, hTI, ⟨x0, y0, hTO⟩, h1, h2⟩ := st
    obtain ⟨xs, ys, hqx, hqy, b1, b2, hend⟩ := hg
    obtain ⟨its, rv, p, _⟩ := I.tuple hqx
    obtain ⟨its2, rv2, p2, _⟩ := I.list hqy
    have hp : s.heap.IsTuple a its.toArray := p
    have l1 := rv.length
    have l2 := rv2.length
    refine wpAny_pyNext_zipD2_end (sep_zip D) (Draws.tuple (A := X.A.in1) (I.ok.hd hc) i1 a D.l1i1 its.toArray) (Draws.list (A := X.A.in1) (I.ok.hd hc) i2 b D.l2i2 its2.toArray) hz hTI hTO ⟨h1, hp⟩ ⟨h2, p2.isList⟩ (by simp; omega) (by simp; omega) (by simp; omega) fun h' tk hk => ?_
    refine ⟨rfl, I.turnedL (t' := tk) (ch := [z, TI, TO, i1, i2]) (fun c o hb q => ?_) hf⟩
    have nb : c ≠ z ∧ c ≠ TI ∧ c ≠ TO ∧ c ≠ i1 ∧ c ≠ i2 := by simpa using hb
    exact hk c o nb.1 nb.2.2.1 nb.2.2.2.1 nb.2.2.2.2 q
  self := fun A i s Q E st h => wpAny_pyIter_zip st.1 h
def iZipM (K : PySem.W.Frag) (ta : TA) : TI := fun σ H R => ta σ H fun vs H1 => ∃ a b xs ys, vs = [.ref a, .ref b] ∧ SqT K H1 a xs ∧ SqL K H1 b ys ∧ R (ItzM K a b) H1
theorem pi_zipM {X : Cx} {e e2 : Expr} {ta : TA} {p pos tpos : Pos} {elts : List Expr} {kk : Nat} (hg : Gl X "zip") (hm : X.mg "zip" = none) (ha : PA X [e, e2] ta)
    (hs : starEach [e, e2] X.env = (false, eval e X.env) :: starEach [e2] X.env := by rfl) (hpl : (backTo pos (starEach [e2] X.env)).any (·.1) = false := by rfl) :
    PI X (.Tuple elts kk tpos) (.Call (.Name "zip" p) [e, e2] [] pos) (iZipM X.K ta) := by
  refine ⟨fun pins s σ H R I h => ?_⟩
  refine Call_ (ld_blt I hg hm PyProof.Rows.boot_zip (PyProof.Rows.callWith_type1 (thn (ha.run pos pins s σ H _ I h) fun us s1 ⟨vs, H1, I1, r1, q1⟩ => ?_) hs hpl))
  obtain ⟨a, b, xs, ys, ex, hqx, hqy, q⟩ := q1
  subst ex
  cases r1 with
  | cons r rr =>
    cases rr with
    | cons r' rr =>
      cases rr
      cases r
      cases r'
      obtain ⟨its, rv, p1, _⟩ := I1.tuple hqx
      obtain ⟨its2, rv2, p2, _⟩ := I1.list hqy
      have hp1 : s1.heap.IsTuple a its.toArray := p1
      have la : a < s1.heap.objs.size := by
        obtain ⟨_, e, _⟩ := hp1
        exact Heap.lt_size e
      refine zip_begins2 (begins_tuple a its.toArray) (begins_list b its2.toArray) hp1 p2.isList fun h' hz hTI hTO g1 g2 hsz hk => wpAny_pyIter_zip hz ?_
      have I2 : Inv X pins σ H1 { s1 with heap := h' } := I1.kept (t' := s1.toks) hk
      refine ⟨s1.heap.objs.size + 4, _, _, _, H1, rfl, I2, turn_zipM (PySem.W.ktu_apart s1.heap.objs.size a b la p2.lt), ⟨hz, hTI, ⟨_, _, hTO⟩, ⟨_, g1, rfl, rfl⟩, ⟨_, g2, rfl, rfl⟩⟩, fun c hcm => ?_, q⟩
      have hle : s1.heap.objs.size ≤ c := by
        simp only [List.mem_cons, List.not_mem_nil, or_false] at hcm
        rcases hcm with rfl | rfl | rfl | rfl | rfl
        all_goals first | exact Nat.le_refl _ | exact Nat.le_add_right _ _
      exact I1.fpOk hle (I1.hok.fresh hle)
theorem walk_zipM {K : PySem.W.Frag} {a b : Addr} {xs ys : List V} {n : Nat} (hn : n = min xs.length ys.length) : Walk (ItzM K a b) n (fun H => SqT K H a xs ∧ SqL K H b ys) (YPair (fun i => xs[i]?) (fun i => ys[i]?)) := by
  subst hn
  refine ⟨fun i _ hi q => ?_, fun _ q => ⟨xs, ys, q.1, q.2, Nat.min_le_left _ _, Nat.min_le_right _ _, ?_⟩, fun i H v H' _ q y => ?_⟩
  · have g1 : i < xs.length := by omega
    have g2 : i < ys.length := by omega
    exact ⟨xs, ys, xs[i], ys[i], q.1, q.2, List.getElem?_eq_getElem g1, List.getElem?_eq_getElem g2⟩
  · omega
  · obtain ⟨T, u, z, e1, e2, e3, e4, e5⟩ := y
    exact ⟨T, u, z, e1, e2, e3, e4 _ q.1, e5 _ q.2⟩
/-- the outer walk of a comprehension with two `for`s -/
theorem lc2_it {J : It} {n : Nat} {G : Hp → Prop} {Y : Nat → Hp → V → Hp → Prop} (w : Walk J n G Y) {g : TG} {tt : TT} {R : L2.St → Hp → (Hp → Prop) → Prop} {vs : List Nat} {σ : L2.St} {H1 : Hp} {D : Addr} {Qd : Hp → Prop} (Pv : Nat → Hp → Prop) (h0 : Pv 0 (upd H1 D (.lst []))) (hG : ∀ i H, i ≤ n → Pv i H → G H)
    (hs : ∀ i x H H', i < n → Pv i H → Y i H x H' → g x (wipe σ vs) H' fun σ2 H2 => wipe σ2 vs = wipe σ vs ∧ tt σ2 H2 fun b H3 => if b = true then R σ2 H3 (Pv (i + 1)) else Pv (i + 1) H3) (hd : ∀ H, Pv n H → Qd H) :
    ∃ W : Nat → Nat → Hp → Prop, (∃ m, W 0 m (upd H1 D (.lst []))) ∧ ∀ i m H, W i m H →
      (J.stop i H ∧ Qd H) ∨ (J.go i H ∧ ∃ Nx : Hp → Prop, (∀ H', Nx H' → ∃ m', m' < m ∧ W (i + 1) m' H') ∧ ∀ x H', J.yld i H x H' → g x (wipe σ vs) H' fun σ2 H2 => wipe σ2 vs = wipe σ vs ∧ tt σ2 H2 fun b H3 => if b = true then R σ2 H3 Nx else Nx H3) := by
  refine ⟨fun i m H => m = n - i ∧ i ≤ n ∧ Pv i H, ⟨n, rfl, Nat.zero_le _, h0⟩, ?_⟩
  rintro i m H ⟨em, hi, hp⟩
  subst em
  have gH := hG i H hi hp
  rcases Nat.lt_or_ge i n with c | c
  · exact .inr ⟨w.goes i H c gH, Pv (i + 1), fun H' p' => ⟨n - (i + 1), Nat.sub_lt_sub_left c (Nat.lt_succ_self i), rfl, c, p'⟩, fun x H' y => hs i x H H' c hp (w.yields i H x H' c gH y)⟩
  · have e : i = n := Nat.le_antisymm hi c
    subst e
    exact .inl ⟨w.stops H gH, hd H hp⟩
/-- the inner one -/
theorem in_it {J : It} {n : Nat} {G : Hp → Prop} {Y : Nat → Hp → V → Hp → Prop} (w : Walk J n G Y) {g : TG} {R : L2.St → Hp → (Hp → Prop) → Prop} {vs : List Nat} {σ : L2.St} {H1 : Hp} {Qd : Hp → Prop} (Pv : Nat → Hp → Prop) (h0 : Pv 0 H1) (hG : ∀ i H, i ≤ n → Pv i H → G H)
    (hs : ∀ i x H H', i < n → Pv i H → Y i H x H' → g x (wipe σ vs) H' fun σ2 H2 => wipe σ2 vs = wipe σ vs ∧ R σ2 H2 (Pv (i + 1))) (hd : ∀ H, Pv n H → Qd H) :
    ∃ W : Nat → Nat → Hp → Prop, (∃ m, W 0 m H1) ∧ ∀ i m H, W i m H →
      (J.stop i H ∧ Qd H) ∨ (J.go i H ∧ ∃ Nx : Hp → Prop, (∀ H', Nx H' → ∃ m', m' < m ∧ W (i + 1) m' H') ∧ ∀ x H', J.yld i H x H' → g x (wipe σ vs) H' fun σ2 H2 => wipe σ2 vs = wipe σ vs ∧ R σ2 H2 Nx) := by
  refine ⟨fun i m H => m = n - i ∧ i ≤ n ∧ Pv i H, ⟨n, rfl, Nat.zero_le _, h0⟩, ?_⟩
  rintro i m H ⟨em, hi, hp⟩
  subst em
  have gH := hG i H hi hp
  rcases Nat.lt_or_ge i n with c | c
  · exact .inr ⟨w.goes i H c gH, Pv (i + 1), fun H' p' => ⟨n - (i + 1), Nat.sub_lt_sub_left c (Nat.lt_succ_self i), rfl, c, p'⟩, fun x H' y => hs i x H H' c hp (w.yields i H x H' c gH y)⟩
  · have e : i = n := Nat.le_antisymm hi c
    subst e
    exact .inl ⟨w.stops H gH, hd H hp⟩
end L2

set_option maxRecDepth 100000
set_option maxHeartbeats 4000000
namespace Kl
open PySem PySem.Spec PyProof.Rows L2 Gx Mx
def Dgs.list : Dgs → List Trs
  | .nil => []
  | .cons d r => d :: r.list
theorem DgsAt.get {K : PySem.W.Frag} {C kx : Addr} {H : Hp} : ∀ {ds : Dgs} {as : List Addr} {j : Nat} {a : Addr}, DgsAt K C kx H ds as → as[j]? = some a → ∃ (d : Trs) (xs : List Addr), ds.list[j]? = some d ∧ SqT K H a (xs.map V.ref) ∧ TrsAt K C kx H d xs
  | .nil, as, j, a, h, e => by
    unfold DgsAt at h
    subst h
    cases e
  | .cons d r, as, 0, a, h, e => by
    unfold DgsAt at h
    obtain ⟨b, bs, xs, rfl, h1, h2, _⟩ := h
    cases e
    exact ⟨d, xs, rfl, h1, h2⟩
  | .cons d r, as, j + 1, a, h, e => by
    unfold DgsAt at h
    obtain ⟨b, bs, xs, rfl, _, _, h3⟩ := h
    exact DgsAt.get (ds := r) h3 e
theorem Dgs.len_list : ∀ ds : Dgs, ds.len = ds.list.length
  | .nil => rfl
  | .cons d r => by
    show r.len + 1 = r.list.length + 1
    rw [Dgs.len_list r]
theorem Tr.size_pos : ∀ t : Tr, 1 ≤ t.size
  | .mk w k ds => by
    rw [Tr.size]
    omega
/-- the sizes of some trees -/
def szL (d : Trs) : List Int := d.list.map fun t => ((t.size : Nat) : Int)
def szD (ds : Dgs) : List (List Int) := ds.list.map szL
theorem szL_sum : ∀ d : Trs, (szL d).sum = ((d.size : Nat) : Int)
  | .nil => by
    rw [Trs.size]
    rfl
  | .cons t r => by
    have ih := szL_sum r
    rw [Trs.size]
    show ((t.size : Nat) : Int) + (szL r).sum = _
    rw [ih]
    omega
theorem szD_sum : ∀ ds : Dgs, (szD ds).flatten.sum = ((ds.size : Nat) : Int)
  | .nil => by
    rw [Dgs.size]
    rfl
  | .cons d r => by
    have ih := szD_sum r
    rw [Dgs.size]
    show (szL d ++ (szD r).flatten).sum = _
    rw [List.sum_append, szL_sum, ih]
    omega
theorem szL_len : ∀ d : Trs, (szL d).length ≤ d.size
  | .nil => Nat.zero_le _
  | .cons t r => by
    have ih := szL_len r
    have := Tr.size_pos t
    rw [Trs.size]
    show (szL r).length + 1 ≤ _
    omega
theorem szD_len : ∀ ds : Dgs, (szD ds).flatten.length ≤ ds.size
  | .nil => Nat.zero_le _
  | .cons d r => by
    have ih := szD_len r
    have := szL_len d
    rw [Dgs.size]
    show (szL d ++ (szD r).flatten).length ≤ _
    rw [List.length_append]
    omega
theorem pre_len : ∀ (L : List (List Int)) (i : Nat) (d : List Int), L[i]? = some d → (L.take i).flatten.length + d.length ≤ L.flatten.length
  | [], i, d, h => by cases h
  | a :: L, 0, d, h => by
    cases h
    show 0 + a.length ≤ (a ++ L.flatten).length
    rw [List.length_append]
    omega
  | a :: L, i + 1, d, h => by
    have ih := pre_len L i d h
    show (a ++ (L.take i).flatten).length + d.length ≤ (a ++ L.flatten).length
    rw [List.length_append, List.length_append]
    omega
theorem take_snoc' {α : Type} {l : List α} {i : Nat} {x : α} (h : l[i]? = some x) : l.take (i + 1) = l.take i ++ [x] := by
  rw [List.take_add_one, h]
  rfl
theorem put_way (a b c d e v : V) : putF ("_way" : Str) v [("_kinds", a), ("_key", b), ("_way", c), ("_children", d), ("_size", e)] = ([("_kinds", a), ("_key", b), ("_way", v), ("_children", d), ("_size", e)] : List (Str × V)) := by
  obtain ⟨h1, h2, h3, h4, h5, h6, h7, h8, h9, h10⟩ := tn_ne
  simp only [putF]
  rw [if_neg h2, if_neg h5, if_pos trivial]
theorem put_children (a b c d e v : V) : putF ("_children" : Str) v [("_kinds", a), ("_key", b), ("_way", c), ("_children", d), ("_size", e)] = ([("_kinds", a), ("_key", b), ("_way", c), ("_children", v), ("_size", e)] : List (Str × V)) := by
  obtain ⟨h1, h2, h3, h4, h5, h6, h7, h8, h9, h10⟩ := tn_ne
  simp only [putF]
  rw [if_neg h3, if_neg h6, if_neg h8, if_pos trivial]
theorem put_size (a b c d e v : V) : putF ("_size" : Str) v [("_kinds", a), ("_key", b), ("_way", c), ("_children", d), ("_size", e)] = ([("_kinds", a), ("_key", b), ("_way", c), ("_children", d), ("_size", v)] : List (Str × V)) := by
  obtain ⟨h1, h2, h3, h4, h5, h6, h7, h8, h9, h10⟩ := tn_ne
  simp only [putF]
  rw [if_neg h4, if_neg h7, if_neg h9, if_neg h10, if_pos trivial]
section
variable {P : Program} {w : World} {K : PySem.W.Frag} {mg : Str → Option Value} {base : Heap}
/-! ### _tree_of -/
abbrev NTO : List Str := ["kinds", "key", "way", "children", "tree", "digit", "child"]
def spTO (K : PySem.W.Frag) (C Ck : Addr) : Sp := fun vs H Q _ => ∃ (kx md wl cl : Addr) (leaf : Str) (M : Mak) (ns : List Str) (key : Int) (way : List Str) (das : List Addr) (ds : Dgs), vs = [V.ref kx, .int key, .ref wl, .ref cl] ∧ KindsAt Ck H kx md leaf M ns ∧ intV (.int key) = true ∧ SqT K H wl (way.map V.str) ∧ SqT K H cl (das.map V.ref) ∧ DgsAt K C kx H ds das ∧ ds.size ≤ 10000 ∧
  ∀ x H', Same H H' → TreeAt K C kx H' (.mk way key ds) x → Q (.ref x) H'
theorem ok_to {C Ck f : Addr} {fd : FuncData} (F : Fun K "_tree_of" "_tree_of" s_tree_of f fd) (T : Top K mg) (TC : Cl_Tree K mg C) (TK : Cl_Kinds K mg Ck) : FnOk P w K mg base CX0 5 f fd ["kinds", "key", "way", "children"] (spTO K C Ck) := by
  have kI : CalI P w K mg base C 3 ["self", "kinds", "key"] (spTInit K C Ck) := by
    obtain ⟨f, fd, m, F, b⟩ := TC.made
    exact ⟨f, fd, m, ok_tinit F T TC TK, b⟩
  have kSiz : CalP P w K mg base C "size" 3 (spTSize K C) := (TC.p_size.cal fun f fd F => ok_tsize F TC).mono (by decide)
  refine F.ok sc_tree_of (fun vs H Q E h => ?_) (fun cdv A outer s H vs Q E hr h => ?_)
  · obtain ⟨kx, md, wl, cl, leaf, M, ns, key, way, das, ds, rfl, _⟩ := h
    rfl
  · obtain ⟨kx, md, wl, cl, leaf, M, ns, key, way, das, ds, rfl, hK, hk, hw, hc, hds, hsz, q⟩ := h
    refine ⟨_, pss_cut (ps_set (i := 4) sc_tree_of.nd rfl (.inl rfl) (pe_makeC kI hr (by rfl) TC.gC (pa_cons (pv 0) (pa_cons (pv 1) pa_nil))))
      (pss_cut (ps_fld (pv 4) (pv 2) rfl)
      (pss_cut (ps_fld (pv 4) (pv 3) rfl)
      (pss_cut (ps_fld (pv 4) (pe_op op_add pe_int (pe_callB (cr_sum rfl) (by rfl) T.b_sum (by decide +kernel) (pa_cons (pe_lc2 (own := [("digit", 5), ("child", 6)]) (vs1 := [6]) (g := gName 5) (g1 := gName 6) (tt := tYes) (tt1 := tYes) rfl sc_tree_of.nd
          (pi_tup (pv 3)) (blkOk_by (N := NTO) (sc := defScope s_tree_of) (by decide +kernel)) (by decide)
          (fun _ _ _ _ _ => pg_name (i := 5) sc_tree_of.nd rfl (.inl rfl)) (fun _ _ _ _ _ => pts_nil) (fun _ _ _ _ _ => pi_tupK (K := K) (by exact rfl) (pv 5)) (fun _ _ _ _ _ => pg_name (i := 6) sc_tree_of.nd rfl (.inl rfl)) (fun _ _ _ _ _ => pts_nil)
          (fun _ _ _ _ _ => pe_propC (pv 6) TC.cl kSiz hr rfl)) pa_nil))) rfl)
      (pss_one (ps_ret (pv 4)))))), ?_⟩
    have big : 100000 ≤ sizeLine := by decide
    -- made
    refine ⟨fun σ' G => ∃ (x dx w0 c0 : Addr), σ' = [some (.ref kx), some (.int key), some (.ref wl), some (.ref cl), some (.ref x), none, none] ∧ G x = some (.ins C dx (tf kx key w0 c0 1)) ∧ H x = none ∧ Same H G, ?_, ?_⟩
    · refine ⟨_, rfl, _, rfl, fun x dx nx ndx nxx => ?_⟩
      have sN : Same H (upd (upd H dx (.own x)) x (.ins C dx [])) := fun b o e => by
        rw [upd_ne (ne_of_none e nx), upd_ne (ne_of_none e ndx)]
        exact e
      refine ⟨x, dx, kx, md, leaf, M, ns, key, rfl, upd_same, hK.same sN, hk, fun H' ht keep => ⟨rfl, ?_⟩⟩
      unfold TreeAt at ht
      obtain ⟨dx', w0, c0, das0, e, _⟩ := ht
      rw [Dgs.size] at e
      exact ⟨x, dx', w0, c0, rfl, e, nx, fun b o e => keep b o (ne_of_none e nx) (sN _ _ e)⟩
    rintro σ' G ⟨x, dx, w0, c0, rfl, hx, nx, s1⟩
    have upx : ∀ {G' : Hp} {o : HO}, Same H G' → Same H (upd G' x o) := fun {G' o} s b u e => by
      rw [upd_ne (ne_of_none e nx)]
      exact s _ _ e
    -- its way
    refine ⟨fun σ' G => σ' = [some (.ref kx), some (.int key), some (.ref wl), some (.ref cl), some (.ref x), none, none] ∧ G x = some (.ins C dx (tf kx key wl c0 1)) ∧ Same H G, ?_, ?_⟩
    · refine ⟨_, rfl, _, rfl, x, C, dx, _, rfl, hx, TC.cl, TC.n_way, by show 5 < 1000; decide, ?_⟩
      rw [put_way]
      exact ⟨rfl, upd_same, upx s1⟩
    clear hx s1
    rintro σ' G ⟨rfl, hx, s1⟩
    -- its children
    refine ⟨fun σ' G => σ' = [some (.ref kx), some (.int key), some (.ref wl), some (.ref cl), some (.ref x), none, none] ∧ G x = some (.ins C dx (tf kx key wl cl 1)) ∧ Same H G, ?_, ?_⟩
    · refine ⟨_, rfl, _, rfl, x, C, dx, _, rfl, hx, TC.cl, TC.n_children, by show 5 < 1000; decide, ?_⟩
      rw [put_children]
      exact ⟨rfl, upd_same, upx s1⟩
    clear hx s1
    rintro σ' G ⟨rfl, hx, s1⟩
    have hcG := sqT_st s1 hc
    have hdG : DgsAt K C kx G ds das := DgsAt.mono (fun _ _ q => sqT_st s1 q) (fun _ _ _ _ e => s1 _ _ e) ds das hds
    -- its size
    refine ⟨fun σ' G => σ' = [some (.ref kx), some (.int key), some (.ref wl), some (.ref cl), some (.ref x), none, none] ∧ G x = some (.ins C dx (tf kx key wl cl (1 + ds.size))) ∧ Same H G, ?_, ?_⟩
    · refine ⟨_, rfl, cl, rfl, ⟨_, hcG⟩, fun D hD => ?_⟩
      have flen : ∀ (j : Nat) (d : Trs) (k : Nat), ds.list[j]? = some d → ((((szD ds).take j).flatten ++ (szL d).take k)).length ≤ 10000 := fun j d k h => by
        have h1 : (szD ds)[j]? = some (szL d) := by
          unfold szD
          rw [List.getElem?_map, h]
          rfl
        have h2 := pre_len (szD ds) j _ h1
        have h3 := szD_len ds
        rw [List.length_append, List.length_take]
        omega
      refine lc2_it (g := gName 5) (tt := tYes) (vs := [5, 6]) (walk_tup (K := K) (a := cl) (xs := das.map V.ref)) (fun j G' => G' D = some (.lst ((((szD ds).take j).flatten).map V.int)) ∧ Same G G')
        ⟨upd_same, same_new (Same.refl G) hD⟩ (fun j G' _ h => sqT_st h.2 hcG) (fun j u Gx G' hj hP hy => ?_) (fun G' hP => ?_)
      · obtain ⟨eD, sm⟩ := hP
        obtain ⟨rfl, hu⟩ := hy
        obtain ⟨da, hda, rfl⟩ := refs_at' hu
        obtain ⟨d, xs, hdl, hxs, htr⟩ := DgsAt.get hdG hda
        have hzj : (szD ds)[j]? = some (szL d) := by
          unfold szD
          rw [List.getElem?_map, hdl]
          rfl
        refine ⟨rfl, ?_⟩
        refine ⟨_, rfl, da, rfl, ⟨_, sqT_st sm hxs⟩, ?_⟩
        refine in_it (g := gName 6) (vs := [6]) (walk_tup (K := K) (a := da) (xs := xs.map V.ref)) (fun k G'' => G'' D = some (.lst ((((szD ds).take j).flatten ++ (szL d).take k).map V.int)) ∧ Same G G'')
          ⟨by rw [List.take_zero, List.append_nil]; exact eD, sm⟩ (fun k G'' _ h => sqT_st h.2 hxs) (fun k u Gy G'' hk hP hy => ?_) (fun G'' hP => ?_)
        · obtain ⟨eD3, s3⟩ := hP
          obtain ⟨rfl, hu2⟩ := hy
          obtain ⟨tx, htx, rfl⟩ := refs_at' hu2
          have htr2 : TrsAt K C kx G'' d xs := TrsAt.mono (fun _ _ q => sqT_st s3 q) (fun _ _ _ _ e => s3 _ _ e) d xs htr
          obtain ⟨t, htl, hT⟩ := TrsAt.get htr2 htx
          have hzk : (szL d)[k]? = some ((t.size : Nat) : Int) := by
            unfold szL
            rw [List.getElem?_map, htl]
            rfl
          obtain ⟨dx1, fs1, hx1⟩ : ∃ dx fs, G'' tx = some (.ins C dx fs) := by
            cases t with
            | mk way key ds =>
              unfold TreeAt at hT
              obtain ⟨dx, wl, cl, das, hxi, _⟩ := hT
              exact ⟨dx, _, hxi⟩
          refine ⟨rfl, ?_⟩
          refine ⟨_, rfl, tx, dx1, fs1, rfl, hx1, tx, kx, t, rfl, hT, ?_⟩
          refine ⟨_, eD3, ?_, ?_, fun b o e => by rw [upd_ne (ne_of_none e hD)]; exact s3 b o e⟩
          · have := flen j d k hdl
            rw [List.length_map]
            exact Nat.lt_of_le_of_lt this (by decide)
          · rw [upd_same, take_snoc' hzk]
            simp only [List.map_append, List.map_cons, List.map_nil, List.append_assoc]
        · obtain ⟨eD3, s3⟩ := hP
          have lx : (xs.map V.ref).length = (szL d).length := by
            rw [List.length_map, TrsAt.len d xs htr]
            unfold szL
            rw [List.length_map]
          rw [lx, List.take_length] at eD3
          refine ⟨?_, s3⟩
          rw [eD3, take_snoc' hzj, List.flatten_append, List.flatten_singleton]
      · obtain ⟨eD, sm⟩ := hP
        have ln : (das.map V.ref).length = (szD ds).length := by
          rw [List.length_map, DgsAt.len ds das hds, Dgs.len_list]
          unfold szD
          rw [List.length_map]
        rw [ln, List.take_length] at eD
        refine ⟨D, _, rfl, .inl (.inl eD), _, _, rfl, rfl, ?_⟩
        refine ⟨_, rfl, x, C, dx, _, rfl, sm _ _ hx, TC.cl, TC.n_size, by show 5 < 1000; decide, ?_⟩
        rw [put_size, szD_sum]
        refine ⟨rfl, ?_, upx fun b o e => sm _ _ (s1 _ _ e)⟩
        rw [upd_same]
        show some (HO.ins C dx [("_kinds", V.ref kx), ("_key", V.int key), ("_way", V.ref wl), ("_children", V.ref cl), ("_size", V.int (1 + ((ds.size : Nat) : Int)))]) = _
        rw [show (1 : Int) + ((ds.size : Nat) : Int) = ((1 + ds.size : Nat) : Int) by omega]
    rintro σ' G' ⟨rfl, hx', s2⟩
    refine ⟨_, rfl, q x _ s2 ?_⟩
    unfold TreeAt
    exact ⟨dx, wl, cl, das, hx', sqT_st s2 hw, sqT_st s2 hc, DgsAt.mono (fun _ _ q => sqT_st s2 q) (fun _ _ _ _ e => s2 _ _ e) ds das hds⟩
end
end Kl

set_option maxRecDepth 100000
set_option maxHeartbeats 4000000
/-! ### own rules: t[a:b], t + u of tuples, whichever objects they are -/
namespace Kl
open PySem PySem.Spec PyProof.Rows L2 Gx Mx
def rSlS (K : PySem.W.Frag) : V → Option Int → Option Int → Hp → VK → Prop := fun x lo hi H Q => ∃ a xs, x = .ref a ∧ SqT K H a xs ∧ ∀ p G, Same H G → SqT K G p (cutV xs lo hi) → Q (.ref p) G
theorem cut_whole {xs : List V} {lo hi : Option Int} (h : HT.sIx xs.length 0 lo = 0 ∧ HT.sIx xs.length xs.length hi = xs.length) : cutV xs lo hi = xs := by
  unfold cutV
  rw [h.1, h.2, List.drop_zero, Nat.sub_zero, List.take_length]
theorem sl_tupS {X : Cx} : SlR X (rSlS X.K) := by
  intro pins s σ H x v vl vu lo hi sl Q I rx hs pl pu h
  obtain ⟨a, xs, rfl, ea, q⟩ := h
  exact sl_tupA pins s σ H _ v vl vu lo hi sl Q I rx hs pl pu ⟨a, xs, rfl, ea, fun hw => q a H (Same.refl H) (by rw [cut_whole hw]; exact ea), fun _ p np => q p _ (same_new (Same.refl H) np) (.inl (.inl upd_same))⟩
def rCatS (K : PySem.W.Frag) : R2 := fun x y H Q => ∃ a b xs ys, x = .ref a ∧ y = .ref b ∧ SqT K H a xs ∧ SqT K H b ys ∧ xs.length + ys.length ≤ sizeLine ∧ ∀ p G, Same H G → SqT K G p (xs ++ ys) → Q (.ref p) G
theorem op_catS {X : Cx} : OpR X (binaryOp .Add) (rCatS X.K) := by
  intro pins s σ H x y v u Q I rx ry h
  obtain ⟨a, b, xs, ys, rfl, rfl, ha, hb, hz, q⟩ := h
  refine op_catA pins s σ H _ _ v u Q I rx ry ⟨a, b, xs, ys, rfl, rfl, ha, hb, hz, fun e => q b H (Same.refl H) (by rw [e]; exact hb), fun _ e => q a H (Same.refl H) (by rw [e, List.append_nil]; exact ha), fun _ _ p np => q p _ (same_new (Same.refl H) np) (.inl (.inl upd_same))⟩
end Kl

set_option maxRecDepth 100000
set_option maxHeartbeats 4000000
namespace Kl
open PySem PySem.Spec PyProof.Rows L2 Gx Mx
/-! ### linked trees -/
def Trs.cut : Trs → Nat → Trs
  | .nil, _ => .nil
  | .cons _ r, 0 => r
  | .cons t r, n + 1 => .cons t (r.cut n)
def Dgs.snoc : Dgs → Trs → Dgs
  | .nil, d => .cons d .nil
  | .cons e r, d => .cons e (r.snoc d)
theorem TrsAt.cut {K : PySem.W.Frag} {C kx : Addr} {H : Hp} : ∀ (ts : Trs) (xs : List Addr) (j : Nat), TrsAt K C kx H ts xs → TrsAt K C kx H (ts.cut j) (xs.take j ++ xs.drop (j + 1))
  | .nil, xs, j, h => by
    unfold TrsAt at h
    subst h
    show TrsAt K C kx H .nil _
    unfold TrsAt
    simp
  | .cons t r, xs, 0, h => by
    unfold TrsAt at h
    obtain ⟨x, ys, rfl, _, h2⟩ := h
    exact h2
  | .cons t r, xs, j + 1, h => by
    unfold TrsAt at h
    obtain ⟨x, ys, rfl, h1, h2⟩ := h
    show TrsAt K C kx H (.cons t (r.cut j)) (x :: (ys.take j ++ ys.drop (j + 1)))
    unfold TrsAt
    exact ⟨x, _, rfl, h1, TrsAt.cut r ys j h2⟩
theorem DgsAt.snoc {K : PySem.W.Frag} {C kx : Addr} {H : Hp} {d : Trs} {a : Addr} {xs : List Addr} (ha : SqT K H a (xs.map V.ref)) (hd : TrsAt K C kx H d xs) : ∀ (ds : Dgs) (as : List Addr), DgsAt K C kx H ds as → DgsAt K C kx H (ds.snoc d) (as ++ [a])
  | .nil, as, h => by
    unfold DgsAt at h
    subst h
    show DgsAt K C kx H (.cons d .nil) [a]
    unfold DgsAt
    refine ⟨a, [], xs, rfl, ha, hd, ?_⟩
    unfold DgsAt
    rfl
  | .cons e r, as, h => by
    unfold DgsAt at h
    obtain ⟨b, bs, ys, rfl, h1, h2, h3⟩ := h
    show DgsAt K C kx H (.cons e (r.snoc d)) (b :: (bs ++ [a]))
    unfold DgsAt
    exact ⟨b, _, ys, rfl, h1, h2, DgsAt.snoc ha hd r bs h3⟩
theorem Dgs.snoc_size (d : Trs) : ∀ ds : Dgs, (ds.snoc d).size = ds.size + d.size
  | .nil => by
    show (Dgs.cons d .nil).size = _
    simp only [Dgs.size]
    omega
  | .cons e r => by
    show (Dgs.cons e (r.snoc d)).size = _
    rw [Dgs.size, Dgs.snoc_size d r, Dgs.size]
    omega
theorem cut_size : ∀ {ts : Trs} {j : Nat} {t : Tr}, ts.list[j]? = some t → (ts.cut j).size + t.size = ts.size
  | .nil, j, t, h => by cases h
  | .cons a r, 0, t, h => by
    cases h
    show r.size + a.size = _
    rw [Trs.size]
    omega
  | .cons a r, j + 1, t, h => by
    have ih := cut_size (ts := r) (j := j) (t := t) h
    show (Trs.cons a (r.cut j)).size + t.size = _
    rw [Trs.size, Trs.size]
    omega
/-- the tree linked of some, the one at j won -/
def linkT (name : Str) (ts : Trs) (j : Nat) (t : Tr) : Tr := .mk (t.way ++ [name]) t.key (t.kids.snoc (ts.cut j))
theorem link_size {name : Str} {ts : Trs} {j : Nat} {t : Tr} (h : ts.list[j]? = some t) : (linkT name ts j t).size = ts.size := by
  have h1 := cut_size h
  unfold linkT
  rw [Tr.size, Dgs.snoc_size]
  cases t with
  | mk w k ds =>
    rw [Tr.size] at h1
    show 1 + (ds.size + _) = _
    omega
/-- the first of the least keys -/
def IsWin (ts : Trs) (j : Nat) (t : Tr) : Prop := ts.list[j]? = some t ∧ (∀ u ∈ ts.list, t.key ≤ u.key) ∧ ∀ (m : Nat) (u : Tr), m < j → ts.list[m]? = some u → t.key < u.key
theorem cutV_refs (xs : List Addr) (j : Nat) : cutV (xs.map V.ref) none (some ((j : Nat) : Int)) = (xs.take j).map V.ref := by
  unfold cutV
  rw [HT.sIx_nat, HT.sIx_none, List.drop_zero, Nat.sub_zero, List.length_map, List.map_take]
  by_cases h : j ≤ xs.length
  · rw [Nat.min_eq_left h]
  · rw [Nat.min_eq_right (by omega), List.take_of_length_le (by rw [List.length_map]; exact Nat.le_refl _), List.take_of_length_le (by rw [List.length_map]; omega)]
theorem cutV_refs2 (xs : List Addr) (j : Nat) : cutV (xs.map V.ref) (some ((j : Nat) : Int)) none = (xs.drop j).map V.ref := by
  unfold cutV
  rw [HT.sIx_nat, HT.sIx_none, List.length_map, List.map_drop]
  by_cases h : j ≤ xs.length
  · rw [Nat.min_eq_left h, List.take_of_length_le (by rw [List.length_drop, List.length_map]; exact Nat.le_refl _)]
  · rw [Nat.min_eq_right (by omega), Nat.sub_self, List.take_zero, List.drop_of_length_le (by rw [List.length_map]; omega)]
theorem first_at {m : Int} : ∀ {l : List Int}, m ∈ l → ∃ j, l[j]? = some m ∧ ∀ (i : Nat) (y : Int), i < j → l[i]? = some y → y ≠ m
  | a :: l, h => by
    by_cases e : a = m
    · exact ⟨0, by rw [e]; rfl, fun i y hi => absurd hi (Nat.not_lt_zero _)⟩
    · obtain ⟨j, h1, h2⟩ := first_at ((List.mem_cons.mp h).resolve_left fun q => e q.symm)
      refine ⟨j + 1, h1, fun i y hi hy => ?_⟩
      cases i with
      | zero => cases hy; exact e
      | succ i => exact h2 i y (Nat.lt_of_succ_lt_succ hi) hy
theorem flat_ints (l : List Int) : (l.map V.int).all flatV = true := by
  rw [List.all_eq_true]
  intro v hv
  obtain ⟨i, _, rfl⟩ := List.mem_map.mp hv
  rfl
section
variable {P : Program} {w : World} {K : PySem.W.Frag} {mg : Str → Option Value} {base : Heap}
/-! ### Tree.linked -/
abbrev NLN : List Str := ["cls", "name", "trees", "kinds", "keys", "at", "winner", "losers", "tree"]
def spLink (K : PySem.W.Frag) (C Ck : Addr) : Sp := fun vs H Q _ => ∃ (p kx md : Addr) (name : Str) (xs : List Addr) (ts : Trs) (n : Nat) (leaf : Str) (M : Mak) (ns ps : List Str), vs = [V.ref C, .str name, .ref p] ∧ SqT K H p (xs.map V.ref) ∧ TrsAt K C kx H ts xs ∧ 2 ≤ xs.length ∧ xs.length ≤ 3 ∧ n ≤ 1000 ∧ (∀ t ∈ ts.list, t.rank = n ∧ t.way ≠ [] ∧ intV (.int t.key) = true ∧ t.way.length ≤ 1000) ∧
  KindsAt Ck H kx md leaf M ns ∧ Vld leaf M ∧ eqB M M = true ∧ name ∈ ns ∧ lookM M name = some ps ∧ sortedS ps = true ∧ (ts.list.map Tr.kind).Perm ps ∧ ts.size ≤ 5000 ∧
  ∀ x H' j t, Same H H' → IsWin ts j t → TreeAt K C kx H' (linkT name ts j t) x → Q (.ref x) H'
theorem ok_link {C Ck f : Addr} {fd : FuncData} (F : Fun K "linked" "Tree.linked" s_Tree_linked f fd) (T : Top K mg) (TC : Cl_Tree K mg C) (TK : Cl_Kinds K mg Ck) : FnOk P w K mg base CX0 6 f fd ["cls", "name", "trees"] (spLink K C Ck) := by
  obtain ⟨tm, gm⟩ := T.g_MAX_NODES
  have cf : Cal P w K mg base 5 "_are_fit" ["trees"] (spFit K C Ck) := (T.d_are_fit.cal fun f fd F => ok_fit F T TC TK).mono (by decide)
  have co : Cal P w K mg base 5 "_tree_of" ["kinds", "key", "way", "children"] (spTO K C Ck) := T.d_tree_of.cal fun f fd F => ok_to F T TC TK
  have kKin : CalP P w K mg base C "kinds" 4 (spTKinds K C) := (TC.p_kinds.cal fun f fd F => ok_tkinds F TC).mono (by decide)
  have kKnd : CalP P w K mg base C "kind" 4 (spTKind K C) := (TC.p_kind.cal fun f fd F => ok_tkind F TC).mono (by decide)
  have kSiz : CalP P w K mg base C "size" 4 (spTSize K C) := (TC.p_size.cal fun f fd F => ok_tsize F TC).mono (by decide)
  have kKey : CalP P w K mg base C "key" 4 (spTKey K C) := (TC.p_key.cal fun f fd F => ok_tkey F TC).mono (by decide)
  have kWay : CalP P w K mg base C "way" 4 (spTWay K C) := (TC.p_way.cal fun f fd F => ok_tway F TC).mono (by decide)
  have kKid : CalP P w K mg base C "children" 4 (spTKids K C) := (TC.p_children.cal fun f fd F => ok_tkids F TC).mono (by decide)
  have kGet : CalM P w K mg base Ck "__getitem__" 4 ["self", "name"] (spKGet Ck) := (TK.m_getitem.cal fun f fd F => ok_kget F T TK).mono (by decide)
  refine F.ok sc_Tree_linked (fun vs H Q E h => ?_) (fun cdv A outer s H vs Q E hr h => ?_)
  · obtain ⟨p, kx, md, name, xs, ts, n, leaf, M, ns, ps, rfl, _⟩ := h
    rfl
  · obtain ⟨p, kx, md, name, xs, ts, n, leaf, M, ns, ps, rfl, hp, hts, h2, h3, hn, hall, hK, hV, hM, hns, hlk, hps, hper, hsz, q⟩ := h
    refine ⟨_, pss_cons (ps_if (pt_not (pt_val (pe_cal cf hr (by rfl) (pa_cons (pv 2) pa_nil)))) (pss_one ps_never) pss_nil)
      (pss_cut (ps_set (i := 3) sc_Tree_linked.nd rfl (.inl rfl) (pe_propC (pe_ix ix_tup (pv 2) pe_int (fun _ _ => rfl)) TC.cl kKin hr rfl))
      (pss_cut (ps_if (pt_cmpR (op_neD hr.units) (pe_callTy call_tuple_of (by rfl) T.b_tuple (by decide +kernel) (pa_cons (pe_callB cr_sortedS (by rfl) T.b_sorted (by decide +kernel) (pa_cons
            (pe_lc (own := [("tree", 8)]) (g := gName 8) (tt := tYes) rfl sc_Tree_linked.nd (pi_tup (pv 2)) (blkOk_by (N := NLN) (sc := defScope s_Tree_linked) (by decide +kernel)) (fun _ _ _ _ _ => pg_name (i := 8) sc_Tree_linked.nd rfl (.inl rfl)) (fun _ _ _ _ _ => pts_nil) (fun _ _ _ _ _ => pe_propC (pv 8) TC.cl kKnd hr rfl)) pa_nil)) pa_nil))
          (pe_ixM kGet hr (pv 3) (pv 1) (fun _ _ => rfl)) (by rfl)) (pss_one ps_never) pss_nil)
      (pss_cut (ps_if (pt_cmpR op_gt (pe_callB (cr_sum rfl) (by rfl) T.b_sum (by decide +kernel) (pa_cons
            (pe_lc (own := [("tree", 8)]) (g := gName 8) (tt := tYes) rfl sc_Tree_linked.nd (pi_tup (pv 2)) (blkOk_by (N := NLN) (sc := defScope s_Tree_linked) (by decide +kernel)) (fun _ _ _ _ _ => pg_name (i := 8) sc_Tree_linked.nd rfl (.inl rfl)) (fun _ _ _ _ _ => pts_nil) (fun _ _ _ _ _ => pe_propC (pv 8) TC.cl kSiz hr rfl)) pa_nil))
          (pe_glob (v := .int 5000) (by rfl) gm ⟨_, rfl⟩) (nomark _)) (pss_one ps_never) pss_nil)
      (pss_cut (ps_setLc (i := 4) (own := [("tree", 8)]) (g := gName 8) (tt := tYes) (by rfl) sc_Tree_linked.nd rfl rfl (sw_true rfl rfl rfl (by decide +kernel)) (pi_tup (pv 2)) (blkOk_by (N := NLN) (sc := defScope s_Tree_linked) (by decide +kernel)) (fun _ _ _ _ _ => pg_name (i := 8) sc_Tree_linked.nd rfl (.inl rfl)) (fun _ _ _ _ _ => pts_nil) (fun _ _ _ _ _ => pe_propC (pv 8) TC.cl kKey hr rfl))
      (pss_cut (ps_set (i := 5) sc_Tree_linked.nd rfl (.inl rfl) (pe_bm PySem.F.plainAttrs_list PySem.F.slot_list_index PySem.F.type_list_index mt_index (pv 4) (pa_cons (pe_callB (cr_min rfl) (by rfl) T.b_min (by decide +kernel) (pa_cons (pv 4) pa_nil)) pa_nil)))
      (pss_cut (ps_par (i := 6) (j := 7) rfl sc_Tree_linked.nd rfl rfl (by decide) rfl rfl (pa_cons (pe_ix ix_tup (pv 2) (pv 5) (fun _ _ => rfl)) (pa_cons (pe_op op_catS (pe_slice sl_tupS (pv 2) po_none (po_some (pv 5))) (pe_slice sl_tupS (pv 2) (po_some (pe_op op_add (pv 5) pe_int)) po_none)) pa_nil)) (by kernel_rfl))
      (pss_one (ps_ret (pe_cal co hr (by rfl) (pa_cons (pv 3) (pa_cons (pe_propC (pv 6) TC.cl kKey hr rfl) (pa_cons (pe_tup (StX.pa_star (pe_propC (pv 6) TC.cl kWay hr rfl) (pa_cons (pv 1) pa_nil))) (pa_cons (pe_tup (StX.pa_star (pe_propC (pv 6) TC.cl kKid hr rfl) (pa_cons (pv 7) pa_nil))) pa_nil))))))))))))), ?_⟩
    have big : 100000 ≤ sizeLine := by decide
    refine ⟨_, rfl, p, kx, md, xs, ts, n, leaf, M, ns, rfl, hp, hts, h2, h3, fun t ht => (hall t ht).1, hK, hV, hM, fun H1 s1 => ⟨_, rfl, ?_⟩⟩
    show (if (!true) = true then _ else _)
    rw [if_neg (by decide)]
    have hp1 := sqT_st s1 hp
    have ht1 : TrsAt K C kx H1 ts xs := TrsAt.mono (fun _ _ q => sqT_st s1 q) (fun _ _ _ _ e => s1 _ _ e) ts xs hts
    have hK1 := hK.same s1
    have lxs : xs.length = ts.list.length := TrsAt.len ts xs hts
    have insT : ∀ {G : Hp} {t : Tr} {x : Addr}, TreeAt K C kx G t x → ∃ dx fs, G x = some (.ins C dx fs) := fun {G t x} hT => by
      cases t with
      | mk way key ds =>
        unfold TreeAt at hT
        obtain ⟨dx, wl, cl, das, hxi, _⟩ := hT
        exact ⟨dx, _, hxi⟩
    have hx0 : xs[0]? = some xs[0] := List.getElem?_eq_getElem (by omega)
    generalize xs[0] = x0 at hx0
    have hat0 : atI (xs.map V.ref) 0 = some (.ref x0) := by
      refine atI_nat (j := 0) ?_
      rw [List.getElem?_map, hx0]
      rfl
    obtain ⟨t0, _, hT0⟩ := TrsAt.get ht1 hx0
    obtain ⟨dx0, fs0, hxi0⟩ := insT hT0
    -- their kinds
    refine ⟨fun σ' G => σ' = [some (.ref C), some (.str name), some (.ref p), some (.ref kx), none, none, none, none, none] ∧ H1 = G, ?_, ?_⟩
    · exact ⟨_, rfl, p, _, _, _, rfl, rfl, hp1, hat0, x0, dx0, _, rfl, hxi0, x0, kx, t0, rfl, hT0, rfl, rfl⟩
    rintro σ' G ⟨rfl, rfl⟩
    refine ⟨fun σ' G' => σ' = [some (.ref C), some (.str name), some (.ref p), some (.ref kx), none, none, none, none, none] ∧ Same H1 G', ?_, ?_⟩
    · refine ⟨_, rfl, p, rfl, ⟨_, hp1⟩, fun D hD => ?_⟩
      refine lc_it (g := gName 8) (tt := tYes) (vs := [8]) (walk_tup (K := K) (a := p) (xs := xs.map V.ref)) (fun j G' => G' D = some (.lst (((ts.list.map Tr.kind).take j).map V.str)) ∧ Same H1 G')
        ⟨upd_same, same_new (Same.refl H1) hD⟩ (fun j G' _ h => sqT_st h.2 hp1) (fun j u Gx G' hj h hy => ?_) (fun G' h => ?_)
      · obtain ⟨eD, sm⟩ := h
        obtain ⟨rfl, hu⟩ := hy
        obtain ⟨x, hx, rfl⟩ := refs_at' hu
        obtain ⟨t, htl, hT⟩ := TrsAt.get (TrsAt.mono (fun _ _ q => sqT_st sm q) (fun _ _ _ _ e => sm _ _ e) ts xs ht1) hx
        obtain ⟨dx, fs, hxi⟩ := insT hT
        have hm : (ts.list.map Tr.kind)[j]? = some t.kind := by
          rw [List.getElem?_map, htl]
          rfl
        refine ⟨rfl, _, rfl, x, dx, fs, rfl, hxi, x, kx, t, rfl, hT, (hall t (List.mem_of_getElem? htl)).2.1, _, eD, ?_, ?_, fun b o e => by rw [upd_ne (ne_of_none e hD)]; exact sm b o e⟩
        · rw [List.length_map, List.length_take, List.length_map]
          exact Nat.lt_of_le_of_lt (show _ ≤ 3 by omega) (by decide)
        · rw [upd_same, take_snoc' hm, List.map_append]
          rfl
      · obtain ⟨eD, sm⟩ := h
        rw [show (xs.map V.ref).length = (ts.list.map Tr.kind).length by rw [List.length_map, List.length_map]; exact lxs, List.take_length] at eD
        refine ⟨D, _, rfl, .inl (.inl eD), by rw [List.length_map]; omega, fun ys l hperm hsrt nl => ?_⟩
        have eys : ys = ps := sortedS_unique (hperm.trans hper) hsrt hps
        subst eys
        have s3 := same_new (o := .lst (ys.map V.str)) (Same.refl G') nl
        have el : (upd G' l (.lst (ys.map V.str))) l = some (.lst (ys.map V.str)) := upd_same
        generalize upd G' l (.lst (ys.map V.str)) = G2 at s3 el
        refine ⟨l, _, rfl, .inl ⟨.inl (.inl el), fun tl ntl => ?_⟩⟩
        have s4 := same_new (o := .tup (ys.map V.str)) (Same.refl G2) ntl
        have etl : (upd G2 tl (.tup (ys.map V.str))) tl = some (.tup (ys.map V.str)) := upd_same
        generalize upd G2 tl (.tup (ys.map V.str)) = G3 at s4 etl
        have s13 : Same H1 G3 := fun b o e => s4 _ _ (s3 _ _ (sm _ _ e))
        have hK3 := hK1.same s13
        obtain ⟨dk, nt, kvs, hkx, _⟩ := id hK3
        refine ⟨_, rfl, _, rfl, kx, dk, _, rfl, hkx, kx, md, leaf, M, ns, name, rfl, hK3, hns, fun pp G4 s5 hh => ?_⟩
        have hpp : SqT K G4 pp (ys.map V.str) := by
          rcases hh with ⟨ps', e1, e2⟩ | ⟨e1, _⟩
          · rw [hlk] at e1
            cases e1
            exact e2.sq
          · rw [hlk] at e1
            cases e1
        have hsh := hV.shaped _ (lookM_some hlk)
        refine ⟨_, _, .tup (.inl (.inl (s5 _ _ etl))) (dp_texts ys), .tup hpp (dp_texts ys), hsh, hsh, ?_⟩
        rw [PySem.SeqAt.eqv_refl _ (PySem.SeqAt.canLay_of_shaped hsh)]
        refine ⟨_, rfl, ?_⟩
        show (if (!true) = true then _ else _)
        rw [if_neg (by decide)]
        exact ⟨rfl, fun b o e => s5 _ _ (s13 _ _ e)⟩
    rintro σ' Ga ⟨rfl, s2⟩
    have hpGa := sqT_st s2 hp1
    have htGa : TrsAt K C kx Ga ts xs := TrsAt.mono (fun _ _ q => sqT_st s2 q) (fun _ _ _ _ e => s2 _ _ e) ts xs ht1
    -- not too many nodes
    refine ⟨fun σ' Ga' => σ' = [some (.ref C), some (.str name), some (.ref p), some (.ref kx), none, none, none, none, none] ∧ Same Ga Ga', ?_, ?_⟩
    · refine ⟨_, rfl, p, rfl, ⟨_, hpGa⟩, fun D hD => ?_⟩
      refine lc_it (g := gName 8) (tt := tYes) (vs := [8]) (walk_tup (K := K) (a := p) (xs := xs.map V.ref)) (fun j Ga' => Ga' D = some (.lst (((ts.list.map (fun t => ((t.size : Nat) : Int))).take j).map V.int)) ∧ Same Ga Ga')
        ⟨upd_same, same_new (Same.refl Ga) hD⟩ (fun j Ga' _ h => sqT_st h.2 hpGa) (fun j u Gx Ga' hj h hy => ?_) (fun Ga' h => ?_)
      · obtain ⟨eD, sm⟩ := h
        obtain ⟨rfl, hu⟩ := hy
        obtain ⟨x, hx, rfl⟩ := refs_at' hu
        obtain ⟨t, htl, hT⟩ := TrsAt.get (TrsAt.mono (fun _ _ q => sqT_st sm q) (fun _ _ _ _ e => sm _ _ e) ts xs htGa) hx
        obtain ⟨dx, fs, hxi⟩ := insT hT
        have hm : (ts.list.map (fun t => ((t.size : Nat) : Int)))[j]? = some ((fun t => ((t.size : Nat) : Int)) t) := by
          rw [List.getElem?_map, htl]
          rfl
        refine ⟨rfl, _, rfl, x, dx, fs, rfl, hxi, x, kx, t, rfl, hT, _, eD, ?_, ?_, fun b o e => by rw [upd_ne (ne_of_none e hD)]; exact sm b o e⟩
        · rw [List.length_map, List.length_take, List.length_map]
          exact Nat.lt_of_le_of_lt (show _ ≤ 3 by omega) (by decide)
        · rw [upd_same, take_snoc' hm, List.map_append]
          rfl
      · obtain ⟨eD, sm⟩ := h
        rw [show (xs.map V.ref).length = (ts.list.map (fun t => ((t.size : Nat) : Int))).length by rw [List.length_map, List.length_map]; exact lxs, List.take_length] at eD
        refine ⟨D, _, rfl, .inl (.inl eD), _, _, rfl, rfl, _, rfl, ?_⟩
        have e1 : (ts.list.map fun t => ((t.size : Nat) : Int)).sum = ((ts.size : Nat) : Int) := szL_sum ts
        rw [e1, decide_eq_false (show ¬ (5000 : Int) < ((ts.size : Nat) : Int) by omega)]
        show (if false = true then _ else _)
        rw [if_neg (by decide)]
        exact ⟨rfl, sm⟩
    rintro σ' G ⟨rfl, s3⟩
    have hpG := sqT_st s3 hpGa
    have htG : TrsAt K C kx G ts xs := TrsAt.mono (fun _ _ q => sqT_st s3 q) (fun _ _ _ _ e => s3 _ _ e) ts xs htGa
    have s23 : Same H1 G := fun b o e => s3 _ _ (s2 _ _ e)
    clear hpGa htGa s3 s2
    -- the keys
    refine ⟨fun σ' G' => ∃ kl : Addr, σ' = [some (.ref C), some (.str name), some (.ref p), some (.ref kx), some (.ref kl), none, none, none, none] ∧ G' kl = some (.lst ((ts.list.map Tr.key).map V.int)) ∧ Same G G', ?_, ?_⟩
    · refine ⟨_, rfl, p, rfl, ⟨_, hpG⟩, fun D hD => ?_⟩
      refine lc_it (g := gName 8) (tt := tYes) (vs := [8]) (walk_tup (K := K) (a := p) (xs := xs.map V.ref)) (fun j G' => G' D = some (.lst (((ts.list.map Tr.key).take j).map V.int)) ∧ Same G G')
        ⟨upd_same, same_new (Same.refl G) hD⟩ (fun j G' _ h => sqT_st h.2 hpG) (fun j u Gx G' hj h hy => ?_) (fun G' h => ?_)
      · obtain ⟨eD, sm⟩ := h
        obtain ⟨rfl, hu⟩ := hy
        obtain ⟨x, hx, rfl⟩ := refs_at' hu
        obtain ⟨t, htl, hT⟩ := TrsAt.get (TrsAt.mono (fun _ _ q => sqT_st sm q) (fun _ _ _ _ e => sm _ _ e) ts xs htG) hx
        obtain ⟨dx, fs, hxi⟩ := insT hT
        have hm : (ts.list.map Tr.key)[j]? = some (Tr.key t) := by
          rw [List.getElem?_map, htl]
          rfl
        refine ⟨rfl, _, rfl, x, dx, fs, rfl, hxi, x, kx, t, rfl, hT, _, eD, ?_, ?_, fun b o e => by rw [upd_ne (ne_of_none e hD)]; exact sm b o e⟩
        · rw [List.length_map, List.length_take, List.length_map]
          exact Nat.lt_of_le_of_lt (show _ ≤ 3 by omega) (by decide)
        · rw [upd_same, take_snoc' hm, List.map_append]
          rfl
      · obtain ⟨eD, sm⟩ := h
        rw [show (xs.map V.ref).length = (ts.list.map Tr.key).length by rw [List.length_map, List.length_map]; exact lxs, List.take_length] at eD
        exact ⟨D, rfl, eD, sm⟩
    rintro σ' G1 ⟨kl, rfl, ekl, s4⟩
    have hpG1 := sqT_st s4 hpG
    have htG1 : TrsAt K C kx G1 ts xs := TrsAt.mono (fun _ _ q => sqT_st s4 q) (fun _ _ _ _ e => s4 _ _ e) ts xs htG
    have s14 : Same H1 G1 := fun b o e => s4 _ _ (s23 _ _ e)
    -- the winner's place
    refine ⟨fun σ' G' => ∃ (j : Nat) (t : Tr) (x : Addr), σ' = [some (.ref C), some (.str name), some (.ref p), some (.ref kx), some (.ref kl), some (.int (j : Nat)), none, none, none] ∧ IsWin ts j t ∧ xs[j]? = some x ∧ G1 = G', ?_, ?_⟩
    · refine ⟨_, rfl, .inl ⟨rfl, _, .inl (.inl ekl)⟩, _, rfl, kl, _, rfl, .inl (.inl ekl), ?_, fun m hm hle => ?_⟩
      · rw [List.length_map]
        omega
      obtain ⟨j, hj, hfirst⟩ := first_at hm
      have hj2 := hj
      rw [List.getElem?_map] at hj2
      obtain ⟨t, ht, em⟩ := Option.map_eq_some_iff.mp hj2
      have hjl := (List.getElem?_eq_some_iff.mp ht).1
      refine ⟨kl, _, .int m, j, .int m, rfl, rfl, .inl (.inl ekl), rfl, flat_ints _, by rw [List.getElem?_map, hj]; rfl, ?_, fun i z' hi hz => ?_, j, t, xs[j], rfl, ⟨ht, fun u hu => ?_, fun i u hi hu => ?_⟩, List.getElem?_eq_getElem (by omega), rfl⟩
      · show (m == m) = true
        exact beq_self_eq_true m
      · rw [List.getElem?_map] at hz
        obtain ⟨y, hy, rfl⟩ := Option.map_eq_some_iff.mp hz
        show (y == m) = false
        exact beq_false_of_ne (hfirst i y hi hy)
      · rw [em]
        exact hle _ (List.mem_map.mpr ⟨u, hu, rfl⟩)
      · have h1 := hle u.key (List.mem_map.mpr ⟨u, List.mem_of_getElem? hu, rfl⟩)
        have h2 := hfirst i u.key hi (by rw [List.getElem?_map, hu]; rfl)
        rw [em]
        omega
    rintro σ' G' ⟨j, t, x, rfl, hwin, hxj, rfl⟩
    have hjl := (List.getElem?_eq_some_iff.mp hxj).1
    obtain ⟨t', ht', hT⟩ := TrsAt.get htG1 hxj
    have htt : t' = t := by
      rw [hwin.1] at ht'
      exact (Option.some.inj ht').symm
    subst htt
    -- the winner, the losers
    refine ⟨fun σ' G' => ∃ ll : Addr, σ' = [some (.ref C), some (.str name), some (.ref p), some (.ref kx), some (.ref kl), some (.int (j : Nat)), some (.ref x), some (.ref ll), none] ∧ SqT K G' ll ((xs.take j ++ xs.drop (j + 1)).map V.ref) ∧ Same G1 G', ?_, ?_⟩
    · have hatj : atI (xs.map V.ref) ((j : Nat) : Int) = some (.ref x) := by
        refine atI_nat ?_
        rw [List.getElem?_map, hxj]
        rfl
      refine ⟨_, rfl, _, rfl, p, _, _, _, rfl, rfl, hpG1, hatj, ?_⟩
      refine ⟨_, rfl, _, rfl, _, rfl, p, _, rfl, hpG1, fun q1 Ga sa hq1 => ?_⟩
      rw [cutV_refs] at hq1
      refine ⟨_, rfl, _, rfl, _, _, rfl, rfl, _, rfl, p, _, rfl, sqT_st sa hpG1, fun q2 Gb sb hq2 => ?_⟩
      rw [show ((j : Nat) : Int) + 1 = ((j + 1 : Nat) : Int) by omega, cutV_refs2] at hq2
      refine ⟨q1, q2, _, _, rfl, rfl, sqT_st sb hq1, hq2, ?_, fun ll Gc sc hll => ⟨_, _, rfl, ll, rfl, ?_, fun b o e => sc _ _ (sb _ _ (sa _ _ e))⟩⟩
      · rw [List.length_map, List.length_map, List.length_take, List.length_drop]
        omega
      · rw [List.map_append]
        exact hll
    rintro σ' G2 ⟨ll, rfl, hll, s5⟩
    have hT2 : TreeAt K C kx G2 t' x := hT.same s5
    obtain ⟨dx, fs, hxi⟩ := insT hT2
    obtain ⟨hr1, hr2, hr3, hr4⟩ := hall t' (List.mem_of_getElem? hwin.1)
    refine ⟨_, rfl, _, rfl, x, dx, fs, rfl, hxi, x, kx, t', rfl, hT2, ?_⟩
    refine ⟨_, rfl, x, dx, fs, rfl, hxi, x, kx, t', rfl, hT2, fun wl hwl => ⟨wl, _, rfl, .inl hwl, _, rfl, ?_, fun wl2 nwl2 => ?_⟩⟩
    · rw [List.length_append, List.length_map]
      show _ + 1 ≤ sizeLine
      omega
    have s6 := same_new (o := .tup (t'.way.map V.str ++ [.str name])) (Same.refl G2) nwl2
    have ew : (upd G2 wl2 (.tup (t'.way.map V.str ++ [.str name]))) wl2 = some (.tup (t'.way.map V.str ++ [.str name])) := upd_same
    generalize upd G2 wl2 (.tup (t'.way.map V.str ++ [.str name])) = G3 at s6 ew
    have hT3 := hT2.same s6
    refine ⟨_, rfl, x, dx, fs, rfl, s6 _ _ hxi, x, kx, t', rfl, hT3, fun cl das hcl hds => ⟨cl, _, rfl, .inl hcl, _, rfl, ?_, fun cl2 ncl2 => ?_⟩⟩
    · rw [List.length_append, List.length_map, DgsAt.len _ _ hds]
      have : t'.kids.len = n := hr1
      show _ + 1 ≤ sizeLine
      omega
    have s7 := same_new (o := .tup (das.map V.ref ++ [.ref ll])) (Same.refl G3) ncl2
    have ec : (upd G3 cl2 (.tup (das.map V.ref ++ [.ref ll]))) cl2 = some (.tup (das.map V.ref ++ [.ref ll])) := upd_same
    generalize upd G3 cl2 (.tup (das.map V.ref ++ [.ref ll])) = G4 at s7 ec
    have s14' : Same G1 G4 := fun b o e => s7 _ _ (s6 _ _ (s5 _ _ e))
    have s04 : Same H G4 := fun b o e => s14' _ _ (s14 _ _ (s1 _ _ e))
    have htG4 : TrsAt K C kx G4 ts xs := TrsAt.mono (fun _ _ q => sqT_st s14' q) (fun _ _ _ _ e => s14' _ _ e) ts xs htG1
    have hds4 : DgsAt K C kx G4 t'.kids das := DgsAt.mono (fun _ _ q => sqT_st s7 q) (fun _ _ _ _ e => s7 _ _ e) _ _ hds
    have hll4 : SqT K G4 ll ((xs.take j ++ xs.drop (j + 1)).map V.ref) := sqT_st (fun b o e => s7 _ _ (s6 _ _ e)) hll
    have hz := link_size (name := name) hwin.1
    refine ⟨kx, md, wl2, cl2, leaf, M, ns, t'.key, t'.way ++ [name], das ++ [ll], t'.kids.snoc (ts.cut j), rfl, hK.same s04, hr3, ?_, ?_, DgsAt.snoc hll4 (TrsAt.cut ts xs j htG4) _ _ hds4, ?_, fun x' H' sm hTx => q x' H' j t' (fun b o e => sm _ _ (s04 _ _ e)) hwin hTx⟩
    · rw [List.map_append]
      exact .inl (.inl (s7 _ _ ew))
    · rw [List.map_append]
      exact .inl (.inl ec)
    · unfold linkT at hz
      rw [Tr.size] at hz
      omega
end
end Kl

set_option maxRecDepth 100000
set_option maxHeartbeats 4000000
namespace Kl
open PySem PySem.Spec PyProof.Rows L2 Gx Mx
section
variable {P : Program} {w : World} {K : PySem.W.Frag} {mg : Str → Option Value} {base : Heap}
/-! ### _law_tree_key -/
def spTK : Sp := fun vs H Q _ => ∃ d : Addr, vs = [V.ref d] ∧ DiceAt H d ∧ ∀ (key : Int) H', intV (.int key) = true → key ≠ 77 → SameX d H H' → DiceAt H' d → Q (.int key) H'
theorem ok_tk {f : Addr} {fd : FuncData} (F : Fun K "_law_tree_key" "_law_tree_key" s_law_tree_key f fd) (T : Top K mg) : FnOk P w K mg base CX0 3 f fd ["_law_dice_here"] spTK := by
  have cr : Cal P w K mg base 2 "_law_roll" ["_law_dice_here", "_law_total"] spRoll := (T.d_law_roll.cal fun f fd F => ok_roll F T).mono (by decide)
  have cp : Cal P w K mg base 2 "_law_pick" ["_law_dice_here", "_law_items"] (spPick K) := T.d_law_pick.cal fun f fd F => ok_pick F T
  refine F.ok sc_law_tree_key (fun vs H Q E h => ?_) (fun cdv A outer s H vs Q E hr h => ?_)
  · obtain ⟨d, rfl, _⟩ := h
    rfl
  · obtain ⟨d, rfl, hd, q⟩ := h
    refine ⟨_, pss_cut (ps_par (i := 1) (j := 2) rfl sc_law_tree_key.nd rfl rfl (by decide) rfl rfl (pa_cons (pe_op op_sub (pe_op op_pow pe_int pe_int) pe_int) (pa_cons (pe_cal cr hr (by rfl) (pa_cons (pv 0) (pa_cons pe_int pa_nil))) pa_nil)) (by kernel_rfl))
      (pss_one (ps_ret (pe_cal cp hr (by rfl) (pa_cons (pv 0) (pa_cons (pe_lst (pa_cons (pv 2) (pa_cons (pv 2) (pa_cons (pv 2) (pa_cons (pe_op op_sub pe_int (pv 2)) (pa_cons (pv 1) (pa_cons (pe_op op_sub pe_int (pv 1)) (pa_cons (pe_op op_pow pe_int pe_int) pa_nil)))))))) pa_nil))))), ?_⟩
    have big : 100000 ≤ sizeLine := by decide
    refine ⟨fun σ' G => ∃ low : Int, σ' = [some (.ref d), some (.int (TEN60 - 1)), some (.int low)] ∧ 0 ≤ low ∧ low < 9 ∧ SameX d H G ∧ DiceAt G d, ?_, ?_⟩
    · refine ⟨_, _, rfl, rfl, ⟨by decide, by decide, by decide⟩, _, _, rfl, rfl, _, rfl, d, 9, rfl, hd, by decide, by decide, fun r x b c h0 h1 => ?_⟩
      exact ⟨_, _, rfl, r, by rfl, h0, h1, (SameX.refl d H).atd, dice_new x b c⟩
    rintro σ' G ⟨low, rfl, l0, l1, sx, hdG⟩
    refine ⟨_, rfl, _, rfl, _, rfl, _, rfl, _, rfl, _, _, rfl, rfl, _, rfl, _, rfl, _, _, rfl, rfl, _, _, rfl, rfl, ⟨by decide, by decide, by decide⟩, by show 7 ≤ sizeLine; omega, fun l nl => ?_⟩
    have nld := dice_ne hdG nl
    refine ⟨d, .ref l, _, rfl, dice_upd hdG nld, .inl ⟨l, rfl, nld, .inl (.inl (.inl upd_same))⟩, (fun h => nomatch h), by show 7 ≤ 100000; decide, fun v x b c hv => ?_⟩
    have hm : ∃ k : Int, v = .int k ∧ -TEN60 < k ∧ k < TEN60 ∧ k ≠ 77 := by
      have e60 : TEN60 = 1000000000000000000000000000000000000000000000000000000000000 := rfl
      simp only [List.mem_cons, List.not_mem_nil, or_false] at hv
      rcases hv with rfl | rfl | rfl | rfl | rfl | rfl | rfl
      · exact ⟨low, rfl, by omega, by omega, by omega⟩
      · exact ⟨low, rfl, by omega, by omega, by omega⟩
      · exact ⟨low, rfl, by omega, by omega, by omega⟩
      · exact ⟨0 - low, rfl, by omega, by omega, by omega⟩
      · exact ⟨TEN60 - 1, rfl, by omega, by omega, by omega⟩
      · exact ⟨0 - (TEN60 - 1), rfl, by omega, by omega, by omega⟩
      · exact ⟨100000000000000000000000000000000000000000000000000000000000, rfl, by omega, by omega, by omega⟩
    obtain ⟨k, rfl, k1, k2, k7⟩ := hm
    refine q k _ ?_ k7 ((sx.new nl).atd) (dice_new x b c)
    show (decide (-TEN60 < k) && decide (k < TEN60)) = true
    rw [decide_eq_true k1, decide_eq_true k2]
    rfl
end
end Kl

set_option maxRecDepth 100000
set_option maxHeartbeats 4000000
namespace Kl
open PySem PySem.Spec PyProof.Rows L2 Gx Mx
/-! ### plain trees: (way, key, digits) -/
mutual
def PlAt (K : PySem.W.Frag) (H : Hp) : Tr → Addr → Prop
  | .mk way key ds, x => ∃ (wl cl : Addr) (das : List Addr), SqT K H x [.ref wl, .int key, .ref cl] ∧ SqT K H wl (way.map V.str) ∧ SqT K H cl (das.map V.ref) ∧ PdAt K H ds das
def PdAt (K : PySem.W.Frag) (H : Hp) : Dgs → List Addr → Prop
  | .nil, as => as = []
  | .cons d r, as => ∃ (a : Addr) (bs xs : List Addr), as = a :: bs ∧ SqT K H a (xs.map V.ref) ∧ PsAt K H d xs ∧ PdAt K H r bs
def PsAt (K : PySem.W.Frag) (H : Hp) : Trs → List Addr → Prop
  | .nil, xs => xs = []
  | .cons t r, xs => ∃ (x : Addr) (ys : List Addr), xs = x :: ys ∧ PlAt K H t x ∧ PsAt K H r ys
end
section
variable {K : PySem.W.Frag} {H H' : Hp}
mutual
theorem PlAt.mono (s : ∀ a xs, SqT K H a xs → SqT K H' a xs) : ∀ (t : Tr) (x : Addr), PlAt K H t x → PlAt K H' t x
  | .mk way key ds, x, h => by
    unfold PlAt at h ⊢
    obtain ⟨wl, cl, das, h1, h2, h3, h4⟩ := h
    exact ⟨wl, cl, das, s _ _ h1, s _ _ h2, s _ _ h3, PdAt.mono s ds das h4⟩
theorem PdAt.mono (s : ∀ a xs, SqT K H a xs → SqT K H' a xs) : ∀ (ds : Dgs) (as : List Addr), PdAt K H ds as → PdAt K H' ds as
  | .nil, as, h => by
    unfold PdAt at h ⊢
    exact h
  | .cons d r, as, h => by
    unfold PdAt at h ⊢
    obtain ⟨a, bs, xs, e, h1, h2, h3⟩ := h
    exact ⟨a, bs, xs, e, s _ _ h1, PsAt.mono s d xs h2, PdAt.mono s r bs h3⟩
theorem PsAt.mono (s : ∀ a xs, SqT K H a xs → SqT K H' a xs) : ∀ (ts : Trs) (xs : List Addr), PsAt K H ts xs → PsAt K H' ts xs
  | .nil, xs, h => by
    unfold PsAt at h ⊢
    exact h
  | .cons t r, xs, h => by
    unfold PsAt at h ⊢
    obtain ⟨x, ys, e, h1, h2⟩ := h
    exact ⟨x, ys, e, PlAt.mono s t x h1, PsAt.mono s r ys h2⟩
end
theorem PsAt.len : ∀ (ts : Trs) (xs : List Addr), PsAt K H ts xs → xs.length = ts.list.length
  | .nil, xs, h => by
    unfold PsAt at h
    rw [h]
    rfl
  | .cons t r, xs, h => by
    unfold PsAt at h
    obtain ⟨x, ys, rfl, _, h2⟩ := h
    show ys.length + 1 = r.list.length + 1
    rw [PsAt.len r ys h2]
theorem PsAt.get : ∀ {ts : Trs} {xs : List Addr} {j : Nat} {x : Addr}, PsAt K H ts xs → xs[j]? = some x → ∃ t, ts.list[j]? = some t ∧ PlAt K H t x
  | .nil, xs, j, x, h, e => by
    unfold PsAt at h
    subst h
    cases e
  | .cons t r, xs, 0, x, h, e => by
    unfold PsAt at h
    obtain ⟨y, ys, rfl, h1, _⟩ := h
    cases e
    exact ⟨t, rfl, h1⟩
  | .cons t r, xs, j + 1, x, h, e => by
    unfold PsAt at h
    obtain ⟨y, ys, rfl, _, h2⟩ := h
    exact PsAt.get (ts := r) h2 e
theorem PsAt.cut : ∀ (ts : Trs) (xs : List Addr) (j : Nat), PsAt K H ts xs → PsAt K H (ts.cut j) (xs.take j ++ xs.drop (j + 1))
  | .nil, xs, j, h => by
    unfold PsAt at h
    subst h
    show PsAt K H .nil _
    unfold PsAt
    simp
  | .cons t r, xs, 0, h => by
    unfold PsAt at h
    obtain ⟨x, ys, rfl, _, h2⟩ := h
    exact h2
  | .cons t r, xs, j + 1, h => by
    unfold PsAt at h
    obtain ⟨x, ys, rfl, h1, h2⟩ := h
    show PsAt K H (.cons t (r.cut j)) (x :: (ys.take j ++ ys.drop (j + 1)))
    unfold PsAt
    exact ⟨x, _, rfl, h1, PsAt.cut r ys j h2⟩
theorem PdAt.snoc {d : Trs} {a : Addr} {xs : List Addr} (ha : SqT K H a (xs.map V.ref)) (hd : PsAt K H d xs) : ∀ (ds : Dgs) (as : List Addr), PdAt K H ds as → PdAt K H (ds.snoc d) (as ++ [a])
  | .nil, as, h => by
    unfold PdAt at h
    subst h
    show PdAt K H (.cons d .nil) [a]
    unfold PdAt
    refine ⟨a, [], xs, rfl, ha, hd, ?_⟩
    unfold PdAt
    rfl
  | .cons e r, as, h => by
    unfold PdAt at h
    obtain ⟨b, bs, ys, rfl, h1, h2, h3⟩ := h
    show PdAt K H (.cons e (r.snoc d)) (b :: (bs ++ [a]))
    unfold PdAt
    exact ⟨b, _, ys, rfl, h1, h2, PdAt.snoc ha hd r bs h3⟩
theorem PdAt.len : ∀ (ds : Dgs) (as : List Addr), PdAt K H ds as → as.length = ds.len
  | .nil, as, h => by
    unfold PdAt at h
    rw [h]
    rfl
  | .cons d r, as, h => by
    unfold PdAt at h
    obtain ⟨a, bs, xs, rfl, _, _, h3⟩ := h
    show bs.length + 1 = r.len + 1
    rw [PdAt.len r bs h3]
end
section
variable {P : Program} {w : World} {K : PySem.W.Frag} {mg : Str → Option Value} {base : Heap}
/-! ### _law_link_plain -/
abbrev NLP : List Str := ["_law_name", "_law_trees", "_law_keys", "_law_at", "_law_tree"]
def spLP (K : PySem.W.Frag) : Sp := fun vs H Q _ => ∃ (p : Addr) (name : Str) (xs : List Addr) (ts : Trs) (n : Nat), vs = [V.str name, .ref p] ∧ H p = some (.lst (xs.map V.ref)) ∧ PsAt K H ts xs ∧ 1 ≤ xs.length ∧ xs.length ≤ 3 ∧ n ≤ 1000 ∧ (∀ t ∈ ts.list, t.rank = n ∧ t.way.length ≤ 1000) ∧
  ∀ x H' j t, Same H H' → IsWin ts j t → PlAt K H' (linkT name ts j t) x → Q (.ref x) H'
theorem ok_lp {f : Addr} {fd : FuncData} (F : Fun K "_law_link_plain" "_law_link_plain" s_law_link_plain f fd) (T : Top K mg) : FnOk P w K mg base CX0 1 f fd ["_law_name", "_law_trees"] (spLP K) := by
  refine F.ok sc_law_link_plain (fun vs H Q E h => ?_) (fun cdv A outer s H vs Q E hr h => ?_)
  · obtain ⟨p, name, xs, ts, n, rfl, _⟩ := h
    rfl
  · obtain ⟨p, name, xs, ts, n, rfl, hp, hts, h1, h3, hn, hall, q⟩ := h
    refine ⟨_, pss_cut (ps_setLc (i := 2) (own := [("_law_tree", 4)]) (g := gName 4) (tt := tYes) (by rfl) sc_law_link_plain.nd rfl rfl (sw_true rfl rfl rfl (by decide +kernel)) (pi_list (pv 1)) (blkOk_by (N := NLP) (sc := defScope s_law_link_plain) (by decide +kernel)) (fun _ _ _ _ _ => pg_name (i := 4) sc_law_link_plain.nd rfl (.inl rfl)) (fun _ _ _ _ _ => pts_nil) (fun _ _ _ _ _ => pe_ix (ix_tupK (K := K) (by exact rfl)) (pv 4) pe_int (fun _ _ => rfl)))
      (pss_cut (ps_set (i := 3) sc_law_link_plain.nd rfl (.inl rfl) (pe_bm PySem.F.plainAttrs_list PySem.F.slot_list_index PySem.F.type_list_index mt_index (pv 2) (pa_cons (pe_callB (cr_min rfl) (by rfl) T.b_min (by decide +kernel) (pa_cons (pv 2) pa_nil)) pa_nil)))
      (pss_one (ps_ret (pe_tup (pa_cons (pe_op op_catS (pe_ix ix_tup (pe_ix ix_list (pv 1) (pv 3) (fun _ _ => rfl)) pe_int (fun _ _ => rfl)) (pe_tup (pa_cons (pv 0) pa_nil)))
        (pa_cons (pe_ix ix_tup (pe_ix ix_list (pv 1) (pv 3) (fun _ _ => rfl)) pe_int (fun _ _ => rfl))
        (pa_cons (pe_op op_catS (pe_ix ix_tup (pe_ix ix_list (pv 1) (pv 3) (fun _ _ => rfl)) pe_int (fun _ _ => rfl)) (pe_tup (pa_cons (pe_callTy call_tuple_of (by rfl) T.b_tuple (by decide +kernel) (pa_cons (pe_op op_cat (pe_slice sl_list (pv 1) po_none (po_some (pv 3))) (pe_slice sl_list (pv 1) (po_some (pe_op op_add (pv 3) pe_int)) po_none)) pa_nil)) pa_nil))) pa_nil))))))), ?_⟩
    have big : 100000 ≤ sizeLine := by decide
    have lxs : xs.length = ts.list.length := PsAt.len ts xs hts
    -- the keys
    refine ⟨fun σ' G' => ∃ kl : Addr, σ' = [some (.str name), some (.ref p), some (.ref kl), none, none] ∧ G' kl = some (.lst ((ts.list.map Tr.key).map V.int)) ∧ Same H G', ?_, ?_⟩
    · refine ⟨_, rfl, p, rfl, ⟨_, .inl (.inl hp)⟩, fun D hD => ?_⟩
      refine lc_it (g := gName 4) (tt := tYes) (vs := [4]) (walk_list (K := K) (a := p) (xs := xs.map V.ref)) (fun j G' => G' D = some (.lst (((ts.list.map Tr.key).take j).map V.int)) ∧ Same H G')
        ⟨upd_same, same_new (Same.refl H) hD⟩ (fun j G' _ h => .inl (.inl (h.2 _ _ hp))) (fun j u Gx G' hj h hy => ?_) (fun G' h => ?_)
      · obtain ⟨eD, sm⟩ := h
        obtain ⟨rfl, hu⟩ := hy
        obtain ⟨x, hx, rfl⟩ := refs_at' hu
        obtain ⟨⟨way, key, ds⟩, htl, hT⟩ := PsAt.get (PsAt.mono (fun _ _ q => sqT_st sm q) ts xs hts) hx
        unfold PlAt at hT
        obtain ⟨wl, cl, das, e1, _⟩ := hT
        have hm : (ts.list.map Tr.key)[j]? = some key := by
          rw [List.getElem?_map, htl]
          rfl
        refine ⟨rfl, _, rfl, x, _, _, .int key, rfl, rfl, e1, atI_nat (j := 1) rfl, _, eD, ?_, ?_, fun b o e => by rw [upd_ne (ne_of_none e hD)]; exact sm b o e⟩
        · rw [List.length_map, List.length_take, List.length_map]
          exact Nat.lt_of_le_of_lt (show _ ≤ 3 by omega) (by decide)
        · rw [upd_same, take_snoc' hm, List.map_append]
          rfl
      · obtain ⟨eD, sm⟩ := h
        rw [show (xs.map V.ref).length = (ts.list.map Tr.key).length by rw [List.length_map, List.length_map]; exact lxs, List.take_length] at eD
        exact ⟨D, rfl, eD, sm⟩
    rintro σ' G1 ⟨kl, rfl, ekl, s1⟩
    -- the winner's place
    refine ⟨fun σ' G' => ∃ (j : Nat) (t : Tr) (x : Addr), σ' = [some (.str name), some (.ref p), some (.ref kl), some (.int (j : Nat)), none] ∧ IsWin ts j t ∧ xs[j]? = some x ∧ G1 = G', ?_, ?_⟩
    · refine ⟨_, rfl, .inl ⟨rfl, _, .inl (.inl ekl)⟩, _, rfl, kl, _, rfl, .inl (.inl ekl), ?_, fun m hm hle => ?_⟩
      · rw [List.length_map]
        omega
      obtain ⟨j, hj, hfirst⟩ := first_at hm
      have hj2 := hj
      rw [List.getElem?_map] at hj2
      obtain ⟨t, ht, em⟩ := Option.map_eq_some_iff.mp hj2
      have hjl := (List.getElem?_eq_some_iff.mp ht).1
      refine ⟨kl, _, .int m, j, .int m, rfl, rfl, .inl (.inl ekl), rfl, flat_ints _, by rw [List.getElem?_map, hj]; rfl, ?_, fun i z' hi hz => ?_, j, t, xs[j], rfl, ⟨ht, fun u hu => ?_, fun i u hi hu => ?_⟩, List.getElem?_eq_getElem (by omega), rfl⟩
      · show (m == m) = true
        exact beq_self_eq_true m
      · rw [List.getElem?_map] at hz
        obtain ⟨y, hy, rfl⟩ := Option.map_eq_some_iff.mp hz
        show (y == m) = false
        exact beq_false_of_ne (hfirst i y hi hy)
      · rw [em]
        exact hle _ (List.mem_map.mpr ⟨u, hu, rfl⟩)
      · have h1 := hle u.key (List.mem_map.mpr ⟨u, List.mem_of_getElem? hu, rfl⟩)
        have h2 := hfirst i u.key hi (by rw [List.getElem?_map, hu]; rfl)
        rw [em]
        omega
    rintro σ' G' ⟨j, t, x, rfl, hwin, hxj, rfl⟩
    have hjl := (List.getElem?_eq_some_iff.mp hxj).1
    have hpG := s1 _ _ hp
    have htsG : PsAt K G1 ts xs := PsAt.mono (fun _ _ q => sqT_st s1 q) ts xs hts
    obtain ⟨t', ht', hT⟩ := PsAt.get htsG hxj
    have htt : t' = t := by
      rw [hwin.1] at ht'
      exact (Option.some.inj ht').symm
    subst htt
    obtain ⟨hr1, hr2⟩ := hall t' (List.mem_of_getElem? hwin.1)
    cases t' with
    | mk way key ds =>
    unfold PlAt at hT
    obtain ⟨wl, cl, das, ex, hw, hc, hds⟩ := hT
    have hatj : atI (xs.map V.ref) ((j : Nat) : Int) = some (.ref x) := by
      refine atI_nat ?_
      rw [List.getElem?_map, hxj]
      rfl
    have hr2' : way.length ≤ 1000 := hr2
    have hr1' : ds.len = n := hr1
    refine ⟨_, rfl, _, rfl, p, _, _, _, rfl, rfl, .inl (.inl hpG), hatj, x, _, _, .ref wl, rfl, rfl, ex, atI_nat (j := 0) rfl, ?_⟩
    refine ⟨_, rfl, by show 1 ≤ sizeLine; omega, fun q1 nq1 => ?_⟩
    have s2 := same_new (o := .tup [.str name]) (Same.refl G1) nq1
    have e2 : (upd G1 q1 (.tup [.str name])) q1 = some (.tup [.str name]) := upd_same
    generalize upd G1 q1 (.tup [.str name]) = G2 at s2 e2
    refine ⟨wl, q1, _, _, rfl, rfl, sqT_st s2 hw, .inl (.inl e2), by rw [List.length_map]; show _ + 1 ≤ sizeLine; omega, fun w2 G3 s3 hw2 => ?_⟩
    have s13 : Same G1 G3 := fun b o e => s3 _ _ (s2 _ _ e)
    refine ⟨_, rfl, _, rfl, p, _, _, _, rfl, rfl, .inl (.inl (s13 _ _ hpG)), hatj, x, _, _, .int key, rfl, rfl, sqT_st s13 ex, atI_nat (j := 1) rfl, ?_⟩
    refine ⟨_, rfl, _, rfl, p, _, _, _, rfl, rfl, .inl (.inl (s13 _ _ hpG)), hatj, x, _, _, .ref cl, rfl, rfl, sqT_st s13 ex, atI_nat (j := 2) rfl, ?_⟩
    refine ⟨_, rfl, _, rfl, _, rfl, p, _, rfl, .inl (.inl (s13 _ _ hpG)), fun p1 np1 => ?_⟩
    rw [cutV_refs]
    have s4 := same_new (o := .lst ((xs.take j).map V.ref)) (Same.refl G3) np1
    have e4 : (upd G3 p1 (.lst ((xs.take j).map V.ref))) p1 = some (.lst ((xs.take j).map V.ref)) := upd_same
    generalize upd G3 p1 (.lst ((xs.take j).map V.ref)) = G4 at s4 e4
    refine ⟨_, rfl, _, rfl, _, _, rfl, rfl, _, rfl, p, _, rfl, .inl (.inl (s4 _ _ (s13 _ _ hpG))), fun p2 np2 => ?_⟩
    rw [show ((j : Nat) : Int) + 1 = ((j + 1 : Nat) : Int) by omega, cutV_refs2]
    have s5 := same_new (o := .lst ((xs.drop (j + 1)).map V.ref)) (Same.refl G4) np2
    have e5 : (upd G4 p2 (.lst ((xs.drop (j + 1)).map V.ref))) p2 = some (.lst ((xs.drop (j + 1)).map V.ref)) := upd_same
    generalize upd G4 p2 (.lst ((xs.drop (j + 1)).map V.ref)) = G5 at s5 e5
    refine ⟨p1, p2, _, _, rfl, rfl, s5 _ _ e4, e5, ?_, fun p3 np3 => ?_⟩
    · rw [List.length_map, List.length_map, List.length_take, List.length_drop]
      omega
    rw [← List.map_append]
    have s6 := same_new (o := .lst ((xs.take j ++ xs.drop (j + 1)).map V.ref)) (Same.refl G5) np3
    have e6 : (upd G5 p3 (.lst ((xs.take j ++ xs.drop (j + 1)).map V.ref))) p3 = some (.lst ((xs.take j ++ xs.drop (j + 1)).map V.ref)) := upd_same
    generalize upd G5 p3 (.lst ((xs.take j ++ xs.drop (j + 1)).map V.ref)) = G6 at s6 e6
    refine ⟨p3, _, rfl, .inl ⟨.inl (.inl e6), fun p4 np4 => ?_⟩⟩
    have s7 := same_new (o := .tup ((xs.take j ++ xs.drop (j + 1)).map V.ref)) (Same.refl G6) np4
    have e7 : (upd G6 p4 (.tup ((xs.take j ++ xs.drop (j + 1)).map V.ref))) p4 = some (.tup ((xs.take j ++ xs.drop (j + 1)).map V.ref)) := upd_same
    generalize upd G6 p4 (.tup ((xs.take j ++ xs.drop (j + 1)).map V.ref)) = G7 at s7 e7
    refine ⟨by show 1 ≤ sizeLine; omega, fun p5 np5 => ?_⟩
    have s8 := same_new (o := .tup [.ref p4]) (Same.refl G7) np5
    have e8 : (upd G7 p5 (.tup [.ref p4])) p5 = some (.tup [.ref p4]) := upd_same
    generalize upd G7 p5 (.tup [.ref p4]) = G8 at s8 e8
    have s38 : Same G3 G8 := fun b o e => s8 _ _ (s7 _ _ (s6 _ _ (s5 _ _ (s4 _ _ e))))
    have s18 : Same G1 G8 := fun b o e => s38 _ _ (s13 _ _ e)
    refine ⟨cl, p5, _, _, rfl, rfl, sqT_st s18 hc, .inl (.inl e8), ?_, fun c2 G9 s9 hc2 => ?_⟩
    · rw [List.length_map, PdAt.len _ _ hds]
      show _ + 1 ≤ sizeLine
      omega
    refine ⟨by show 3 ≤ sizeLine; omega, fun r nr => ?_⟩
    have s10 := same_new (o := .tup [.ref w2, .int key, .ref c2]) (Same.refl G9) nr
    have er : (upd G9 r (.tup [.ref w2, .int key, .ref c2])) r = some (.tup [.ref w2, .int key, .ref c2]) := upd_same
    generalize upd G9 r (.tup [.ref w2, .int key, .ref c2]) = G10 at s10 er
    have s1A : Same G1 G10 := fun b o e => s10 _ _ (s9 _ _ (s18 _ _ e))
    have s8A : Same G8 G10 := fun b o e => s10 _ _ (s9 _ _ e)
    refine q r G10 j _ (fun b o e => s1A _ _ (s1 _ _ e)) hwin ?_
    show PlAt K G10 (.mk (way ++ [name]) key (ds.snoc (ts.cut j))) r
    unfold PlAt
    refine ⟨w2, c2, das ++ [p4], .inl (.inl er), ?_, ?_, PdAt.snoc (sqT_st s8A (.inl (.inl (s8 _ _ e7)))) (PsAt.cut ts xs j (PsAt.mono (fun _ _ q => sqT_st s1A q) ts xs htsG)) _ _ (PdAt.mono (fun _ _ q => sqT_st s1A q) _ _ hds)⟩
    · rw [List.map_append]
      exact sqT_st (fun b o e => s10 _ _ (s9 _ _ (s38 _ _ e))) hw2
    · rw [List.map_append]
      exact sqT_st s10 hc2
end
end Kl

set_option maxRecDepth 100000
set_option maxHeartbeats 4000000
namespace Kl
open PySem PySem.Spec PyProof.Rows L2 Gx Mx
/-! ### facts of linked trees -/
theorem win_one {ts : Trs} {j j' : Nat} {t t' : Tr} (a : IsWin ts j t) (b : IsWin ts j' t') : j = j' ∧ t = t' := by
  obtain ⟨a1, a2, a3⟩ := a
  obtain ⟨b1, b2, b3⟩ := b
  have h1 := a2 t' (List.mem_of_getElem? b1)
  have h2 := b2 t (List.mem_of_getElem? a1)
  have e : j = j' := by
    rcases Nat.lt_trichotomy j j' with c | c | c
    · have := b3 j t c a1
      omega
    · exact c
    · have := a3 j' t' c b1
      omega
  subst e
  rw [a1] at b1
  exact ⟨rfl, Option.some.inj b1⟩
theorem Dgs.snoc_len (d : Trs) : ∀ ds : Dgs, (ds.snoc d).len = ds.len + 1
  | .nil => rfl
  | .cons e r => by
    show (r.snoc d).len + 1 = r.len + 1 + 1
    rw [Dgs.snoc_len d r]
theorem link_rank {name : Str} {ts : Trs} {j : Nat} {t : Tr} : (linkT name ts j t).rank = t.rank + 1 := Dgs.snoc_len _ _
theorem link_kind {name : Str} {ts : Trs} {j : Nat} {t : Tr} : (linkT name ts j t).kind = name := by
  show (t.way ++ [name]).getLastD "" = name
  rw [List.getLastD_eq_getLast?, List.getLast?_append]
  rfl
theorem link_way {name : Str} {ts : Trs} {j : Nat} {t : Tr} : (linkT name ts j t).way = t.way ++ [name] := rfl
theorem link_key {name : Str} {ts : Trs} {j : Nat} {t : Tr} : (linkT name ts j t).key = t.key := rfl
/-- some trees as Trs -/
def Trs.of : List Tr → Trs
  | [] => .nil
  | t :: l => .cons t (Trs.of l)
theorem Trs.of_list : ∀ l : List Tr, (Trs.of l).list = l
  | [] => rfl
  | t :: l => by
    show t :: (Trs.of l).list = t :: l
    rw [Trs.of_list l]
theorem win_is {ts : Trs} (h : ts.list ≠ []) : ∃ j t, IsWin ts j t := by
  obtain ⟨m, hm, hle⟩ : ∃ m, m ∈ ts.list.map Tr.key ∧ ∀ y ∈ ts.list.map Tr.key, m ≤ y := by
    have : ∀ l : List Int, l ≠ [] → ∃ m, m ∈ l ∧ ∀ y ∈ l, m ≤ y := fun l => by
      induction l with
      | nil => exact fun h => absurd rfl h
      | cons a l ih =>
        intro _
        by_cases e : l = []
        · subst e
          exact ⟨a, List.mem_cons_self, fun y hy => by rw [List.mem_singleton.mp hy]; exact Int.le_refl _⟩
        · obtain ⟨m, h1, h2⟩ := ih e
          by_cases c : a ≤ m
          · exact ⟨a, List.mem_cons_self, fun y hy => by
              rcases List.mem_cons.mp hy with rfl | hy
              · exact Int.le_refl _
              · exact Int.le_trans c (h2 y hy)⟩
          · exact ⟨m, List.mem_cons_of_mem _ h1, fun y hy => by
              rcases List.mem_cons.mp hy with rfl | hy
              · omega
              · exact h2 y hy⟩
    exact this _ fun e => h (List.map_eq_nil_iff.mp e)
  obtain ⟨j, hj, hf⟩ := first_at hm
  rw [List.getElem?_map] at hj
  obtain ⟨t, ht, rfl⟩ := Option.map_eq_some_iff.mp hj
  refine ⟨j, t, ht, fun u hu => hle _ (List.mem_map.mpr ⟨u, hu, rfl⟩), fun i u hi hu => ?_⟩
  have h1 := hle u.key (List.mem_map.mpr ⟨u, List.mem_of_getElem? hu, rfl⟩)
  have h2 := hf i u.key hi (by rw [List.getElem?_map, hu]; rfl)
  omega
end Kl

set_option maxRecDepth 100000
set_option maxHeartbeats 4000000
namespace Kl
open PySem PySem.Spec PyProof.Rows L2 Gx Mx
mutual
/-- no key is less than one above it -/
def Tr.ord : Tr → Prop
  | .mk _ k ds => ds.ord k
def Dgs.ord : Dgs → Int → Prop
  | .nil, _ => True
  | .cons d r, k => d.ord k ∧ r.ord k
def Trs.ord : Trs → Int → Prop
  | .nil, _ => True
  | .cons t r, k => k ≤ t.key ∧ t.ord ∧ r.ord k
end
mutual
def Tr.hi : Tr → Nat
  | .mk _ _ ds => ds.hi
def Dgs.hi : Dgs → Nat
  | .nil => 0
  | .cons d r => max d.hi r.hi
def Trs.hi : Trs → Nat
  | .nil => 0
  | .cons t r => max (t.hi + 1) r.hi
end
theorem Dgs.ord_get : ∀ {ds : Dgs} {k : Int} {d : Trs}, ds.ord k → d ∈ ds.list → d.ord k ∧ d.hi ≤ ds.hi
  | .nil, k, d, h, m => by cases m
  | .cons e r, k, d, h, m => by
    rw [Dgs.ord] at h
    rw [Dgs.hi]
    rcases List.mem_cons.mp (show d ∈ e :: r.list from m) with rfl | m
    · exact ⟨h.1, by omega⟩
    · obtain ⟨a, b⟩ := Dgs.ord_get h.2 m
      exact ⟨a, by omega⟩
theorem Trs.ord_get : ∀ {d : Trs} {k : Int} {t : Tr}, d.ord k → t ∈ d.list → k ≤ t.key ∧ t.ord ∧ t.hi + 1 ≤ d.hi
  | .nil, k, t, h, m => by cases m
  | .cons e r, k, t, h, m => by
    rw [Trs.ord] at h
    rw [Trs.hi]
    rcases List.mem_cons.mp (show t ∈ e :: r.list from m) with rfl | m
    · exact ⟨h.1, h.2.1, by omega⟩
    · obtain ⟨a, b, c⟩ := Trs.ord_get h.2.2 m
      exact ⟨a, b, by omega⟩
end Kl

set_option maxRecDepth 100000
set_option maxHeartbeats 4000000
namespace Kl
open PySem PySem.Spec PyProof.Rows L2 Gx Mx
theorem Paired.snoc {α β : Type} {F : α → β → Prop} {a : α} {b : β} (h : F a b) : ∀ {l₁ : List α} {l₂ : List β}, Paired F l₁ l₂ → Paired F (l₁ ++ [a]) (l₂ ++ [b])
  | _, _, .nil => .cons h .nil
  | _, _, .cons x r => .cons x (Paired.snoc h r)
theorem take_snoc {α : Type} {l : List α} {i : Nat} {x : α} (h : l[i]? = some x) : l.take (i + 1) = l.take i ++ [x] := by
  rw [List.take_add_one, h]
  rfl
theorem mak_nd {H : Hp} {kvs : List (Key × V)} {M : Mak} (h : MakAt H kvs M) (nd : (keysOf M).Nodup) : (kvs.map (·.1)).Nodup := by
  rw [h.keys]
  exact List.Pairwise.map Sum.inr (fun a b h q => h (Sum.inr.inj q)) nd
/-- an instance that was made -/
theorem made {C x dx md : Addr} {G H1 : Hp} (nx : G x = none) (ndx : G dx = none) (nmd : (upd (upd G dx (.own x)) x (.ins C dx [])) md = none) (keep : ∀ b o, b ≠ x → (upd (upd G dx (.own x)) x (.ins C dx [])) b = some o → H1 b = some o) : Same G H1 ∧ G md = none := by
  refine ⟨fun b u e => keep b u (ne_of_none e nx) (by rw [upd_ne (ne_of_none e nx), upd_ne (ne_of_none e ndx)]; exact e), ?_⟩
  have n1 : md ≠ x := fun z => by
    rw [z, upd_same] at nmd
    cases nmd
  rw [upd_ne n1] at nmd
  have n2 : md ≠ dx := fun z => by
    rw [z, upd_same] at nmd
    cases nmd
  rwa [upd_ne n2] at nmd
/-! ### sizes, rank by rank: the mathematics -/
abbrev Row := List (Str × Nat)
def keysR (R : Row) : List Str := R.map (·.1)
def lookR (R : Row) (z : Str) : Option Nat := (R.find? fun q => decide (q.1 = z)).map (·.2)
def getR (R : Row) (z : Str) : Nat := (lookR R z).getD 0
def fitsR (E : List Str) (ps : List Str) : Bool := ps.all fun p => decide (p ∈ E)
def aboveE (M : Mak) (E : List Str) : List Str := (M.filter fun m => fitsR E m.2).map (·.1)
def aboveR (M : Mak) (R : Row) : Row := (M.filter fun m => fitsR (keysR R) m.2).map fun m => (m.1, (m.2.map (getR R)).sum)
def rowsR (leaf : Str) (M : Mak) : Nat → Row
  | 0 => [(leaf, 1)]
  | r + 1 => aboveR M (rowsR leaf M r)
def setR (leaf : Str) (M : Mak) (r : Nat) : List Str := keysR (rowsR leaf M r)
theorem keys_above (M : Mak) (R : Row) : keysR (aboveR M R) = aboveE M (keysR R) := by
  unfold keysR aboveR aboveE
  rw [List.map_map]
  rfl
theorem set_succ (leaf : Str) (M : Mak) (r : Nat) : setR leaf M (r + 1) = aboveE M (setR leaf M r) := keys_above M _
theorem lookR_cons (q : Str × Nat) (R : Row) (z : Str) : lookR (q :: R) z = if q.1 = z then some q.2 else lookR R z := by
  unfold lookR
  rw [List.find?_cons]
  by_cases h : q.1 = z
  · rw [if_pos h, decide_eq_true h]
    rfl
  · rw [if_neg h, decide_eq_false h]
theorem lookR_in {R : Row} {z : Str} (h : z ∈ keysR R) : ∃ n, lookR R z = some n := by
  induction R with
  | nil => cases h
  | cons q R ih =>
    rw [lookR_cons]
    by_cases e : q.1 = z
    · exact ⟨q.2, if_pos e⟩
    · rw [if_neg e]
      rcases List.mem_cons.mp (show z ∈ q.1 :: keysR R from h) with h | h
      · exact absurd h.symm e
      · exact ih h
theorem lookR_no {R : Row} {z : Str} (h : z ∉ keysR R) : lookR R z = none := by
  induction R with
  | nil => rfl
  | cons q R ih =>
    have h' : ¬ (z = q.1 ∨ z ∈ keysR R) := fun c => h (List.mem_cons.mpr c)
    rw [lookR_cons, if_neg fun e => h' (.inl e.symm)]
    exact ih fun c => h' (.inr c)
/-- the dict of a row -/
def rowK (R : Row) : List (Key × V) := R.map fun q => (Sum.inr q.1, V.int (q.2 : Nat))
theorem rowK_keys (R : Row) : (rowK R).map (·.1) = (keysR R).map Sum.inr := by
  unfold rowK keysR
  rw [List.map_map, List.map_map]
  rfl
theorem rowK_len (R : Row) : (rowK R).length = R.length := List.length_map _
theorem rowK_look (R : Row) (z : Str) : valV (rowK R) (Sum.inr z) = (lookR R z).map fun n => V.int (n : Nat) := by
  induction R with
  | nil => rfl
  | cons q R ih =>
    rw [lookR_cons]
    show valV ((Sum.inr q.1, V.int (q.2 : Nat)) :: rowK R) _ = _
    by_cases e : q.1 = z
    · rw [if_pos e, valV_pos (by rw [e])]
      rfl
    · rw [if_neg e, valV_neg fun c => e (Sum.inr.inj c)]
      exact ih
theorem rowK_get {R : Row} {z : Str} (h : z ∈ keysR R) : valV (rowK R) (Sum.inr z) = some (.int (getR R z : Nat)) := by
  obtain ⟨n, e⟩ := lookR_in h
  rw [rowK_look, e]
  unfold getR
  rw [e]
  rfl
/-! ### names -/
structure Fin6 (leaf : Str) (M : Mak) (ns : List Str) : Prop where
  v : Vld leaf M
  srt : sortedS (keysOf M) = true
  n : IsNames leaf (keysOf M) ns
theorem set_sub {leaf : Str} {M : Mak} : ∀ (r : Nat), ∀ z ∈ setR leaf M r, z = leaf ∨ z ∈ keysOf M
  | 0, z, h => .inl (List.mem_singleton.mp h)
  | r + 1, z, h => by
    rw [set_succ] at h
    obtain ⟨m, hm, rfl⟩ := List.mem_map.mp h
    exact .inr (List.mem_map.mpr ⟨m, (List.mem_filter.mp hm).1, rfl⟩)
theorem above_sub (M : Mak) (E : List Str) : (aboveE M E).Sublist (keysOf M) := List.Sublist.map _ List.filter_sublist
theorem set_srt {leaf : Str} {M : Mak} (s : sortedS (keysOf M) = true) : ∀ r, sortedS (setR leaf M r) = true
  | 0 => (sortedS_iff [leaf]).mpr (List.pairwise_singleton _ _)
  | r + 1 => by
    rw [set_succ]
    exact sortedS_sub s (above_sub M _)
theorem set_nd {leaf : Str} {M : Mak} (d : (keysOf M).Nodup) : ∀ r, (setR leaf M r).Nodup
  | 0 => List.nodup_cons.mpr ⟨List.not_mem_nil, List.nodup_nil⟩
  | r + 1 => by
    rw [set_succ]
    exact d.sublist (above_sub M _)
theorem set_len {leaf : Str} {M : Mak} (v : Vld leaf M) (r : Nat) : (setR leaf M r).length ≤ 6 := v.few _ (set_nd v.nd r) (set_sub r)
theorem rows_len {leaf : Str} {M : Mak} (v : Vld leaf M) (r : Nat) : (rowsR leaf M r).length ≤ 6 := by
  have h := set_len v r
  unfold setR keysR at h
  rw [List.length_map] at h
  exact h
theorem rows_nd {leaf : Str} {M : Mak} (d : (keysOf M).Nodup) (r : Nat) : ((rowK (rowsR leaf M r)).map (·.1)).Nodup := by
  rw [rowK_keys]
  exact List.Pairwise.map Sum.inr (fun a b h q => h (Sum.inr.inj q)) (set_nd d r)
/-! ### sizes are small -/
theorem sum_le {l : List Nat} {b k : Nat} (h : ∀ x ∈ l, x ≤ b) (hl : l.length ≤ k) : l.sum ≤ k * b := by
  induction l generalizing k with
  | nil => exact Nat.zero_le _
  | cons x l ih =>
    rw [List.length_cons] at hl
    obtain ⟨j, rfl⟩ : ∃ j, k = j + 1 := ⟨k - 1, by omega⟩
    have h1 := h x List.mem_cons_self
    have h2 := ih (k := j) (fun y hy => h y (List.mem_cons_of_mem _ hy)) (by omega)
    rw [List.sum_cons, Nat.add_mul, Nat.one_mul]
    omega
theorem getR_le {R : Row} {b : Nat} (h : ∀ q ∈ R, q.2 ≤ b) (z : Str) : getR R z ≤ b := by
  unfold getR
  cases e : lookR R z with
  | none => exact Nat.zero_le _
  | some n =>
    unfold lookR at e
    obtain ⟨q, hq, e2⟩ := Option.map_eq_some_iff.mp e
    have := h q (List.mem_of_find?_eq_some hq)
    show n ≤ b
    omega
theorem rows_le {leaf : Str} {M : Mak} (v : Vld leaf M) : ∀ r, ∀ q ∈ rowsR leaf M r, q.2 ≤ 3 ^ r
  | 0, q, h => by
    rw [List.mem_singleton.mp h]
    exact Nat.le_refl 1
  | r + 1, q, h => by
    obtain ⟨m, hm, rfl⟩ := List.mem_map.mp (show q ∈ aboveR M (rowsR leaf M r) from h)
    have ih := rows_le v r
    obtain ⟨_, _, l3, _⟩ := v.parts m (List.mem_filter.mp hm).1
    have h1 := sum_le (l := m.2.map (getR (rowsR leaf M r))) (b := 3 ^ r) (k := 3) (fun x hx => by
      obtain ⟨z, _, rfl⟩ := List.mem_map.mp hx
      exact getR_le ih z) (by rw [List.length_map]; exact l3)
    show (m.2.map (getR (rowsR leaf M r))).sum ≤ 3 ^ (r + 1)
    rw [Nat.pow_succ]
    omega
/-! ### the sets come again -/
def subs : List Str → List (List Str)
  | [] => [[]]
  | a :: l => subs l ++ (subs l).map (a :: ·)
theorem subs_len : ∀ l : List Str, (subs l).length = 2 ^ l.length
  | [] => rfl
  | a :: l => by
    show (subs l ++ (subs l).map (a :: ·)).length = _
    rw [List.length_append, List.length_map, subs_len l, List.length_cons, Nat.pow_succ]
    omega
theorem subs_mem : ∀ {s l : List Str}, s.Sublist l → s ∈ subs l
  | _, _, .slnil => List.mem_singleton.mpr rfl
  | _, _, .cons a h => List.mem_append.mpr (.inl (subs_mem h))
  | _, _, .cons_cons a h => List.mem_append.mpr (.inr (List.mem_map.mpr ⟨_, subs_mem h, rfl⟩))
theorem nodup_len {α : Type} [DecidableEq α] : ∀ {xs ys : List α}, xs.Nodup → (∀ z ∈ xs, z ∈ ys) → xs.length ≤ ys.length
  | [], ys, _, _ => Nat.zero_le _
  | x :: xs, ys, hn, hs => by
    rw [List.nodup_cons] at hn
    have hx : x ∈ ys := hs x List.mem_cons_self
    have h1 := nodup_len (ys := ys.erase x) hn.2 fun z hz => (List.mem_erase_of_ne (fun e => hn.1 (by rw [e] at hz; exact hz))).mpr (hs z (List.mem_cons_of_mem _ hz))
    rw [List.length_erase_of_mem hx] at h1
    have : 0 < ys.length := List.length_pos_of_mem hx
    rw [List.length_cons]
    omega
theorem sorted_sublist {l m : List Str} (hl : sortedS l = true) (hm : sortedS m = true) (dl : l.Nodup) (dm : m.Nodup) (h : ∀ z ∈ l, z ∈ m) : l.Sublist m := by
  have e : l = m.filter (fun z => decide (z ∈ l)) := sorted_same hl (sortedS_sub hm List.filter_sublist) dl (dm.sublist List.filter_sublist) fun z => by
    rw [List.mem_filter, decide_eq_true_iff]
    exact ⟨fun q => ⟨h z q, q⟩, fun q => q.2⟩
  rw [e]
  exact List.filter_sublist
theorem set_again {leaf : Str} {M : Mak} {ns : List Str} (f : Fin6 leaf M ns) (n : Nat) (hn : ∀ i j, i < j → j ≤ n → setR leaf M i ≠ setR leaf M j) : n < 64 := by
  have nd : ((List.range (n + 1)).map (setR leaf M)).Nodup := by
    rw [List.nodup_iff_pairwise_ne, List.pairwise_map]
    refine List.Pairwise.imp_of_mem ?_ (List.pairwise_lt_range (n := n + 1))
    intro a b _ hb h
    exact hn a b h (by have := List.mem_range.mp hb; omega)
  have l6 : ns.length ≤ 6 := f.v.few ns f.n.nd fun z hz => (f.n.mem z).mp hz
  have h1 := nodup_len nd (ys := subs ns) fun s hs => by
    obtain ⟨i, _, rfl⟩ := List.mem_map.mp hs
    exact subs_mem (sorted_sublist (set_srt f.srt i) f.n.srt (set_nd f.v.nd i) f.n.nd fun z hz => (f.n.mem z).mpr (set_sub i z hz))
  rw [List.length_map, List.length_range, subs_len] at h1
  have : 2 ^ ns.length ≤ 2 ^ 6 := Nat.pow_le_pow_right (by omega) l6
  omega
/-- L ranks are not alike, and the one behind them is like the one at t -/
structure Turn (leaf : Str) (M : Mak) (L t : Nat) : Prop where
  lt : t < L
  few : L ≤ 64
  ne : ∀ i j, i < j → j < L → setR leaf M i ≠ setR leaf M j
  eq : setR leaf M t = setR leaf M L
end Kl

set_option maxRecDepth 100000
set_option maxHeartbeats 4000000
namespace L2
open PySem PySem.Spec PyProof.Rows
/-! ### own rules: list.remove of a text, sums of tuples -/
def eqS (z : Str) (u : Value) : Bool := match u with
  | .str y _ => y == z
  | _ => false
theorem eqS_gives {z : Str} {t : Tok} : ∀ {zs : List Str} {us : List Value}, Vals (zs.map V.str) us → ∀ y ∈ us, MeetsSeq.EqGives y (.str z t) (eqS z y)
  | [], _, .nil => fun y hy => nomatch hy
  | x :: zs, _, .cons r rest => fun y hy => by
    obtain ⟨k, rfl⟩ := r
    rcases List.mem_cons.mp hy with rfl | hy
    · show MeetsSeq.EqGives _ _ (x == z)
      rw [← SeqAt.str_beq]
      exact SeqRoads2.EqGives.str x z k t
    · exact eqS_gives rest y hy
theorem eqS_at {z : Str} : ∀ {zs : List Str} {us : List Value}, Vals (zs.map V.str) us → ∀ (m : Nat) (h : m < us.length), eqS z us[m] = true ↔ zs[m]? = some z
  | [], _, .nil, m, h => absurd h (Nat.not_lt_zero _)
  | x :: zs, _, .cons r rest, 0, _ => by
    obtain ⟨k, rfl⟩ := r
    show (x == z) = true ↔ some x = some z
    rw [beq_iff_eq, Option.some_inj]
  | x :: zs, _, .cons r rest, m + 1, h => eqS_at rest m (Nat.lt_of_succ_lt_succ h)
theorem erase_mapS : ∀ (l : List Str) (j : Nat), (l.map V.str).eraseIdx j = (l.eraseIdx j).map V.str
  | [], j => by simp
  | a :: r, 0 => by simp
  | a :: r, j + 1 => by
    have ih := erase_mapS r j
    simp [ih]
section
variable {X : Cx}
def rRemS : V → List V → Hp → VK → Prop := fun x xs H Q => ∃ (l : Addr) (zs : List Str) (z : Str) (j : Nat), x = .ref l ∧ xs = [.str z] ∧ H l = some (.lst (zs.map V.str)) ∧ zs[j]? = some z ∧ (∀ m : Nat, m < j → zs[m]? ≠ some z) ∧ Q .non (upd H l (.lst ((zs.eraseIdx j).map V.str)))
theorem mt_removeS : MtM X "list.remove" rRemS := by
  intro pins s σ H x xs v us Q I rx rxs h
  obtain ⟨l, zs, z, j, rfl, rfl, hH, hj, hno, q⟩ := h
  cases rx
  obtain ⟨u, rfl, ru⟩ := rxs.one
  obtain ⟨t, rfl⟩ := ru
  obtain ⟨hz, its, n, r, hl, e⟩ := I.lstM hH
  rw [List.length_map] at hl hz
  have hjn : j < zs.length := (List.getElem?_eq_some_iff.mp hj).1
  have hjl : j < its.toArray.size := by rw [List.size_toArray]; omega
  refine call_meets PySem.F.slot_list_remove ⟨_, e, rfl⟩ PySem.F.entry_list_remove (PySem.F.args_list_remove_2 _ _)
    (MeetsSeq.list_remove l its.toArray n (.str z t) (eqS z) (fun y hy => eqS_gives r y (by simpa using hy)) j hjl ?_ ?_ (by rw [List.size_toArray]; omega)) ⟨e, ?_⟩
  · exact (eqS_at r j (by simpa using hjl)).mpr hj
  · intro m hm hmj
    cases c : eqS z its.toArray[m] with
    | false => rfl
    | true => exact absurd ((eqS_at r m (by simpa using hm)).mp c) (hno m hmj)
  · have rr := r.eraseIdx j
    rw [erase_mapS] at rr
    refine ⟨.non, _, I.lset (its' := its.eraseIdx j) (t' := s.toks) hH e ?_ rr ?_, rfl, q⟩
    · show its.toArray.eraseIdxIfInBounds j = (its.eraseIdx j).toArray
      rw [List.eraseIdxIfInBounds_toArray]
    · rw [List.length_map]
      have : (zs.eraseIdx j).length ≤ zs.length := by rw [List.length_eraseIdx]; split <;> omega
      omega
/-- t + u, whichever object it is -/
def rCatC : R2 := fun x y H Q => ∃ a b xs ys, x = .ref a ∧ y = .ref b ∧ H a = some (.tup xs) ∧ H b = some (.tup ys) ∧ xs.length + ys.length ≤ sizeLine ∧ ∀ p G, (∀ c o, H c = some o → G c = some o) → G p = some (.tup (xs ++ ys)) → Q (.ref p) G
theorem op_catC : OpR X (binaryOp .Add) rCatC := by
  intro pins s σ H x y v u Q I rx ry h
  obtain ⟨a, b, xs, ys, rfl, rfl, ha, hb, hz, q⟩ := h
  refine op_catA pins s σ H _ _ v u Q I rx ry ⟨a, b, xs, ys, rfl, rfl, .inl (.inl ha), .inl (.inl hb), hz, fun e => q b H (fun _ _ e => e) (by rw [e]; exact hb), fun _ e => q a H (fun _ _ e => e) (by rw [e, List.append_nil]; exact ha), fun _ _ p np => q p _ (fun c o e => ?_) upd_same⟩
  rw [upd_ne (fun z => by rw [z, np] at e; cases e)]
  exact e
end
end L2

set_option maxRecDepth 100000
set_option maxHeartbeats 4000000
namespace Kl
open PySem PySem.Spec PyProof.Rows L2 Gx Mx
section
variable {P : Program} {w : World} {K : PySem.W.Frag} {mg : Str → Option Value} {base : Heap}
/-! ### trimmed -/
theorem cut_to0 {xs : List V} (n : Nat) : cutV xs none (some ((n : Nat) : Int)) = xs.take n := by
  unfold cutV
  rw [HT.sIx_nat, HT.sIx_none, List.drop_zero, Nat.sub_zero]
  by_cases h : n ≤ xs.length
  · rw [Nat.min_eq_left h]
  · rw [Nat.min_eq_right (by omega), List.take_length, List.take_of_length_le (by omega)]
end
end Kl

set_option maxRecDepth 100000
set_option maxHeartbeats 4000000
namespace Kl
open PySem PySem.Spec PyProof.Rows L2 Gx Mx
theorem erase_map {α β : Type} (f : α → β) : ∀ (l : List α) (k : Nat), (l.map f).eraseIdx k = (l.eraseIdx k).map f
  | [], _ => rfl
  | _ :: _, 0 => rfl
  | x :: l, k + 1 => congrArg (f x :: ·) (erase_map f l k)
theorem erase_perm {α : Type} : ∀ (l : List α) (k : Nat) (x : α), l[k]? = some x → (x :: l.eraseIdx k).Perm l
  | [], _, _, h => by simp at h
  | y :: l, 0, x, h => by
    simp at h
    subst h
    exact List.Perm.refl _
  | y :: l, k + 1, x, h => by
    have ih := erase_perm l k x h
    exact (List.Perm.swap y x (l.eraseIdx k)).trans (ih.cons y)
section
variable {P : Program} {w : World} {K : PySem.W.Frag} {mg : Str → Option Value} {base : Heap}
/-! ### _law_mixed -/
def spMixed (K : PySem.W.Frag) : Sp := fun vs H Q _ => ∃ (d p : Addr) (zs : List Str), vs = [.ref d, .ref p] ∧ DiceAt H d ∧ p ≠ d ∧ SqL K H p (zs.map V.str) ∧ zs.length ≤ 1000 ∧
  ∀ (q : Addr) (H' : Hp) (ys : List Str), ys.Perm zs → H q = none → H' q = some (.lst (ys.map V.str)) → SameX d H H' → DiceAt H' d → Q (.ref q) H'
theorem seqI {r : Int} {n : Nat} (h0 : 0 ≤ r) (h1 : r < n) : seqIndex? r n = some r.toNat := by
  have e : ¬ r < 0 := by omega
  simp [seqIndex?, e, h0, h1]
theorem ok_mixed {f : Addr} {fd : FuncData} (F : Fun K "_law_mixed" "_law_mixed" s_law_mixed f fd) (T : Top K mg) : FnOk P w K mg base CX0 2 f fd ["_law_dice_here", "_law_items"] (spMixed K) := by
  have cr : Cal P w K mg base 1 "_law_roll" ["_law_dice_here", "_law_total"] spRoll := T.d_law_roll.cal fun f fd F => ok_roll F T
  refine F.ok sc_law_mixed (fun vs H Q E h => ?_) (fun cdv A outer s H vs Q E hr h => ?_)
  · obtain ⟨d, p, zs, rfl, _⟩ := h
    rfl
  · obtain ⟨d, p, zs, rfl, hd, hpd, hs, hl, q⟩ := h
    refine ⟨_, pss_cons (ps_par (i := 2) (j := 3) rfl sc_law_mixed.nd rfl rfl (by decide) rfl rfl (pa_cons (pe_callTy call_list_of (by rfl) T.b_list (by decide +kernel) (pa_cons (pv 1) pa_nil)) (pa_cons (pe_lst pa_nil) pa_nil)) rfl)
      (pss_cons (ps_for PassesOwn.never rfl (pi_range1 (by rfl) T.b_range (pa_cons (pe_callB call_len_seq (by rfl) T.b_len PySem.boot_len (pa_cons (pv 1) pa_nil)) pa_nil)) (pg_name (i := 4) sc_law_mixed.nd rfl (.inl rfl))
        (pss_one (ps_expr (pe_bm PySem.F.plainAttrs_list PySem.F.slot_list_append PySem.F.type_list_append mt_append (pv 3) (pa_cons
          (pe_bm PySem.F.plainAttrs_list PySem.F.slot_list_pop PySem.F.type_list_pop mt_popAt (pv 2) (pa_cons (pe_cal cr hr (by rfl) (pa_cons (pv 0) (pa_cons (pe_callB call_len_seq (by rfl) T.b_len PySem.boot_len (pa_cons (pv 2) pa_nil)) pa_nil))) pa_nil)) pa_nil)))))
      (pss_one (ps_ret (pv 3)))), ?_⟩
    have ln : (zs.map V.str).length = zs.length := List.length_map _
    refine ⟨_, rfl, p, _, rfl, .inl hs, fun l nl => ?_⟩
    have hld : l ≠ d := dice_ne hd nl
    refine ⟨Nat.zero_le _, fun q' nq => ?_⟩
    have hql : q' ≠ l := fun z => by
      rw [z, upd_same] at nq
      cases nq
    have nq0 : H q' = none := by rwa [upd_ne hql] at nq
    have hqd : q' ≠ d := dice_ne hd nq0
    have hp2 : SqL K (upd (upd H l (.lst (zs.map V.str))) q' (.lst [])) p (zs.map V.str) := by
      have s2 : Same H (upd (upd H l (.lst (zs.map V.str))) q' (.lst [])) := same_new (same_new (Same.refl H) nl) nq
      rcases hs with (h | ⟨o, h⟩) | h
      · exact .inl (.inl (s2 _ _ h))
      · exact .inl (.inr ⟨o, s2 _ _ h⟩)
      · exact .inr h
    refine ⟨_, _, rfl, _, rfl, p, _, rfl, .inl hp2, _, rfl, by omega, by omega, ?_⟩
    rw [ln]
    refine for_range (lo := 0) (fun i σ' H' => ∃ t, ∃ ls fs : List Str, σ' = [some (.ref d), some (.ref p), some (.ref l), some (.ref q'), t] ∧ H' l = some (.lst (ls.map V.str)) ∧ H' q' = some (.lst (fs.map V.str)) ∧ fs.length = i ∧ (fs ++ ls).Perm zs ∧ SameX d H H' ∧ DiceAt H' d)
      ⟨none, zs, [], rfl, ?_, upd_same, rfl, List.Perm.refl _, ?_, ?_⟩ (fun i σ' H' hi hP => ?_) (fun σ' H' hP => ?_)
    · rw [upd_ne hql.symm, upd_same]
    · exact ((SameX.refl d H).at nl).at nq0
    · exact dice_upd (dice_upd hd hld) hqd
    · obtain ⟨t, ls, fs, rfl, el, eq, lf, hp, sx, hd'⟩ := hP
      have lz := hp.length_eq
      rw [List.length_append] at lz
      have l1 : 0 < ls.length := by omega
      have lm : (ls.map V.str).length = ls.length := List.length_map _
      refine ⟨_, rfl, ⟨.inl ⟨rfl, _, .inl (.inl eq)⟩, ?_⟩⟩
      refine ⟨_, rfl, ⟨.inl ⟨rfl, _, .inl (.inl el)⟩, ?_⟩⟩
      refine ⟨_, rfl, _, rfl, l, _, rfl, .inl (.inl (.inl el)), d, _, rfl, hd', by rw [lm]; omega, by rw [lm]; exact log2_small (by omega), fun r x b c h0 h1 => ?_⟩
      rw [lm] at h1
      obtain ⟨k, rfl⟩ := Int.eq_ofNat_of_zero_le h0
      have hk : k < ls.length := by omega
      have ek : (ls.map V.str)[k]? = some (.str ls[k]) := by rw [List.getElem?_map, List.getElem?_eq_getElem hk]; rfl
      refine ⟨l, ls.map V.str, (k : Int), k, _, rfl, rfl, by rw [upd_ne hld]; exact el, by omega, by omega, by rw [lm]; exact seqI h0 h1, ek, ?_⟩
      refine ⟨q', fs.map V.str, _, rfl, rfl, by rw [upd_ne hql, upd_ne hqd]; exact eq, ?_, ?_⟩
      · rw [List.length_map]
        exact Nat.lt_of_le_of_lt (show fs.length ≤ 1000 by omega) (by decide)
      · refine ⟨_, ls.eraseIdx k, fs ++ [ls[k]], rfl, ?_, ?_, by rw [List.length_append, lf]; rfl, ?_, ?_, ?_⟩
        · rw [upd_ne hql.symm, upd_same, erase_map]
        · rw [upd_same, List.map_append]
          rfl
        · have e1 := erase_perm ls k _ (List.getElem?_eq_getElem hk)
          rw [List.append_assoc]
          exact (e1.append_left fs).trans hp
        · exact (sx.atd.at nl).at nq0
        · exact dice_upd (dice_upd (dice_new x b c) hld) hqd
    · obtain ⟨t, ls, fs, rfl, el, eq, lf, hp, sx, hd'⟩ := hP
      have lz := hp.length_eq
      rw [List.length_append] at lz
      have e0 : ls = [] := List.eq_nil_of_length_eq_zero (by omega)
      rw [e0, List.append_nil] at hp
      exact ⟨_, rfl, q q' H' fs hp nq0 eq sx hd'⟩
end
end Kl

set_option maxRecDepth 100000
set_option maxHeartbeats 4000000
namespace Kl
open PySem PySem.Spec PyProof.Rows L2 Gx Mx
def EIGHT : List Str := ["a", "b", "ab", "aa", "leaf", "page", "to", "zzzzzzzz"]
theorem eight_nd : EIGHT.Nodup := by decide +kernel
theorem eight_ok : EIGHT.all nameB = true := by decide +kernel
section
variable {P : Program} {w : World} {K : PySem.W.Frag} {mg : Str → Option Value} {base : Heap}
/-! ### _law_pool_names, _law_drawn_digit -/
def spPN : Sp := fun vs H Q _ => ∃ (d : Addr) (n : Nat), vs = [.ref d, .int (n : Nat)] ∧ n ≤ 8 ∧ DiceAt H d ∧
  ∀ (p : Addr) (zs : List Str) H', SameX d H H' → DiceAt H' d → H p = none → H' p = some (.lst (zs.map V.str)) → zs.Nodup → (∀ z ∈ zs, z ∈ EIGHT) → zs.length = n → Q (.ref p) H'
theorem ok_pn {f : Addr} {fd : FuncData} (F : Fun K "_law_pool_names" "_law_pool_names" s_law_pool_names f fd) (T : Top K mg) : FnOk P w K mg base CX0 3 f fd ["_law_dice_here", "_law_many"] spPN := by
  have cm : Cal P w K mg base 2 "_law_mixed" ["_law_dice_here", "_law_items"] (spMixed K) := T.d_law_mixed.cal fun f fd F => ok_mixed F T
  refine F.ok sc_law_pool_names (fun vs H Q E h => ?_) (fun cdv A outer s H vs Q E hr h => ?_)
  · obtain ⟨d, n, rfl, _⟩ := h
    rfl
  · obtain ⟨d, n, rfl, hn, hd, q⟩ := h
    refine ⟨_, pss_one (ps_ret (pe_slice sl_list (pe_cal cm hr (by rfl) (pa_cons (pv 0) (pa_cons (pe_lst (pa_cons pe_str (pa_cons pe_str (pa_cons pe_str (pa_cons pe_str (pa_cons pe_str (pa_cons pe_str (pa_cons pe_str (pa_cons pe_str pa_nil))))))))) pa_nil))) po_none (po_some (pv 1)))), ?_⟩
    have big : 100000 ≤ sizeLine := by decide
    refine ⟨_, rfl, by show 8 ≤ sizeLine; omega, fun pool np => ?_⟩
    have hpd : pool ≠ d := dice_ne hd np
    have hd1 := dice_upd (o := .lst (EIGHT.map V.str)) hd hpd
    have sx1 : SameX d H (upd H pool (.lst (EIGHT.map V.str))) := (SameX.refl d H).at np
    refine ⟨d, pool, EIGHT, rfl, hd1, hpd, .inl (.inl upd_same), by decide, fun lm H2 ys hperm nlm elm sx2 hd2 => ?_⟩
    have sxa := sx1.trans sx2
    have hlmd : lm ≠ d := dice_ne hd1 nlm
    have l8 : ys.length = 8 := hperm.length_eq
    refine ⟨_, rfl, _, rfl, lm, _, rfl, .inl (.inl elm), fun l nl => ?_⟩
    have ec : cutV (ys.map V.str) none (some ((n : Nat) : Int)) = (ys.take n).map V.str := by
      rw [cut_to0, List.map_take]
    rw [ec]
    have hld : l ≠ d := dice_ne hd2 nl
    refine q l (ys.take n) _ (sxa.new nl) (dice_upd hd2 hld) (sxa.free hld nl) upd_same ((hperm.nodup_iff.mpr eight_nd).sublist (List.take_sublist _ _)) (fun z hz => hperm.mem_iff.mp (List.mem_of_mem_take hz)) ?_
    rw [List.length_take]
    omega
end
end Kl

set_option maxRecDepth 100000
set_option maxHeartbeats 4000000
namespace Kl
open PySem PySem.Spec PyProof.Rows L2 Gx Mx
end Kl

set_option maxRecDepth 100000
set_option maxHeartbeats 4000000
namespace Kl
open PySem PySem.Spec PyProof.Rows L2 Gx Mx
/-- a book of kinds as the law writes it -/
def bookK (leaf : Str) (mk : Addr) : List (Key × V) := [(Sum.inr "leaf", .str leaf), (Sum.inr "makings", .ref mk)]
theorem book_leaf (leaf : Str) (mk : Addr) : valV (bookK leaf mk) (Sum.inr "leaf") = some (.str leaf) := valV_pos rfl
theorem book_mak (leaf : Str) (mk : Addr) : valV (bookK leaf mk) (Sum.inr "makings") = some (.ref mk) := by
  unfold bookK
  rw [valV_neg (by show ¬ (Sum.inr ("leaf" : Str) : Key) = Sum.inr ("makings" : Str); decide +kernel), valV_pos rfl]
section
variable {P : Program} {w : World} {K : PySem.W.Frag} {mg : Str → Option Value} {base : Heap}
/-! ### _check_kinds, _law_made_kinds -/
def spMade (C : Addr) : Sp := fun vs H Q _ => ∃ (pl mk : Addr) (leaf : Str) (kvs : List (Key × V)) (M : Mak), vs = [V.ref pl] ∧ H pl = some (.dK (bookK leaf mk)) ∧ H mk = some (.dK kvs) ∧ MakAt H kvs M ∧ Vld leaf M ∧
  ∀ (x md : Addr) (M' : Mak) (ns : List Str) H', KindsAt C H' x md leaf M' ns → OrdOf M M' → IsNames leaf (keysOf M) ns → Same H H' → Q (.ref x) H'
theorem ok_made {C f : Addr} {fd : FuncData} (F : Fun K "_law_made_kinds" "_law_made_kinds" s_law_made_kinds f fd) (T : Top K mg) (TC : Cl_Kinds K mg C) : FnOk P w K mg base CX0 8 f fd ["_law_plain"] (spMade C) := by
  have kI : CalI P w K mg base C 6 ["self", "leaf", "makings"] (spInit C) := by
    obtain ⟨f, fd, m, F, b⟩ := TC.made
    exact ⟨f, fd, m, ok_init F T TC, b⟩
  refine F.ok sc_law_made_kinds (fun vs H Q E h => ?_) (fun cdv A outer s H vs Q E hr h => ?_)
  · obtain ⟨pl, mk, leaf, kvs, M, rfl, _⟩ := h
    rfl
  · obtain ⟨pl, mk, leaf, kvs, M, rfl, epl, emk, hM, hV, q⟩ := h
    have hu := hu_of hr
    refine ⟨_, pss_one (ps_ret (pe_makeC kI hr (by rfl) TC.gC (pa_cons (pe_dget hu (pv 0) pe_str (fun _ _ => rfl)) (pa_cons (pe_dget hu (pv 0) pe_str (fun _ _ => rfl)) pa_nil)))), ?_⟩
    refine ⟨_, rfl, pl, .str leaf, rfl, .inl ⟨_, Sum.inr "leaf", .inl epl, rfl, (book_leaf leaf mk).symm⟩, _, rfl, pl, .ref mk, rfl, .inl ⟨_, Sum.inr "makings", .inl epl, rfl, (book_mak leaf mk).symm⟩, fun x dx nx ndx nxx => ⟨x, dx, leaf, mk, kvs, M, rfl, upd_same, ?_, ?_, hV, fun G2 md M' ns hK hOr hN nmd keep => ⟨rfl, ?_⟩⟩⟩
    · rw [upd_ne (ne_of_none emk nx), upd_ne (ne_of_none emk ndx)]
      exact emk
    · exact hM.same fun a xs h => h.at fun o e => by rw [upd_ne (ne_of_none e nx), upd_ne (ne_of_none e ndx)]; exact e
    · obtain ⟨s1, _⟩ := made nx ndx nmd keep
      exact q x md M' ns G2 hK hOr hN s1
end
end Kl

set_option maxRecDepth 100000
set_option maxHeartbeats 4000000
namespace Kl
open PySem PySem.Spec PyProof.Rows L2 Gx Mx
theorem cr_allK {X : Cx} {K : PySem.W.Frag} (hk : X.K = K) (hc : X.calm = true) : CallR X (.builtin "all") (rAll K) := by
  subst hk
  exact cr_all hc
theorem cr_sumK {X : Cx} {K : PySem.W.Frag} (hk : X.K = K) (hc : X.calm = true) : CallR X (.builtin "sum") (rSum K) := by
  subst hk
  exact cr_sum hc
end Kl

set_option maxRecDepth 100000
set_option maxHeartbeats 4000000
namespace Kl
open PySem PySem.Spec PyProof.Rows L2 Gx Mx
theorem TupZ.samex {d a : Addr} {H H' : Hp} {xs : List V} (h : TupZ H a xs) (hd : DiceAt H d) (s : SameX d H H') : TupZ H' a xs := by
  obtain ⟨_, _, _, e⟩ := hd
  exact h.at fun o q => s _ _ (h.ne e (fun _ => nofun)) q
theorem MakAt.samex {d : Addr} {H H' : Hp} {kvs : List (Key × V)} {M : Mak} (h : MakAt H kvs M) (hd : DiceAt H d) (s : SameX d H H') : MakAt H' kvs M := h.same fun _ _ q => q.samex hd s
theorem sub_len : ∀ {xs ys : List Str}, xs.Nodup → (∀ z ∈ xs, z ∈ ys) → xs.length ≤ ys.length
  | [], ys, _, _ => Nat.zero_le _
  | x :: xs, ys, nd, hs => by
    have nd' := List.nodup_cons.mp nd
    have hx : x ∈ ys := hs x List.mem_cons_self
    have ih := sub_len nd'.2 (ys := ys.erase x) fun y hy => (List.mem_erase_of_ne (fun q => nd'.1 (by rw [← q]; exact hy))).mpr (hs y (List.mem_cons_of_mem _ hy))
    have e := List.length_erase_of_mem hx
    have p : 0 < ys.length := List.length_pos_of_mem hx
    rw [List.length_cons]
    omega
/-- the makings so far, of the first i names -/
structure Sofar (ns : List Str) (leaf : Str) (i : Nat) (M : Mak) : Prop where
  nd : (keysOf M).Nodup
  sub : ∀ z ∈ keysOf M, z ∈ ns.take i
  all : ∀ z ∈ ns.take i, z ≠ leaf → z ∈ keysOf M
  parts : ∀ m ∈ M, sortedS m.2 = true ∧ 2 ≤ m.2.length ∧ m.2.length ≤ 3 ∧ ∀ p ∈ m.2, p ∈ ns
theorem Sofar.vld {ns : List Str} {leaf : Str} {M : Mak} (h : Sofar ns leaf ns.length M) (hl : leaf ∈ ns) (hp : ∀ z ∈ ns, z ∈ POOL) (h6 : ns.length ≤ 6) : Vld leaf M := by
  have e : ns.take ns.length = ns := List.take_length
  refine ⟨hp _ hl, fun z hz => hp z (by have := h.sub z hz; rwa [e] at this), h.nd, fun m hm => ?_, fun ms nd hs => ?_⟩
  · obtain ⟨p1, p2, p3, p4⟩ := h.parts m hm
    refine ⟨p1, p2, p3, fun p hpm => ?_⟩
    by_cases c : p = leaf
    · exact .inl c
    · exact .inr (h.all p (by rw [e]; exact p4 p hpm) c)
  · refine Nat.le_trans (sub_len nd (ys := ns) fun z hz => ?_) h6
    rcases hs z hz with rfl | q
    · exact hl
    · have := h.sub z q
      rwa [e] at this
theorem Sofar.skip {ns : List Str} {leaf : Str} {i : Nat} {M : Mak} {z : Str} (h : Sofar ns leaf i M) (hz : ns[i]? = some z) (e : z = leaf) : Sofar ns leaf (i + 1) M := by
  have et : ns.take (i + 1) = ns.take i ++ [z] := by rw [List.take_add_one, hz]; rfl
  refine ⟨h.nd, fun y hy => by rw [et]; exact List.mem_append_left _ (h.sub y hy), fun y hy ne => ?_, h.parts⟩
  rw [et, List.mem_append, List.mem_singleton] at hy
  rcases hy with hy | rfl
  · exact h.all y hy ne
  · exact absurd e ne
theorem take_not {ns : List Str} (nd : ns.Nodup) {i : Nat} {z : Str} (hz : ns[i]? = some z) : z ∉ ns.take i := by
  intro hin
  obtain ⟨j, hj⟩ := List.mem_iff_getElem?.mp hin
  rw [List.getElem?_take] at hj
  by_cases c : j < i
  · rw [if_pos c] at hj
    obtain ⟨h1, e1⟩ := List.getElem?_eq_some_iff.mp hj
    obtain ⟨h2, e2⟩ := List.getElem?_eq_some_iff.mp hz
    have := (List.nodup_iff_pairwise_ne.mp nd)
    exact absurd (e1.trans e2.symm) (List.pairwise_iff_getElem.mp this j i h1 h2 c)
  · rw [if_neg c] at hj
    cases hj
theorem Sofar.put {ns : List Str} {leaf : Str} {i : Nat} {M : Mak} {z : Str} {ps : List Str} (h : Sofar ns leaf i M) (nd : ns.Nodup) (hz : ns[i]? = some z) (hs : sortedS ps = true) (h2 : 2 ≤ ps.length) (h3 : ps.length ≤ 3) (hp : ∀ p ∈ ps, p ∈ ns) :
    Sofar ns leaf (i + 1) (M ++ [(z, ps)]) := by
  have et : ns.take (i + 1) = ns.take i ++ [z] := by rw [List.take_add_one, hz]; rfl
  have ek : keysOf (M ++ [(z, ps)]) = keysOf M ++ [z] := by unfold keysOf; rw [List.map_append]; rfl
  have nz : z ∉ keysOf M := fun q => take_not nd hz (h.sub z q)
  refine ⟨?_, fun y hy => ?_, fun y hy ne => ?_, fun m hm => ?_⟩
  · rw [ek, List.nodup_append]
    refine ⟨h.nd, List.nodup_cons.mpr ⟨List.not_mem_nil, List.nodup_nil⟩, fun a ha b hb => ?_⟩
    rw [List.mem_singleton] at hb
    subst hb
    exact fun q => nz (by rw [← q]; exact ha)
  · rw [ek, List.mem_append, List.mem_singleton] at hy
    rw [et, List.mem_append, List.mem_singleton]
    exact hy.imp (h.sub y) id
  · rw [et, List.mem_append, List.mem_singleton] at hy
    rw [ek, List.mem_append, List.mem_singleton]
    exact hy.imp (fun q => h.all y q ne) id
  · rw [List.mem_append, List.mem_singleton] at hm
    rcases hm with hm | rfl
    · exact h.parts m hm
    · exact ⟨hs, h2, h3, hp⟩
theorem MakAt.put {H : Hp} {kvs : List (Key × V)} {M : Mak} {z : Str} {ps : List Str} {t : Addr} (h : MakAt H kvs M) (nz : z ∉ keysOf M) (ht : TupZ H t (ps.map V.str)) : MakAt H (putK kvs (Sum.inr z) (.ref t)) (M ++ [(z, ps)]) := by
  have e : valV kvs (Sum.inr z) = none := by
    rcases h.get z with ⟨_, e⟩ | ⟨ps', a, e1, _⟩
    · exact e
    · rw [lookM_none.mpr nz] at e1
      cases e1
  rw [putK_new _ e]
  unfold MakAt at h ⊢
  clear e nz
  induction h with
  | nil => exact .cons ⟨rfl, t, rfl, ht⟩ .nil
  | cons h _ ih => exact .cons h ih
structure LKs (H : Hp) (d l mk : Addr) (ns : List Str) (leaf : Str) (i : Nat) (H' : Hp) : Prop where
  el : H' l = some (.lst (ns.map V.str))
  mks : ∃ kvs M, H' mk = some (.dK kvs) ∧ MakAt H' kvs M ∧ Sofar ns leaf i M
  sx : SameX d H H'
  hd : DiceAt H' d
theorem LKs.step {H H' H'' : Hp} {d l mk : Addr} {ns : List Str} {leaf : Str} {i : Nat} (h : LKs H d l mk ns leaf i H') (nl : l ≠ d) (nm : mk ≠ d) (s : SameX d H' H'') (hd : DiceAt H'' d) : LKs H d l mk ns leaf i H'' := by
  obtain ⟨el, ⟨kvs, M, e1, e2, e3⟩, sx, hd'⟩ := h
  exact ⟨s _ _ nl el, ⟨kvs, M, s _ _ nm e1, e2.samex hd' s, e3⟩, sx.trans s, hd⟩
end Kl

set_option maxRecDepth 100000
set_option maxHeartbeats 4000000
namespace Kl
open PySem PySem.Spec PyProof.Rows L2 Gx Mx
section
variable {P : Program} {w : World} {K : PySem.W.Frag} {mg : Str → Option Value} {base : Heap}
theorem pi_or {X : Cx} {tg e : Expr} {t1 t2 : TI} (h1 : PI X tg e t1) (h2 : PI X tg e t2) : PI X tg e (fun σ H R => t1 σ H R ∨ t2 σ H R) :=
  ⟨fun pins s σ H R I h => h.elim (h1.run pins s σ H R I) (h2.run pins s σ H R I)⟩
/-- a sequence of these, a tuple or a list -/
def SqB (K : PySem.W.Frag) (H : Hp) (a : Addr) (xs : List V) : Prop := SqT K H a xs ∨ SqL K H a xs
theorem SqB.at {H H' : Hp} {a : Addr} {xs : List V} (h : SqB K H a xs) (s : ∀ o, H a = some o → H' a = some o) : SqB K H' a xs := by
  rcases h with ((h | ⟨o, h⟩) | h) | ((h | ⟨o, h⟩) | h)
  · exact .inl (.inl (.inl (s _ h)))
  · exact .inl (.inl (.inr ⟨o, s _ h⟩))
  · exact .inl (.inr h)
  · exact .inr (.inl (.inl (s _ h)))
  · exact .inr (.inl (.inr ⟨o, s _ h⟩))
  · exact .inr (.inr h)
theorem SqB.keep {H H' : Hp} {a : Addr} {xs : List V} (h : SqB K H a xs) (s : ∀ o, H a = some o → (∀ kv, o ≠ .dK kv) → H' a = some o) : SqB K H' a xs := by
  rcases h with ((h | ⟨o, h⟩) | h) | ((h | ⟨o, h⟩) | h)
  · exact .inl (.inl (.inl (s _ h (fun _ => nofun))))
  · exact .inl (.inl (.inr ⟨o, s _ h (fun _ => nofun)⟩))
  · exact .inl (.inr h)
  · exact .inr (.inl (.inl (s _ h (fun _ => nofun))))
  · exact .inr (.inl (.inr ⟨o, s _ h (fun _ => nofun)⟩))
  · exact .inr (.inr h)
theorem cast_sum (f : Str → Nat) : ∀ l : List Str, (l.map fun p => ((f p : Nat) : Int)).sum = (((l.map f).sum : Nat) : Int)
  | [] => rfl
  | p :: l => by
    rw [List.map_cons, List.sum_cons, cast_sum f l, List.map_cons, List.sum_cons, Int.natCast_add]
theorem sqT_mono {H H' : Hp} {a : Addr} {xs : List V} (h : SqT K H a xs) (s : Same H H') : SqT K H' a xs := by
  rcases h with (h | ⟨o, h⟩) | h
  · exact .inl (.inl (s _ _ h))
  · exact .inl (.inr ⟨o, s _ _ h⟩)
  · exact .inr h
theorem sqL_mono {H H' : Hp} {a : Addr} {xs : List V} (h : SqL K H a xs) (s : Same H H') : SqL K H' a xs := by
  rcases h with (h | ⟨o, h⟩) | h
  · exact .inl (.inl (s _ _ h))
  · exact .inl (.inr ⟨o, s _ _ h⟩)
  · exact .inr h
theorem rowK_some (R : Row) (z : Str) : (valV (rowK R) (Sum.inr z)).isSome = decide (z ∈ keysR R) := by
  by_cases h : z ∈ keysR R
  · rw [rowK_get h, decide_eq_true h]
    rfl
  · rw [rowK_look, lookR_no h, decide_eq_false h]
    rfl
theorem SqB.mono {H H' : Hp} {a : Addr} {xs : List V} (h : SqB K H a xs) (s : Same H H') : SqB K H' a xs := h.at fun o e => s _ _ e
/-- the parts of each kind, told by tuples or lists -/
def PartsAt (K : PySem.W.Frag) (H : Hp) (kvs : List (Key × V)) (M : Mak) : Prop := Paired (fun (kv : Key × V) (m : Str × List Str) => kv.1 = Sum.inr m.1 ∧ ∃ a, kv.2 = .ref a ∧ SqB K H a (m.2.map V.str)) kvs M
theorem PartsAt.len {H : Hp} {kvs : List (Key × V)} {M : Mak} (h : PartsAt K H kvs M) : kvs.length = M.length := Paired.length h
theorem PartsAt.same {H H' : Hp} {kvs : List (Key × V)} {M : Mak} (h : PartsAt K H kvs M) (s : ∀ a xs, SqB K H a xs → SqB K H' a xs) : PartsAt K H' kvs M := by
  unfold PartsAt at h ⊢
  induction h with
  | nil => exact .nil
  | cons h _ ih =>
    obtain ⟨h1, a, h2, h3⟩ := h
    exact .cons ⟨h1, a, h2, s a _ h3⟩ ih
theorem PartsAt.at {H : Hp} {kvs : List (Key × V)} {M : Mak} (h : PartsAt K H kvs M) {i : Nat} {k : Key} {v : V} (e : kvs[i]? = some (k, v)) : ∃ m a, M[i]? = some m ∧ k = Sum.inr m.1 ∧ v = .ref a ∧ SqB K H a (m.2.map V.str) := by
  unfold PartsAt at h
  induction h generalizing i with
  | nil => cases e
  | @cons kv m kvs M h _ ih =>
    cases i with
    | zero =>
      cases e
      obtain ⟨h1, a, h2, h3⟩ := h
      exact ⟨m, a, rfl, h1, h2, h3⟩
    | succ i => exact ih e
theorem MakAt.parts {H : Hp} {kvs : List (Key × V)} {M : Mak} (h : MakAt H kvs M) : PartsAt K H kvs M := by
  unfold MakAt at h
  unfold PartsAt
  induction h with
  | nil => exact .nil
  | cons h _ ih =>
    obtain ⟨h1, a, h2, h3⟩ := h
    exact .cons ⟨h1, a, h2, .inl h3.sq⟩ ih
end
end Kl

set_option maxRecDepth 100000
set_option maxHeartbeats 4000000
namespace Kl
open PySem PySem.Spec PyProof.Rows L2 Gx Mx
section
variable {P : Program} {w : World} {K : PySem.W.Frag} {mg : Str → Option Value} {base : Heap}
/-! ### the sizes of many ranks -/
def RowsAt (H : Hp) (leaf : Str) (M : Mak) (ds : List Addr) : Prop := ∀ (i : Nat) (a : Addr), ds[i]? = some a → H a = some (.dK (rowK (rowsR leaf M i)))
theorem RowsAt.same {H H' : Hp} {leaf : Str} {M : Mak} {ds : List Addr} (h : RowsAt H leaf M ds) (s : Same H H') : RowsAt H' leaf M ds := fun i a e => s _ _ (h i a e)
theorem RowsAt.snoc {H H' : Hp} {leaf : Str} {M : Mak} {ds : List Addr} {p : Addr} (h : RowsAt H leaf M ds) (k : ∀ a kv, H a = some (.dK kv) → H' a = some (.dK kv)) (e : H' p = some (.dK (rowK (rowsR leaf M ds.length)))) : RowsAt H' leaf M (ds ++ [p]) := by
  intro i a ha
  rw [List.getElem?_append] at ha
  by_cases c : i < ds.length
  · rw [if_pos c] at ha
    exact k _ _ (h i a ha)
  · rw [if_neg c] at ha
    obtain ⟨h1, h2⟩ := List.getElem?_eq_some_iff.mp ha
    have e0 : i - ds.length = 0 := by
      rw [List.length_singleton] at h1
      omega
    have e1 : i = ds.length := by omega
    rw [e1]
    have : a = p := by
      rw [e0] at ha
      exact (Option.some.inj ha).symm
    rw [this]
    exact e
end
end Kl

set_option maxRecDepth 100000
set_option maxHeartbeats 4000000
namespace Kl
open PySem PySem.Spec PyProof.Rows L2 Gx Mx
theorem cast_sumN : ∀ l : List Nat, (l.map fun n => ((n : Nat) : Int)).sum = ((l.sum : Nat) : Int)
  | [] => rfl
  | n :: l => by rw [List.map_cons, List.sum_cons, List.sum_cons, cast_sumN l, Int.natCast_add]
end Kl

set_option maxRecDepth 100000
set_option maxHeartbeats 4000000
namespace Kl
open PySem PySem.Spec PyProof.Rows L2 Gx Mx
theorem pool_ok {z : Str} (h : z ∈ POOL) : PyData.strOk z = true := names_low (pool_name h)
theorem ix_listK {X : Cx} {K : PySem.W.Frag} (hk : X.K = K) : IxR X (rIxL K) := by
  subst hk
  exact ix_list
section
variable {P : Program} {w : World} {K : PySem.W.Frag} {mg : Str → Option Value} {base : Heap}
/-! ### the law's own sizes -/
def spSizes : Sp := fun vs H Q _ => ∃ (pl mk : Addr) (leaf : Str) (kvs : List (Key × V)) (M M1 : Mak) (b : Nat), vs = [V.ref pl, V.int (b : Nat)] ∧ b ≤ 402 ∧ H pl = some (.dK (bookK leaf mk)) ∧ H mk = some (.dK kvs) ∧ MakAt H kvs M ∧ Vld leaf M ∧ OrdOf M M1 ∧
  ∀ (p : Addr) (ds : List Addr) (H' : Hp), Same H H' → H p = none → H' p = some (.lst (ds.map V.ref)) → ds.length = b + 1 → RowsAt H' leaf M1 ds → Q (.ref p) H'
abbrev NLS : List Str := ["_law_plain", "_law_bound", "_law_found", "_law_rank", "_law_here", "_law_name", "_law_parts", "_law_part"]
theorem ok_sizes {f : Addr} {fd : FuncData} (F : Fun K "_law_sizes" "_law_sizes" s_law_sizes f fd) (T : Top K mg) : FnOk P w K mg base CX0 1 f fd ["_law_plain", "_law_bound"] spSizes := by
  refine F.ok sc_law_sizes (fun vs H Q E h => ?_) (fun cdv A outer s H vs Q E hr h => ?_)
  · obtain ⟨pl, mk, leaf, kvs, M, M1, b, rfl, _⟩ := h
    rfl
  · obtain ⟨pl, mk, leaf, kvs, M, M1, b, rfl, hb, hpl, hmk, hM, hV, hO, q⟩ := h
    have hu := hu_of hr
    refine ⟨_, pss_cut (ps_set (i := 2) sc_law_sizes.nd rfl (.inr rfl) (pe_lst (pa_cons (pe_disp (pps_cons (pe_dget hu (pv 0) pe_str (fun _ _ => rfl)) pe_int pps_nil) rfl rfl (by decide) (by decide)) pa_nil)))
      (pss_cut (ps_for PassesOwn.never rfl (pi_range1 (by rfl) T.b_range (pa_cons (pv 1) pa_nil)) (pg_name (i := 3) sc_law_sizes.nd rfl (.inr rfl))
        (pss_cut (ps_set (i := 4) sc_law_sizes.nd rfl (.inl rfl) pe_dnewK)
        (pss_cut (ps_for PassesOwn.never rfl (pi_list (pe_callB (call_sortedD rfl) (by rfl) T.b_sorted (by decide +kernel) (pa_cons (pe_dget hu (pv 0) pe_str (fun _ _ => rfl)) pa_nil))) (pg_name (i := 5) sc_law_sizes.nd rfl (.inl rfl))
          (pss_cut (ps_set (i := 6) sc_law_sizes.nd rfl (.inl rfl) (pe_dget hu (pe_dget hu (pv 0) pe_str (fun _ _ => rfl)) (pv 5) (fun _ _ => rfl)))
          (pss_one (ps_if (pt_cmpR (op_eqD hr.units) (pe_lc (own := [("_law_part", 7)]) (g := gName 7) rfl sc_law_sizes.nd (pi_tup (pv 6))
                (blkOk_by (N := NLS) (sc := defScope s_law_sizes) (by decide +kernel)) (fun _ _ _ _ _ => pg_name (i := 7) sc_law_sizes.nd rfl (.inl rfl))
                (fun _ _ _ _ _ => pts_one (pt_cmp (pc_dnotin hu (pv 7) (pe_ix (ix_listK (K := K) (by exact rfl)) (pv 2) (pv 3) (fun _ _ => rfl)))))
                (fun _ _ _ _ _ => pv 7)) (pe_lst pa_nil) (by rfl))
            (pss_one (ps_asg (pe_callB (cr_sum rfl) (by rfl) T.b_sum (by decide +kernel) (pa_cons (pe_lc (own := [("_law_part", 7)]) (g := gName 7) (tt := tYes) rfl sc_law_sizes.nd (pi_tup (pv 6))
                (blkOk_by (N := NLS) (sc := defScope s_law_sizes) (by decide +kernel)) (fun _ _ _ _ _ => pg_name (i := 7) sc_law_sizes.nd rfl (.inl rfl)) (fun _ _ _ _ _ => pts_nil)
                (fun _ _ _ _ _ => pe_dget hu (pe_ix (ix_listK (K := K) (by exact rfl)) (pv 2) (pv 3) (fun _ _ => rfl)) (pv 7) (fun _ _ => rfl))) pa_nil)) (pg_sub (pv 4) (pv 5) (set_dict hu)))) pss_nil))))
        (pss_one (ps_expr (pe_bm PySem.F.plainAttrs_list PySem.F.slot_list_append PySem.F.type_list_append mt_append (pv 2) (pa_cons (pv 4) pa_nil)))))))
      (pss_one (ps_ret (pv 2)))), ?_⟩
    have big : 100000 ≤ sizeLine := by decide
    have lM := hV.len
    have v1 : Vld leaf M1 := hO.vld hV
    have lM1 := v1.len
    refine ⟨fun σ' G => ∃ (fl b0 : Addr), σ' = [some (.ref pl), some (.int (b : Nat)), some (.ref fl), none, none, none, none, none] ∧ G fl = some (.lst [.ref b0]) ∧ G b0 = some (.dK (rowK (rowsR leaf M1 0))) ∧ Same H G ∧ H fl = none ∧ H b0 = none, ?_, ?_⟩
    · refine fun b0 nb0 => ?_
      have hpl1 : (upd H b0 (.dK [])) pl = some (.dK (bookK leaf mk)) := by rw [upd_ne (ne_of_none hpl nb0)]; exact hpl
      refine ⟨_, rfl, pl, .str leaf, rfl, .inl ⟨_, Sum.inr "leaf", .inl hpl1, rfl, (book_leaf leaf mk).symm⟩, upd_same, [(Sum.inr leaf, V.int 1)], rfl, by show 1 ≤ 15; omega, by show 1 ≤ sizeLine; omega, fun fl nfl => ?_⟩
      have e1 : mergeK [] [((Sum.inr leaf : Key), V.int 1)] = rowK (rowsR leaf M1 0) := rfl
      rw [e1] at nfl ⊢
      have s1 : Same H (upd (upd H b0 (.dK [])) b0 (.dK (rowK (rowsR leaf M1 0)))) := fun b o e => by
        rw [upd_ne (ne_of_none e nb0), upd_ne (ne_of_none e nb0)]
        exact e
      have s2 := same_new (o := .lst [V.ref b0]) s1 nfl
      refine ⟨fl, b0, rfl, upd_same, ?_, s2, s1.free nfl, nb0⟩
      rw [upd_ne (ne_of_none upd_same nfl)]
      exact upd_same
    rintro σ' G ⟨fl, b0, rfl, efl, eb0, s0, nfl, nb0⟩
    refine ⟨fun σ' G => ∃ (ds : List Addr) (y3 y4 y5 y6 : Option V), σ' = [some (.ref pl), some (.int (b : Nat)), some (.ref fl), y3, y4, y5, y6, none] ∧ G fl = some (.lst (ds.map V.ref)) ∧ ds.length = b + 1 ∧ RowsAt G leaf M1 ds ∧ Same H G, ?_, ?_⟩
    · refine ⟨_, rfl, _, rfl, by omega, by omega, ?_⟩
      rw [Int.toNat_natCast]
      refine for_range (lo := 0) (fun i σ' G => ∃ (ds : List Addr) (y3 y4 y5 y6 : Option V), σ' = [some (.ref pl), some (.int (b : Nat)), some (.ref fl), y3, y4, y5, y6, none] ∧ G fl = some (.lst (ds.map V.ref)) ∧ ds.length = i + 1 ∧ RowsAt G leaf M1 ds ∧ Same H G)
        ⟨[b0], none, none, none, none, rfl, efl, rfl, ?_, s0⟩ (fun i σ' G hi hP => ?_) (fun σ' G hP => hP)
      · intro i a ha
        have hi : i = 0 := by
          have := (List.getElem?_eq_some_iff.mp ha).1
          rw [List.length_singleton] at this
          omega
        subst hi
        cases ha
        exact eb0
      obtain ⟨ds, y3, y4, y5, y6, rfl, eF, hl, hR, sm⟩ := hP
      -- an empty dict
      refine ⟨fun σ' G' => ∃ hh : Addr, σ' = [some (.ref pl), some (.int (b : Nat)), some (.ref fl), some (.int (0 + (i : Nat))), some (.ref hh), y5, y6, none] ∧ G' hh = some (.dK []) ∧ G hh = none ∧ Same G G', ?_, ?_⟩
      · exact fun hh nhh => ⟨hh, rfl, upd_same, nhh, same_new (Same.refl G) nhh⟩
      rintro σ' G2 ⟨hh, rfl, ehh, nhh, s2⟩
      have hrow : ∃ a, ds[i]? = some a ∧ G a = some (.dK (rowK (rowsR leaf M1 i))) := ⟨_, List.getElem?_eq_getElem (by omega), hR i _ (List.getElem?_eq_getElem (by omega))⟩
      obtain ⟨ra, hra, era⟩ := hrow
      generalize hRR : rowsR leaf M1 i = R at era
      have efG := eF
      have fl_free : H fl = none := nfl
      have nhf : hh ≠ fl := fun z => by rw [z, eF] at nhh; cases nhh
      have nhr : hh ≠ ra := fun z => by rw [z, era] at nhh; cases nhh
      -- the names, one by one
      refine ⟨fun σ' G' => ∃ (y5 y6 : Option V), σ' = [some (.ref pl), some (.int (b : Nat)), some (.ref fl), some (.int (0 + (i : Nat))), some (.ref hh), y5, y6, none] ∧ G' hh = some (.dK (rowK (aboveR M1 R))) ∧ SameX hh G2 G', ?_, ?_⟩
      · have hpl2 := s2 _ _ (sm _ _ hpl)
        have hmk2 := s2 _ _ (sm _ _ hmk)
        have hM2 : MakAt G2 kvs M := hM.same fun _ _ h => (h.mono sm).mono s2
        refine ⟨_, rfl, pl, .ref mk, rfl, .inl ⟨_, Sum.inr "makings", .inl hpl2, rfl, (book_mak leaf mk).symm⟩, mk, kvs, keysOf M, rfl, .inl hmk2, hM2.keys, by unfold keysOf; rw [List.length_map]; omega, fun ys sp hperm hsrt nsp => ?_⟩
        have eys : ys = keysOf M1 := sorted_same hsrt hO.srt (hperm.nodup_iff.mpr hV.nd) hO.nd fun z => by rw [hperm.mem_iff, hO.keys]
        subst eys
        have s3 := same_new (o := .lst ((keysOf M1).map V.str)) (Same.refl G2) nsp
        have nsh : sp ≠ hh := fun z => by rw [z, ehh] at nsp; cases nsp
        have esp : (upd G2 sp (.lst ((keysOf M1).map V.str))) sp = some (.lst ((keysOf M1).map V.str)) := upd_same
        generalize upd G2 sp (.lst ((keysOf M1).map V.str)) = G3 at s3 esp
        refine ⟨sp, rfl, ⟨_, .inl (.inl esp)⟩, ?_⟩
        refine for_it (walk_list (K := K) (a := sp) (xs := (keysOf M1).map V.str)) (fun j σ' G' => ∃ (y5 y6 : Option V), σ' = [some (.ref pl), some (.int (b : Nat)), some (.ref fl), some (.int (0 + (i : Nat))), some (.ref hh), y5, y6, none] ∧ G' hh = some (.dK (rowK (aboveR (M1.take j) R))) ∧ SameX hh G3 G')
          ⟨_, _, rfl, s3 _ _ ehh, SameX.refl hh G3⟩ (fun j σ' G' _ h => by obtain ⟨_, _, _, _, sx⟩ := h; exact .inl (.inl (sx _ _ nsh esp))) (fun j v σ' Gx G' hj h hy => ?_) (fun σ' G' h => ?_)
        · obtain ⟨y5, y6, rfl, eH, sx⟩ := h
          obtain ⟨rfl, hv⟩ := hy
          obtain ⟨z, hz, rfl⟩ := at_texts hv
          obtain ⟨m, hmj, rfl⟩ : ∃ m, M1[j]? = some m ∧ m.1 = z := by
            unfold keysOf at hz
            rw [List.getElem?_map] at hz
            exact Option.map_eq_some_iff.mp hz
          have hmM := List.mem_of_getElem? hmj
          obtain ⟨p1, p2, p3, p4⟩ := v1.parts m hmM
          have hlk : lookM M m.1 = some m.2 := by rw [← hO.look, lookM_mem hO.nd hmM]
          have hkM : m.1 ∈ keysOf M := (hO.keys _).mp (List.mem_map.mpr ⟨m, hmM, rfl⟩)
          have sG : ∀ b o, G b = some o → G' b = some o := fun b o e => sx _ _ (ne_of_none e nhh) (s3 _ _ (s2 _ _ e))
          have hpl' := sG _ _ (sm _ _ hpl)
          have hmk' := sG _ _ (sm _ _ hmk)
          have hM' : MakAt G' kvs M := hM.same fun a xs h => h.at fun o e => sG _ _ (sm _ _ e)
          obtain ⟨ps, a, e1, e2, e3⟩ := hM'.key hkM
          rw [hlk] at e1
          cases e1
          have eF' := sG _ _ eF
          have era' := sG _ _ era
          have hat : atI (ds.map V.ref) ((0 : Int) + (i : Nat)) = some (.ref ra) := by
            unfold atI ixN
            rw [if_pos (by omega), List.length_map, if_pos (by omega)]
            show (ds.map V.ref)[((0 : Int) + (i : Nat)).toNat]? = _
            rw [Int.zero_add, Int.toNat_natCast, List.getElem?_map, hra]
            rfl
          refine ⟨fun σ' G4 => σ' = [some (.ref pl), some (.int (b : Nat)), some (.ref fl), some (.int (0 + (i : Nat))), some (.ref hh), some (.str m.1), some (.ref a), none] ∧ G4 = G', ?_, ?_⟩
          · exact ⟨_, rfl, pl, .ref mk, rfl, .inl ⟨_, Sum.inr "makings", .inl hpl', rfl, (book_mak leaf mk).symm⟩, _, rfl, mk, _, rfl, .inl ⟨kvs, Sum.inr m.1, .inl hmk', rfl, e2.symm⟩, rfl, rfl⟩
          rintro σ' G4 ⟨rfl, rfl⟩
          -- the parts that are not there
          refine ⟨_, rfl, a, rfl, ⟨_, e3.sq⟩, fun D hD => ?_⟩
          refine lc_it (g := gName 7) (vs := [7]) (walk_tup (K := K) (a := a) (xs := m.2.map V.str)) (fun k G5 => G5 D = some (.lst (((m.2.take k).filter fun p => !decide (p ∈ keysR R)).map V.str)) ∧ Same G4 G5) ⟨upd_same, same_new (Same.refl G4) hD⟩ (fun k G5 _ h => (e3.mono h.2).sq) (fun k v Gx G5 hk h hy => ?_) (fun G5 h => ?_)
          · obtain ⟨eD, sm5⟩ := h
            obtain ⟨rfl, hv2⟩ := hy
            obtain ⟨z, hz, rfl⟩ := at_texts hv2
            refine ⟨rfl, _, rfl, _, rfl, _, rfl, fl, _, _, _, rfl, rfl, .inl (.inl (sm5 _ _ eF')), hat, ra, _, rfl, .inl ⟨_, Sum.inr z, .inl (sm5 _ _ era'), rfl, rfl⟩, ?_⟩
            rw [rowK_some, take_snoc hz, List.filter_append]
            by_cases c : z ∈ keysR R
            · rw [decide_eq_true c]
              have e0 : [z].filter (fun p => !decide (p ∈ keysR R)) = [] := by simp [c]
              rw [e0, List.append_nil]
              refine ⟨_, rfl, ?_⟩
              show (if (!true) = true then _ else _)
              rw [if_neg (by decide)]
              exact ⟨eD, sm5⟩
            · rw [decide_eq_false c]
              have e0 : [z].filter (fun p => !decide (p ∈ keysR R)) = [z] := by simp [c]
              rw [e0]
              refine ⟨_, rfl, ?_⟩
              show (if (!false) = true then _ else _)
              rw [if_pos (by decide)]
              refine ⟨_, rfl, _, eD, ?_, ?_, fun b u e => by rw [upd_ne (ne_of_none e hD)]; exact sm5 b u e⟩
              · rw [List.length_map]
                have := List.length_filter_le (fun p => !decide (p ∈ keysR R)) (m.2.take k)
                rw [List.length_take] at this
                exact Nat.lt_of_le_of_lt (show _ ≤ 3 by omega) (by decide)
              · rw [upd_same, List.map_append]
                rfl
          obtain ⟨eD, sm5⟩ := h
          rw [List.length_map, List.take_length] at eD
          refine ⟨by show 0 ≤ sizeLine; omega, fun l0 nl0 => ?_⟩
          have s6 := same_new (o := .lst []) sm5 nl0
          have eD6 : (upd G5 l0 (.lst [])) D = some (.lst ((m.2.filter fun p => !decide (p ∈ keysR R)).map V.str)) := by
            rw [upd_ne (ne_of_none eD nl0)]
            exact eD
          have okP : SeqAt.shaped (.list (tD (m.2.filter fun p => !decide (p ∈ keysR R)))) = true := shaped_texts fun z hz => pool_ok (v1.part hmM (List.mem_filter.mp hz).1)
          refine ⟨.list (tD (m.2.filter fun p => !decide (p ∈ keysR R))), .list (tD []), .lst (.inl (.inl eD6)) (dp_texts _), .lst (.inl (.inl upd_same)) (dp_texts []), okP, shaped_texts (fun z hz => nomatch hz), ?_⟩
          rw [PyData.eqv, eqv_texts]
          have ef : decide ((m.2.filter fun p => !decide (p ∈ keysR R)) = []) = fitsR (keysR R) m.2 := by
            rw [Bool.eq_iff_iff, decide_eq_true_iff, List.filter_eq_nil_iff]
            unfold fitsR
            rw [List.all_eq_true]
            constructor
            · intro h z hz
              have := h z hz
              simpa using this
            · intro h z hz
              have := h z hz
              simpa using this
          rw [ef]
          have et : aboveR (M1.take (j + 1)) R = aboveR (M1.take j) R ++ (if fitsR (keysR R) m.2 = true then [(m.1, (m.2.map (getR R)).sum)] else []) := by
            unfold aboveR
            rw [take_snoc hmj, List.filter_append, List.map_append]
            by_cases c : fitsR (keysR R) m.2 = true
            · simp [c]
            · simp [c]
          have eH6 := s6 _ _ eH
          generalize upd G5 l0 (.lst []) = G6 at s6 eH6
          refine ⟨_, rfl, ?_⟩
          refine ite2 (fun c => ?_) (fun c => ?_)
          · rw [if_pos c] at et
            have e36 := e3.mono s6
            refine ⟨_, rfl, a, rfl, ⟨_, e36.sq⟩, fun D4 hD4 => ?_⟩
            refine lc_it (g := gName 7) (tt := tYes) (vs := [7]) (walk_tup (K := K) (a := a) (xs := m.2.map V.str)) (fun k G7 => G7 D4 = some (.lst (((m.2.take k).map fun p => ((getR R p : Nat) : Int)).map V.int)) ∧ Same G6 G7) ⟨upd_same, same_new (Same.refl G6) hD4⟩ (fun k G7 _ h => (e36.mono h.2).sq) (fun k v Gx G7 hk h hy => ?_) (fun G7 h => ?_)
            · obtain ⟨eD4, sm7⟩ := h
              obtain ⟨rfl, hv2⟩ := hy
              obtain ⟨z, hz, rfl⟩ := at_texts hv2
              have hzR : z ∈ keysR R := of_decide_eq_true (List.all_eq_true.mp c z (List.mem_of_getElem? hz))
              refine ⟨rfl, _, rfl, _, rfl, fl, _, _, _, rfl, rfl, .inl (.inl (sm7 _ _ (s6 _ _ eF'))), hat, _, rfl, ra, _, rfl, .inl ⟨_, Sum.inr z, .inl (sm7 _ _ (s6 _ _ era')), rfl, (rowK_get hzR).symm⟩, _, eD4, ?_, ?_, fun b u e => by rw [upd_ne (ne_of_none e hD4)]; exact sm7 b u e⟩
              · rw [List.length_map, List.length_map, List.length_take]
                exact Nat.lt_of_le_of_lt (show _ ≤ 3 by omega) (by decide)
              · rw [upd_same, take_snoc hz, List.map_append, List.map_append]
                rfl
            · obtain ⟨eD4, sm7⟩ := h
              rw [List.length_map, List.take_length] at eD4
              refine ⟨D4, _, rfl, .inl (.inl eD4), ?_⟩
              rw [cast_sum]
              have hnew : m.1 ∉ keysR (aboveR (M1.take j) R) := by
                rw [keys_above]
                intro hin
                have h1 := (above_sub (M1.take j) (keysR R)).subset hin
                unfold keysOf at h1
                rw [List.map_take] at h1
                exact take_not hO.nd (show (M1.map (·.1))[j]? = some m.1 by rw [List.getElem?_map, hmj]; rfl) h1
              have hlen : (aboveR (M1.take j) R).length ≤ 6 := by
                unfold aboveR
                rw [List.length_map]
                have := List.length_filter_le (fun m => fitsR (keysR R) m.2) (M1.take j)
                rw [List.length_take] at this
                omega
              refine ⟨_, rfl, _, rfl, hh, _, rfl, .inl ⟨_, Sum.inr m.1, sm7 _ _ eH6, rfl, by rw [rowK_len]; omega, rfl⟩, _, _, rfl, ?_, fun b o n e => by rw [upd_ne n]; exact sm7 _ _ (s6 _ _ (sx b o n e))⟩
              rw [upd_same, putK_new _ (by rw [rowK_look, lookR_no hnew]; rfl), et]
              unfold rowK
              rw [List.map_append]
              rfl
          · rw [if_neg c, List.append_nil] at et
            rw [et]
            exact ⟨_, _, rfl, eH6, fun b o n e => s6 _ _ (sx b o n e)⟩
        · obtain ⟨y5, y6, rfl, eH, sx⟩ := h
          rw [List.length_map, show (keysOf M1).length = M1.length by unfold keysOf; rw [List.length_map], List.take_length] at eH
          exact ⟨_, _, rfl, eH, fun b o n e => sx _ _ n (s3 _ _ e)⟩
      rintro σ' G3 ⟨y5, y6, rfl, eH3, sx3⟩
      have eF3 := sx3 _ _ nhf.symm (s2 _ _ eF)
      refine ⟨_, rfl, ⟨.inl ⟨rfl, _, .inl (.inl eF3)⟩, ?_⟩⟩
      refine ⟨_, rfl, ?_⟩
      have sG3 : ∀ b o, G b = some o → G3 b = some o := fun b o e => sx3 _ _ (ne_of_none e nhh) (s2 _ _ e)
      refine ⟨fl, _, _, rfl, rfl, eF3, by rw [List.length_map]; exact Nat.lt_of_le_of_lt (show _ ≤ 403 by omega) (by decide), ds ++ [hh], _, _, _, _, rfl, ?_, by rw [List.length_append, List.length_singleton, hl], ?_, fun b o e => ?_⟩
      · rw [upd_same, List.map_append]
        rfl
      · refine RowsAt.snoc (H := G3) (fun k a e => sG3 _ _ (hR k a e)) (fun a kv e => ?_) ?_
        · rw [upd_ne (fun z => by rw [z, eF3] at e; cases e)]
          exact e
        · rw [upd_ne nhf, hl, eH3, ← hRR]
          rfl
      · rw [upd_ne (ne_of_none e nfl)]
        exact sG3 _ _ (sm _ _ e)
    rintro σ' G2 ⟨ds, y3, y4, y5, y6, rfl, eF, hl, hR, sm⟩
    exact ⟨_, rfl, q fl ds G2 sm nfl eF hl hR⟩
end
end Kl

set_option maxRecDepth 100000
set_option maxHeartbeats 4000000
namespace Kl
open PySem PySem.Spec PyProof.Rows L2 Gx Mx
/-! ### one more making -/
theorem merge_new : ∀ (more kvs : List (Key × V)), (more.map (·.1)).Nodup → (∀ k ∈ more.map (·.1), valV kvs k = none) → mergeK kvs more = kvs ++ more
  | [], kvs, _, _ => by unfold mergeK; rw [List.foldl_nil, List.append_nil]
  | p :: r, kvs, nd, hn => by
    rw [List.map_cons, List.nodup_cons] at nd
    have e : mergeK kvs (p :: r) = mergeK (putK kvs p.1 p.2) r := rfl
    have e0 : valV kvs p.1 = none := hn _ (by rw [List.map_cons]; exact List.mem_cons_self)
    rw [e, putK_new _ e0, merge_new r _ nd.2 fun k hk => ?_, List.append_assoc]
    · rfl
    · have hk0 := hn k (by rw [List.map_cons]; exact List.mem_cons_of_mem _ hk)
      rw [valV_snoc _ _ _ _ e0, if_neg (fun (q : k = p.1) => nd.1 (by rw [← q]; exact hk)), hk0]
theorem merge_nil {more : List (Key × V)} (nd : (more.map (·.1)).Nodup) : mergeK [] more = more := merge_new more [] nd fun _ _ => rfl
/-- M with ps for z -/
def putM (M : Mak) (z : Str) (ps : List Str) : Mak := if z ∈ keysOf M then M.map fun m => if m.1 = z then (m.1, ps) else m else M ++ [(z, ps)]
theorem putM_keys (M : Mak) (z : Str) (ps : List Str) : keysOf (putM M z ps) = if z ∈ keysOf M then keysOf M else keysOf M ++ [z] := by
  unfold putM
  by_cases c : z ∈ keysOf M
  · rw [if_pos c, if_pos c]
    unfold keysOf
    rw [List.map_map]
    refine List.map_congr_left fun m _ => ?_
    show (if m.1 = z then (m.1, ps) else m).1 = m.1
    split <;> rfl
  · rw [if_neg c, if_neg c]
    unfold keysOf
    rw [List.map_append]
    rfl
theorem look_rep {z : Str} {ps : List Str} : ∀ {M : Mak} {y : Str}, lookM (M.map fun m => if m.1 = z then (m.1, ps) else m) y = if y = z then (lookM M y).map fun _ => ps else lookM M y
  | [], y => by
    show lookM [] y = _
    split <;> rfl
  | m :: M, y => by
    rw [List.map_cons, lookM_cons, lookM_cons, look_rep (M := M)]
    by_cases c : m.1 = z
    · rw [if_pos c]
      by_cases d : m.1 = y
      · rw [if_pos d, if_pos d, if_pos (d.symm.trans c)]
        rfl
      · rw [if_neg d, if_neg d]
    · rw [if_neg c]
      by_cases d : m.1 = y
      · rw [if_pos d, if_pos d, if_neg (fun q => c (d.trans q))]
      · rw [if_neg d, if_neg d]
theorem look_app : ∀ {M : Mak} {z y : Str} {ps : List Str}, z ∉ keysOf M → lookM (M ++ [(z, ps)]) y = if y = z then some ps else lookM M y
  | [], z, y, ps, _ => by
    rw [List.nil_append, lookM_cons]
    by_cases c : z = y
    · rw [if_pos c, if_pos c.symm]
    · rw [if_neg c, if_neg (fun q => c q.symm)]
  | m :: M, z, y, ps, h => by
    have h' : ¬ z = m.1 ∧ z ∉ keysOf M := by
      constructor
      · intro q
        exact h (by rw [q]; exact List.mem_cons_self)
      · intro q
        exact h (List.mem_cons_of_mem _ q)
    rw [List.cons_append, lookM_cons, lookM_cons, look_app h'.2]
    by_cases d : m.1 = y
    · rw [if_pos d, if_pos d, if_neg (fun q => h'.1 (q.symm.trans d.symm))]
    · rw [if_neg d, if_neg d]
theorem putM_look (M : Mak) (z : Str) (ps : List Str) (y : Str) : lookM (putM M z ps) y = if y = z then some ps else lookM M y := by
  unfold putM
  by_cases c : z ∈ keysOf M
  · rw [if_pos c, look_rep]
    by_cases d : y = z
    · rw [if_pos d, if_pos d, d]
      obtain ⟨qs, e⟩ := lookM_in c
      rw [e]
      rfl
    · rw [if_neg d, if_neg d]
  · rw [if_neg c, look_app c]
theorem putM_nd {M : Mak} {z : Str} {ps : List Str} (nd : (keysOf M).Nodup) : (keysOf (putM M z ps)).Nodup := by
  rw [putM_keys]
  by_cases c : z ∈ keysOf M
  · rw [if_pos c]
    exact nd
  · rw [if_neg c, List.nodup_append]
    refine ⟨nd, List.nodup_cons.mpr ⟨List.not_mem_nil, List.nodup_nil⟩, fun a ha b hb => ?_⟩
    rw [List.mem_singleton] at hb
    subst hb
    exact fun q => c (by rw [← q]; exact ha)
theorem putM_mem {M : Mak} {z : Str} {ps : List Str} (y : Str) : y ∈ keysOf (putM M z ps) ↔ y = z ∨ y ∈ keysOf M := by
  rw [putM_keys]
  by_cases c : z ∈ keysOf M
  · rw [if_pos c]
    exact ⟨.inr, fun h => h.elim (fun e => by rw [e]; exact c) id⟩
  · rw [if_neg c, List.mem_append, List.mem_singleton]
    exact Or.comm
theorem putM_vld {leaf z : Str} {M : Mak} {ps : List Str} (v : Vld leaf M) (hz : z = leaf ∨ z ∈ keysOf M) (hs : sortedS ps = true) (h2 : 2 ≤ ps.length) (h3 : ps.length ≤ 3) (hp : ∀ p ∈ ps, p = leaf ∨ p ∈ keysOf M) : Vld leaf (putM M z ps) := by
  have up : ∀ {p : Str}, p = leaf ∨ p ∈ keysOf M → p = leaf ∨ p ∈ keysOf (putM M z ps) := fun h => h.imp id fun q => (putM_mem _).mpr (.inr q)
  refine ⟨v.lf, fun y hy => ?_, putM_nd v.nd, fun m hm => ?_, fun ns hn h => v.few ns hn fun y hy => ?_⟩
  · rcases (putM_mem y).mp hy with rfl | h
    · rcases hz with rfl | h
      · exact v.lf
      · exact v.keys _ h
    · exact v.keys _ h
  · have e := lookM_mem (putM_nd v.nd) hm
    rw [putM_look] at e
    by_cases c : m.1 = z
    · rw [if_pos c] at e
      cases e
      exact ⟨hs, h2, h3, fun p q => up (hp p q)⟩
    · rw [if_neg c] at e
      obtain ⟨p1, p2, p3, p4⟩ := v.parts _ (lookM_some e)
      exact ⟨p1, p2, p3, fun p q => up (p4 p q)⟩
  · rcases h y hy with h | h
    · exact .inl h
    · rcases (putM_mem y).mp h with rfl | h
      · exact hz
      · exact .inr h
theorem MakAt.putM {H : Hp} {kvs : List (Key × V)} {M : Mak} {z : Str} {ps : List Str} {t : Addr} (h : MakAt H kvs M) (ht : TupZ H t (ps.map V.str)) : MakAt H (putK kvs (Sum.inr z) (.ref t)) (Kl.putM M z ps) := by
  by_cases c : z ∈ keysOf M
  · have e : (kvs.any fun kv => decide (kv.1 = Sum.inr z)) = true := by
      have hk : Sum.inr z ∈ kvs.map (·.1) := by
        rw [h.keys]
        exact List.mem_map.mpr ⟨z, c, rfl⟩
      obtain ⟨kv, hkv, e⟩ := List.mem_map.mp hk
      exact List.any_eq_true.mpr ⟨kv, hkv, decide_eq_true e⟩
    unfold putK Kl.putM
    rw [if_pos e, if_pos c]
    clear e c
    unfold MakAt at h ⊢
    induction h with
    | nil => exact .nil
    | @cons kv m kvs M h _ ih =>
      obtain ⟨h1, a, h2, h3⟩ := h
      refine .cons ?_ ih
      show (if kv.1 = Sum.inr z then (kv.1, V.ref t) else kv).1 = Sum.inr (if m.1 = z then (m.1, ps) else m).1 ∧ ∃ a, (if kv.1 = Sum.inr z then (kv.1, V.ref t) else kv).2 = V.ref a ∧ TupZ H a ((if m.1 = z then (m.1, ps) else m).2.map V.str)
      by_cases d : m.1 = z
      · have d1 : kv.1 = Sum.inr z := by rw [h1, d]
        rw [if_pos d1, if_pos d]
        exact ⟨h1, t, rfl, ht⟩
      · have d1 : ¬ kv.1 = Sum.inr z := by
          rw [h1]
          exact fun q => d (Sum.inr.inj q)
        rw [if_neg d1, if_neg d]
        exact ⟨h1, a, h2, h3⟩
  · have e := h.put c ht
    unfold Kl.putM
    rw [if_neg c]
    exact e
end Kl

set_option maxRecDepth 100000
/-! ### own rule: a, b, .. = l, l a list of that length -/
namespace L2
open PySem PySem.Spec PyProof.Rows
set_option maxHeartbeats 4000000
section
variable {prog : Program} {w : World} {A : Around} {E : Value → Shared → Prop} {s : Shared}
theorem draw_lst {it l : Addr} {items : Array Value} (hne : l ≠ it) : ∀ (n i : Nat) (s : Shared) (Q : List Value → Shared → Prop), s.heap.IsListIter it l i → s.heap.IsList l items → i + n ≤ items.size →
    (∀ h', h'.IsListIter it l (i + n) → Heap.SameBut it s.heap h' → Q ((items.toList.drop i).take n) { s with heap := h' }) → wpAny (model prog w) A (draw (.ref it) n) Q E s
  | 0, i, s, Q, hit, _, _, hQ => by
    refine wpAny_pure ?_
    have h0 := hQ s.heap hit (Heap.SameBut.refl ..)
    rw [List.take_zero] at h0
    exact h0
  | n + 1, i, s, Q, hit, hl, hle, hQ => by
    have hlt : i < items.size := by omega
    refine wpAny_bind (wpAny_pyNext_list_item hit hl (x := items[i]) (by simp [hlt]) fun g1 hit1 hs1 => ?_)
    refine wpAny_bind (wpAny_holding (draw_lst hne n (i + 1) _ _ hit1 (hl.extBut hs1.extBut hne) (by omega) fun g2 hit2 hs2 => wpAny_pure ?_))
    have ed : items.toList.drop i = items[i] :: items.toList.drop (i + 1) := by
      have hl2 : i < items.toList.length := by simpa using hlt
      rw [List.drop_eq_getElem_cons hl2]
      simp
    have h1 := hQ g2 (by rw [show i + (n + 1) = i + 1 + n by omega]; exact hit2) (hs1.trans hs2)
    rw [ed, List.take_succ_cons] at h1
    exact h1
theorem unpackItems_lst {l : Addr} {items : Array Value} {Q : List Value → Shared → Prop} (hh : A.handled = none) (hl : s.heap.IsList l items)
    (hQ : ∀ h', Heap.ExtBut s.heap.objs.size s.heap h' → Q items.toList { s with heap := h' }) : wpAny (model prog w) A (unpackItems (.ref l) items.size none) Q E s := by
  have hlt : l ≠ s.heap.objs.size := by
    obtain ⟨o, ho, _⟩ := id hl
    exact Nat.ne_of_lt (Heap.lt_size ho)
  unfold unpackItems
  refine wpAny_bind ?_
  unfold notIterableAtAll
  refine wpAny_bind (wpAny_specialOf hl.typeIs F.slot_list_iter.lookup ?_)
  refine wpAny_pure ?_
  simp only [Bool.false_eq_true, if_false]
  refine wpAny_bind (wpAny_holding (wpAny_pyIter_list hl ?_))
  have hl0 : (s.heap.push { cls := .type "list_iterator", data := .fields #[.ref l, .int 0 0] }).IsList l items := hl.at fun o e => Heap.get?_push_of_some _ e
  refine wpAny_bind (wpAny_holding (draw_lst hlt items.size 0 _ _ ⟨_, Heap.get?_push_size _ rfl, rfl, rfl⟩ hl0 (by omega) fun g1 hit1 hs1 => ?_))
  have hall : (items.toList.drop 0).take items.size = items.toList := by
    rw [List.drop_zero]
    exact List.take_of_length_le (by simp)
  rw [hall, if_neg (by simp)]
  have hl1 : g1.IsList l items := hl0.extBut hs1.extBut hlt
  refine wpAny_bind (wpAny_holding (wpAny_pyNext_list_end hh hit1 hl1 (by simp) fun g2 he2 => ?_))
  simp only [Option.isSome_none, Bool.false_eq_true, if_false]
  exact wpAny_pure (hQ g2 fun b o hb e => he2 b o hb (hs1.extBut b o hb (Heap.get?_push_of_some _ e)))
theorem assign_Tuple_lst {env : Env} {elts : List Expr} {x1} {pos : Pos} {l : Addr} {items : Array Value} {Q : Unit → Shared → Prop} (hh : A.handled = none) (hl : s.heap.IsList l items)
    (hn : (assignEach elts env).length = items.size) (hstar : (assignEach elts env).findIdx? (·.1) = none)
    (h : ∀ h', Heap.ExtBut s.heap.objs.size s.heap h' → wpAny (model prog w) A (assignInOrder ((assignEach elts env).map (·.2)) items.toList) Q E { s with heap := h' }) :
    wpAny (model prog w) A (assign (.Tuple elts x1 pos) env (.ref l)) Q E s := by
  rw [assign_Tuple]
  refine wpAny_bind (wpAny_standAt ?_)
  unfold unpack
  rw [hn, hstar]
  exact wpAny_bind (wpAny_holding (unpackItems_lst hh hl h))
end
/-- (a, b, ..) = a list of that length -/
def gLstU (K : PySem.W.Frag) (n : Nat) (t : TGs) : TG := fun v σ H Q => ∃ a xs, v = .ref a ∧ SqL K H a xs ∧ xs.length = n ∧ t xs σ H Q
theorem pg_lstU {X : Cx} {pos : Pos} {es : List Expr} {k : Nat} {t : TGs} {n : Nat} (hc : X.calm = true) (h : PGs X es t)
    (hn : (assignEach es X.env).length = n := by rfl) (hst : (assignEach es X.env).findIdx? (·.1) = none := by rfl) : PG X (.Tuple es k pos) (gLstU X.K n t) := by
  refine ⟨fun pins s σ H v u Q I r hw => ?_⟩
  obtain ⟨a, xs, e1, hq, el, hw⟩ := hw
  subst e1
  cases r
  obtain ⟨its, rv, hl, hz⟩ := I.list hq
  refine assign_Tuple_lst (I.ok.hd hc) hl.isList (by simp [hn, ← el, rv.length]) hst fun h' hx => ?_
  have I1 : Inv X pins σ H { s with heap := h' } := I.kept (t' := s.toks) fun b o e => hx b o (Nat.ne_of_lt (Heap.lt_size e)) e
  exact h.run pins _ σ H xs _ Q I1 (by simpa using rv) hw
end L2

set_option maxRecDepth 100000
set_option maxHeartbeats 4000000
namespace Kl
open PySem PySem.Spec PyProof.Rows L2 Gx Mx
section
variable {X : Cx}
/-! ### a tuple as it is written, whose object is known -/
def tTupZ (t : TA) : TE := fun σ H Q => t σ H fun xs H1 => xs.length ≤ sizeLine ∧ ∀ p H', TupZ H' p xs → H1 p = none → (∀ b, b ≠ p → H' b = H1 b) → Q (.ref p) H'
theorem pe_tupZ {es : List Expr} {t : TA} {x1 : Nat} {pos : Pos} (h : PA X es t) : PE X (.Tuple es x1 pos) (tTupZ t) := by
  refine ⟨fun pins s σ H Q I hq => ?_⟩
  refine wpAny_Tuple_spliced (thn (h.run pos pins s σ H _ I hq) fun us s1 ⟨xs, H1, I1, r, z, q⟩ => ⟨by rw [← r.length]; exact z, ?_⟩)
  have hf : H1 s1.heap.objs.size = none := I1.hok.fresh (Nat.le_refl _)
  refine ⟨.ref s1.heap.objs.size, upd H1 s1.heap.objs.size (.frz { cls := .type "tuple", data := .seq us.toArray } (.tup xs)), I1.laid (t' := s1.toks) (fun b u e => Heap.get?_push_of_some _ e) (Nat.le_refl _) ?_, rfl, q _ _ ⟨_, rfl, upd_same⟩ hf (fun b n => upd_ne n)⟩
  exact ⟨Heap.get?_push_size _ rfl, z, us, r, IsTup.new _ _⟩
end
/-- a dict of makings stands at m -/
def Mkd (H : Hp) (m : Addr) (M : Mak) : Prop := ∃ kvs, H m = some (.dK kvs) ∧ MakAt H kvs M
theorem Mkd.same {H H' : Hp} {m : Addr} {M : Mak} (h : Mkd H m M) (s : Same H H') : Mkd H' m M := by
  obtain ⟨kvs, e, hM⟩ := h
  exact ⟨kvs, s _ _ e, hM.same fun _ _ q => q.mono s⟩
/-- a dict that is being written is done -/
theorem disp_end {G Hk : Hp} {p : Addr} {kvs : List (Key × V)} {M : Mak} (np : G p = none) (s : Same (upd G p (.dK [])) Hk) (hM : MakAt Hk kvs M) : Same G (upd Hk p (.dK kvs)) ∧ Mkd (upd Hk p (.dK kvs)) p M := by
  have e := s _ _ (upd_same : (upd G p (.dK [])) p = _)
  refine ⟨fun b o h => ?_, kvs, upd_same, hM.same fun a xs q => q.at fun o h => ?_⟩
  · have nb := ne_of_none h np
    rw [upd_ne nb]
    exact s _ _ (by rw [upd_ne nb]; exact h)
  · rw [upd_ne (q.ne e fun ob z => by cases z)]
    exact h
theorem eight_in {z : Str} (h : z ∈ EIGHT) : z ∈ POOL := by
  have e : EIGHT.all (fun z => decide (z ∈ POOL)) = true := by decide +kernel
  exact of_decide_eq_true (List.all_eq_true.mp e z h)
/-- makings as they are drawn: of the eight names, three at most -/
structure Vld3 (leaf : Str) (M : Mak) : Prop where
  v : Vld leaf M
  s8 : ∀ z, z = leaf ∨ z ∈ keysOf M → z ∈ EIGHT
  few3 : ∀ ns : List Str, ns.Nodup → (∀ z ∈ ns, z = leaf ∨ z ∈ keysOf M) → ns.length ≤ 3
theorem vld_in {leaf : Str} {M : Mak} (ks : List Str) (hks : ∀ z ∈ ks, z ∈ EIGHT) (h3 : ks.length ≤ 3) (hl : leaf ∈ ks) (hk : ∀ z ∈ keysOf M, z ∈ ks) (nd : (keysOf M).Nodup) (hp : ∀ m ∈ M, sortedS m.2 = true ∧ 2 ≤ m.2.length ∧ m.2.length ≤ 3 ∧ ∀ p ∈ m.2, p = leaf ∨ p ∈ keysOf M) : Vld3 leaf M := by
  have hs : ∀ z, z = leaf ∨ z ∈ keysOf M → z ∈ ks := fun z h => by
    rcases h with rfl | h
    · exact hl
    · exact hk z h
  have hf : ∀ ns : List Str, ns.Nodup → (∀ z ∈ ns, z = leaf ∨ z ∈ keysOf M) → ns.length ≤ 3 := fun ns nd' h => Nat.le_trans (nodup_len nd' (ys := ks) fun z hz => hs z (h z hz)) h3
  exact ⟨⟨eight_in (hks _ hl), fun z hz => eight_in (hks _ (hk z hz)), nd, hp, fun ns nd' h => Nat.le_trans (hf ns nd' h) (by decide)⟩, fun z h => hks _ (hs z h), hf⟩
theorem or_mid {t u : TT} {σ : L2.St} {H : Hp} {Q : Bool → Hp → Prop} (B : Bool → Hp → Prop) (h : ∀ Q' : Bool → Hp → Prop, (∀ c H1, B c H1 → Q' c H1) → tOr t u σ H Q') (k : ∀ c H1, B c H1 → Q c H1) : tOr t u σ H Q := h Q k
/-- parts of a making that is right -/
def GoodP (ks ps : List Str) : Prop := sortedS ps = true ∧ 2 ≤ ps.length ∧ ps.length ≤ 3 ∧ ∀ p ∈ ps, p ∈ ks
/-- the makings while they are drawn: j of the kinds are done -/
structure DrM (ks : List Str) (a : Str) (j : Nat) (M : Mak) : Prop where
  nd : (keysOf M).Nodup
  sub : ∀ z ∈ keysOf M, z ∈ ks
  all : ∀ z ∈ ks, z = a ∨ z ∈ keysOf M
  ok : ∀ z ps, lookM M z = some ps → z ∈ ks.take j → GoodP ks ps
  no : j = 0 → a ∉ keysOf M
theorem DrM.put {ks : List Str} {a z : Str} {j : Nat} {M : Mak} {ps : List Str} (h : DrM ks a j M) (hz : ks[j]? = some z) (g : GoodP ks ps) : DrM ks a (j + 1) (putM M z ps) := by
  refine ⟨putM_nd h.nd, fun y hy => ?_, fun y hy => ?_, fun y qs e hy => ?_, fun e => absurd e (Nat.succ_ne_zero _)⟩
  · rcases (putM_mem y).mp hy with rfl | q
    · exact List.mem_of_getElem? hz
    · exact h.sub y q
  · exact (h.all y hy).imp id fun q => (putM_mem y).mpr (.inr q)
  · rw [putM_look] at e
    by_cases c : y = z
    · rw [if_pos c] at e
      cases e
      exact g
    · rw [if_neg c] at e
      rw [take_snoc hz, List.mem_append, List.mem_singleton] at hy
      rcases hy with hy | hy
      · exact h.ok y qs e hy
      · exact absurd hy c
theorem DrM.skip {ks : List Str} {a : Str} {j : Nat} {M : Mak} (h : DrM ks a j M) (hz : ks[j]? = some a) (h0 : ks[0]? = some a) : DrM ks a (j + 1) M := by
  refine ⟨h.nd, h.sub, h.all, fun y qs e hy => ?_, fun e => absurd e (Nat.succ_ne_zero _)⟩
  rw [take_snoc hz, List.mem_append, List.mem_singleton] at hy
  rcases hy with hy | rfl
  · exact h.ok y qs e hy
  · by_cases c : j = 0
    · have := h.no c
      rw [lookM_none.mpr this] at e
      cases e
    · refine h.ok y qs e (List.mem_of_getElem? (i := 0) ?_)
      rw [List.getElem?_take, if_pos (by omega)]
      exact h0
theorem DrM.vld {ks : List Str} {a : Str} {M : Mak} (h : DrM ks a ks.length M) (hks : ∀ z ∈ ks, z ∈ EIGHT) (h3 : ks.length ≤ 3) (ha : a ∈ ks) : Vld3 a M := by
  refine vld_in ks hks h3 ha h.sub h.nd fun m hm => ?_
  obtain ⟨g1, g2, g3, g4⟩ := h.ok m.1 m.2 (lookM_mem h.nd hm) (by rw [List.take_length]; exact h.sub _ (List.mem_map.mpr ⟨m, hm, rfl⟩))
  exact ⟨g1, g2, g3, fun p hp => h.all p (g4 p hp)⟩
theorem srt2 (a : Str) : sortedS [a, a] = true := (sortedS_iff _).mpr (by simp [leS_refl])
theorem srt3 (a : Str) : sortedS [a, a, a] = true := (sortedS_iff _).mpr (by simp [leS_refl])
theorem same_k {H H' : Hp} {p : Addr} (n : H p = none) (k : ∀ b, b ≠ p → H' b = H b) : Same H H' := fun b o e => by rw [k b (ne_of_none e n)]; exact e
section
variable {P : Program} {w : World} {K : PySem.W.Frag} {mg : Str → Option Value} {base : Heap}
/-! ### _law_drawn_makings -/
def spDM : Sp := fun vs H Q _ => ∃ d : Addr, vs = [.ref d] ∧ DiceAt H d ∧
  ∀ (pl mk : Addr) (leaf : Str) (kvs : List (Key × V)) (M : Mak) (H' : Hp), H' pl = some (.dK (bookK leaf mk)) → H' mk = some (.dK kvs) → MakAt H' kvs M → Vld3 leaf M → SameX d H H' → DiceAt H' d → Q (.ref pl) H'
abbrev NDM : List Str := ["_law_dice_here", "_law_way", "_law_names", "_law_a", "_law_b", "_law_c", "_law_some", "_law_found", "_law_name", "_law_kinds", "_law_turn"]
theorem ok_dm {f : Addr} {fd : FuncData} (F : Fun K "_law_drawn_makings" "_law_drawn_makings" s_law_drawn_makings f fd) (T : Top K mg) : FnOk P w K mg base CX0 4 f fd ["_law_dice_here"] spDM := by
  have cr : Cal P w K mg base 3 "_law_roll" ["_law_dice_here", "_law_total"] spRoll := (T.d_law_roll.cal fun f fd F => ok_roll F T).mono (by decide)
  have cp : Cal P w K mg base 3 "_law_pick" ["_law_dice_here", "_law_items"] (spPick K) := (T.d_law_pick.cal fun f fd F => ok_pick F T).mono (by decide)
  have cn : Cal P w K mg base 3 "_law_pool_names" ["_law_dice_here", "_law_many"] spPN := T.d_law_pool_names.cal fun f fd F => ok_pn F T
  refine F.ok sc_law_drawn_makings (fun vs H Q E h => ?_) (fun cdv A outer s H vs Q E hr h => ?_)
  · obtain ⟨d, rfl, _⟩ := h
    rfl
  · obtain ⟨d, rfl, hd, q⟩ := h
    have hu := hu_of hr
    refine ⟨_, pss_cut (ps_par (i := 1) (j := 2) rfl sc_law_drawn_makings.nd rfl rfl (by decide) rfl rfl (pa_cons (pe_cal cr hr (by rfl) (pa_cons (pv 0) (pa_cons pe_int pa_nil))) (pa_cons (pe_cal cn hr (by rfl) (pa_cons (pv 0) (pa_cons pe_int pa_nil))) pa_nil)) (by kernel_rfl))
      (pss_cut (ps_asg (pv 2) (pg_lstU (n := 3) rfl (pgs_cons (pg_name (i := 3) sc_law_drawn_makings.nd rfl (.inl rfl)) (pgs_cons (pg_name (i := 4) sc_law_drawn_makings.nd rfl (.inl rfl)) (pgs_cons (pg_name (i := 5) sc_law_drawn_makings.nd rfl (.inl rfl)) pgs_nil)))))
      (pss_cut (ps_if (pt_cmpR op_lt (pv 1) pe_int (nomark _))
        (pss_cut (ps_set (i := 6) sc_law_drawn_makings.nd rfl (.inl rfl) (pe_lst (pa_cons (pe_disp (pps_cons (pv 3) (pe_tupZ (pa_cons (pv 3) (pa_cons (pv 3) pa_nil))) pps_nil) rfl rfl (by decide) (by decide))
            (pa_cons (pe_disp (pps_cons (pv 3) (pe_tupZ (pa_cons (pv 3) (pa_cons (pv 3) (pa_cons (pv 3) pa_nil)))) pps_nil) rfl rfl (by decide) (by decide))
            (pa_cons (pe_disp (pps_cons (pv 3) (pe_tupZ (pa_cons (pv 3) (pa_cons (pv 3) pa_nil))) (pps_cons (pv 4) (pe_tupZ (pa_cons (pv 3) (pa_cons (pv 3) (pa_cons (pv 3) pa_nil)))) pps_nil)) rfl rfl (by decide) (by decide))
            (pa_cons (pe_disp (pps_cons (pv 3) (pe_tupZ (pa_cons (pv 4) (pa_cons (pv 4) (pa_cons (pv 4) pa_nil)))) (pps_cons (pv 4) (pe_tupZ (pa_cons (pv 3) (pa_cons (pv 3) pa_nil))) pps_nil)) rfl rfl (by decide) (by decide)) pa_nil))))))
        (pss_cut (ps_expr (pe_bm PySem.F.plainAttrs_list PySem.F.slot_list_append PySem.F.type_list_append mt_append (pv 6) (pa_cons (pe_disp (pps_cons (pv 3) (pe_callTy call_tupleZ (by rfl) T.b_tuple (by decide +kernel) (pa_cons (pe_callB cr_sortedS (by rfl) T.b_sorted (by decide +kernel) (pa_cons (pe_lst (pa_cons (pv 4) (pa_cons (pv 5) pa_nil))) pa_nil)) pa_nil))
            (pps_cons (pv 4) (pe_tupZ (pa_cons (pv 3) (pa_cons (pv 3) pa_nil))) (pps_cons (pv 5) (pe_tupZ (pa_cons (pv 3) (pa_cons (pv 3) (pa_cons (pv 3) pa_nil)))) pps_nil))) rfl rfl (by decide) (by decide)) pa_nil)))
        (pss_one (ps_ret (pe_disp (pps_cons pe_str (pv 3) (pps_cons pe_str (pe_ix ix_list (pv 6) (pv 1) (fun _ _ => rfl)) pps_nil)) rfl rfl (by decide) (by decide)))))) pss_nil)
      (pss_cut (ps_set (i := 7) sc_law_drawn_makings.nd rfl (.inl rfl) pe_dnewK)
      (pss_cut (ps_for PassesOwn.never rfl (pi_list (pe_slice sl_list (pv 2) (po_some pe_int) (po_some (pe_op op_add pe_int (pe_cal cr hr (by rfl) (pa_cons (pv 0) (pa_cons pe_int pa_nil))))))) (pg_name (i := 8) sc_law_drawn_makings.nd rfl (.inl rfl))
        (pss_one (ps_asg (pe_tupZ pa_nil) (pg_sub (pv 7) (pv 8) (set_dict hu)))))
      (pss_cut (ps_set (i := 9) sc_law_drawn_makings.nd rfl (.inr rfl) (pe_op op_cat (pe_lst (pa_cons (pv 3) pa_nil)) (pe_callTy (call_listD rfl) (by rfl) T.b_list (by decide +kernel) (pa_cons (pv 7) pa_nil))))
      (pss_cut (ps_for PassesOwn.never rfl (pi_list (pv 9)) (pg_name (i := 8) sc_law_drawn_makings.nd rfl (.inl rfl))
        (pss_one (ps_if (PW.pt (pw_or (pt_cmpR op_ne (pv 8) (pv 3) (nomark _)) (pw_or1 (pt_cmpR op_gt (pe_cal cr hr (by rfl) (pa_cons (pv 0) (pa_cons pe_int pa_nil))) pe_int (nomark _)))))
          (pss_one (ps_asg (pe_callTy call_tupleZ (by rfl) T.b_tuple (by decide +kernel) (pa_cons (pe_callB cr_sortedS (by rfl) T.b_sorted (by decide +kernel) (pa_cons
            (pe_lc (own := [("_law_turn", 10)]) (g := gName 10) (tt := tYes) rfl sc_law_drawn_makings.nd (pi_range1 (by rfl) T.b_range (pa_cons (pe_op op_add pe_int (pe_cal cr hr (by rfl) (pa_cons (pv 0) (pa_cons pe_int pa_nil)))) pa_nil))
              (blkOk_by (N := NDM) (sc := defScope s_law_drawn_makings) (by decide +kernel)) (fun _ _ _ _ _ => pg_name (i := 10) sc_law_drawn_makings.nd rfl (.inl rfl)) (fun _ _ _ _ _ => pts_nil)
              (fun _ _ _ _ _ => pe_cal cp hr (by rfl) (pa_cons (pv 0) (pa_cons (pv 9) pa_nil)))) pa_nil)) pa_nil)) (pg_sub (pv 7) (pv 8) (set_dict hu)))) pss_nil)))
      (pss_one (ps_ret (pe_disp (pps_cons pe_str (pv 3) (pps_cons pe_str (pv 7) pps_nil)) rfl rfl (by decide) (by decide)))))))))), ?_⟩
    have big : 100000 ≤ sizeLine := by decide
    -- the way and the names
    refine ⟨fun σ' G => ∃ (wy : Nat) (l : Addr) (a b c : Str), σ' = [some (.ref d), some (.int (wy : Nat)), some (.ref l), none, none, none, none, none, none, none, none] ∧ G l = some (.lst [.str a, .str b, .str c]) ∧ a ≠ b ∧ a ≠ c ∧ b ≠ c ∧ a ∈ EIGHT ∧ b ∈ EIGHT ∧ c ∈ EIGHT ∧ SameX d H G ∧ DiceAt G d ∧ H l = none, ?_, ?_⟩
    · refine ⟨_, rfl, d, _, rfl, hd, by decide, by decide, fun r x b c h0 h1 => ?_⟩
      obtain ⟨wy, rfl⟩ := Int.eq_ofNat_of_zero_le h0
      refine ⟨_, rfl, d, 3, rfl, by omega, dice_new x b c, fun l zs G sx hdG npl el nd hin len => ?_⟩
      have sx0 : SameX d H (upd H d (.lst [.int x, .int b, .int c])) := (SameX.refl d H).atd
      have hld : l ≠ d := dice_ne (dice_new x b c) npl
      obtain ⟨n1, n2, n3, rfl⟩ : ∃ n1 n2 n3, zs = [n1, n2, n3] := by
        match zs, len with
        | [n1, n2, n3], _ => exact ⟨n1, n2, n3, rfl⟩
      have q1 : n1 ≠ n2 ∧ n1 ≠ n3 ∧ n2 ≠ n3 := by
        simp only [List.nodup_cons, List.mem_cons, List.not_mem_nil, or_false, not_or] at nd
        exact ⟨nd.1.1, nd.1.2, nd.2.1⟩
      exact ⟨_, _, rfl, wy, l, n1, n2, n3, rfl, el, q1.1, q1.2.1, q1.2.2, hin _ (by simp), hin _ (by simp), hin _ (by simp), sx0.trans sx, hdG, sx0.free hld npl⟩
    rintro σ' G ⟨wy, l, a, b, c, rfl, el, nab, nac, nbc, pa, pb, pc, sx, hdG, nlH⟩
    refine ⟨fun σ' G' => σ' = [some (.ref d), some (.int (wy : Nat)), some (.ref l), some (.str a), some (.str b), some (.str c), none, none, none, none, none] ∧ G' = G, ?_, ?_⟩
    · exact ⟨_, rfl, l, _, rfl, .inl (.inl el), rfl, _, _, rfl, _, _, rfl, _, _, rfl, rfl, rfl, rfl⟩
    rintro σ' G' ⟨rfl, rfl⟩
    have hks : ∀ z ∈ [a, b, c], z ∈ EIGHT := fun z hz => by
      simp only [List.mem_cons, List.not_mem_nil, or_false] at hz
      rcases hz with rfl | rfl | rfl
      · exact pa
      · exact pb
      · exact pc
    refine ⟨fun σ' G2 => σ' = [some (.ref d), some (.int (wy : Nat)), some (.ref l), some (.str a), some (.str b), some (.str c), none, none, none, none, none] ∧ G2 = G', ?_, ?_⟩
    · refine ⟨_, rfl, _, _, rfl, rfl, _, rfl, ite2 (fun cw => ?_) (fun _ => ⟨rfl, rfl⟩)⟩
      have hw5 : wy < 5 := by
        have := of_decide_eq_true cw
        omega
      have ndab : ([Sum.inr a, Sum.inr b] : List Key).Nodup := by
        simp only [List.nodup_cons, List.mem_cons, List.not_mem_nil, or_false, not_false_eq_true, List.nodup_nil, and_true, true_and]
        exact fun e => nab (Sum.inr.inj e)
      have nd1 : ∀ z : Str, ([Sum.inr z] : List Key).Nodup := fun z => List.nodup_cons.mpr ⟨List.not_mem_nil, List.nodup_nil⟩
      have ndabc : ([Sum.inr a, Sum.inr b, Sum.inr c] : List Key).Nodup := by
        simp only [List.nodup_cons, List.mem_cons, List.not_mem_nil, or_false, not_false_eq_true, List.nodup_nil, and_true, not_or]
        exact ⟨⟨fun e => nab (Sum.inr.inj e), fun e => nac (Sum.inr.inj e)⟩, fun e => nbc (Sum.inr.inj e)⟩
      refine ⟨fun σ' G2 => ∃ (sl m0 m1 m2 m3 : Addr), σ' = [some (.ref d), some (.int (wy : Nat)), some (.ref l), some (.str a), some (.str b), some (.str c), some (.ref sl), none, none, none, none] ∧ G2 sl = some (.lst [.ref m0, .ref m1, .ref m2, .ref m3]) ∧
        Mkd G2 m0 [(a, [a, a])] ∧ Mkd G2 m1 [(a, [a, a, a])] ∧ Mkd G2 m2 [(a, [a, a]), (b, [a, a, a])] ∧ Mkd G2 m3 [(a, [b, b, b]), (b, [a, a])] ∧ G' sl = none ∧ Same G' G2, ?_, ?_⟩
      · refine fun p0 np0 => ⟨_, rfl, _, rfl, _, rfl, by show 2 ≤ sizeLine; omega, fun t0 H0 z0 n0 k0 => ?_⟩
        refine ⟨same_k n0 k0 _ _ upd_same, [(Sum.inr a, .ref t0)], rfl, by show 1 ≤ 15; omega, ?_⟩
        rw [merge_nil (more := [(Sum.inr a, V.ref t0)]) (nd1 a)]
        obtain ⟨sA, mA⟩ := disp_end (kvs := [(Sum.inr a, V.ref t0)]) (M := [(a, [a, a])]) np0 (same_k n0 k0) (.cons ⟨rfl, t0, rfl, z0⟩ .nil)
        generalize upd H0 p0 (.dK [(Sum.inr a, V.ref t0)]) = GA at sA mA ⊢
        refine fun p1 np1 => ⟨_, rfl, _, rfl, _, rfl, _, rfl, by show 3 ≤ sizeLine; omega, fun t1 H1 z1 n1 k1 => ?_⟩
        refine ⟨same_k n1 k1 _ _ upd_same, [(Sum.inr a, .ref t1)], rfl, by show 1 ≤ 15; omega, ?_⟩
        rw [merge_nil (more := [(Sum.inr a, V.ref t1)]) (nd1 a)]
        obtain ⟨sB, mB⟩ := disp_end (kvs := [(Sum.inr a, V.ref t1)]) (M := [(a, [a, a, a])]) np1 (same_k n1 k1) (.cons ⟨rfl, t1, rfl, z1⟩ .nil)
        generalize upd H1 p1 (.dK [(Sum.inr a, V.ref t1)]) = GB at sB mB ⊢
        refine fun p2 np2 => ⟨_, rfl, _, rfl, _, rfl, by show 2 ≤ sizeLine; omega, fun t2 H2 z2 n2 k2 => ⟨_, rfl, _, rfl, _, rfl, _, rfl, by show 3 ≤ sizeLine; omega, fun t3 H3 z3 n3 k3 => ?_⟩⟩
        have s23 : Same (upd GB p2 (.dK [])) H3 := fun b o e => same_k n3 k3 _ _ (same_k n2 k2 _ _ e)
        refine ⟨s23 _ _ upd_same, [(Sum.inr a, .ref t2), (Sum.inr b, .ref t3)], rfl, by show 2 ≤ 15; omega, ?_⟩
        rw [merge_nil (more := [(Sum.inr a, V.ref t2), (Sum.inr b, V.ref t3)]) ndab]
        obtain ⟨sC, mC⟩ := disp_end (kvs := [(Sum.inr a, V.ref t2), (Sum.inr b, V.ref t3)]) (M := [(a, [a, a]), (b, [a, a, a])]) np2 s23 (.cons ⟨rfl, t2, rfl, z2.mono (same_k n3 k3)⟩ (.cons ⟨rfl, t3, rfl, z3⟩ .nil))
        generalize upd H3 p2 (.dK [(Sum.inr a, V.ref t2), (Sum.inr b, V.ref t3)]) = GC at sC mC ⊢
        refine fun p3 np3 => ⟨_, rfl, _, rfl, _, rfl, _, rfl, by show 3 ≤ sizeLine; omega, fun t4 H4 z4 n4 k4 => ⟨_, rfl, _, rfl, _, rfl, by show 2 ≤ sizeLine; omega, fun t5 H5 z5 n5 k5 => ?_⟩⟩
        have s45 : Same (upd GC p3 (.dK [])) H5 := fun b o e => same_k n5 k5 _ _ (same_k n4 k4 _ _ e)
        refine ⟨s45 _ _ upd_same, [(Sum.inr a, .ref t4), (Sum.inr b, .ref t5)], rfl, by show 2 ≤ 15; omega, ?_⟩
        rw [merge_nil (more := [(Sum.inr a, V.ref t4), (Sum.inr b, V.ref t5)]) ndab]
        obtain ⟨sD, mD⟩ := disp_end (kvs := [(Sum.inr a, V.ref t4), (Sum.inr b, V.ref t5)]) (M := [(a, [b, b, b]), (b, [a, a])]) np3 s45 (.cons ⟨rfl, t4, rfl, z4.mono (same_k n5 k5)⟩ (.cons ⟨rfl, t5, rfl, z5⟩ .nil))
        generalize upd H5 p3 (.dK [(Sum.inr a, V.ref t4), (Sum.inr b, V.ref t5)]) = GD at sD mD ⊢
        refine ⟨by show 4 ≤ sizeLine; omega, fun sl nsl => ?_⟩
        have sE := same_new (o := .lst [V.ref p0, V.ref p1, V.ref p2, V.ref p3]) (Same.refl GD) nsl
        have sBE : Same GB _ := fun b o e => sE _ _ (sD _ _ (sC _ _ e))
        have sall : Same G' _ := fun b o e => sBE _ _ (sB _ _ (sA _ _ e))
        exact ⟨sl, p0, p1, p2, p3, rfl, upd_same, mA.same fun b o e => sBE _ _ (sB _ _ e), mB.same sBE, mC.same fun b o e => sE _ _ (sD _ _ e), mD.same sE, Same.free (H := G') (H' := GD) (fun b o e => sD _ _ (sC _ _ (sB _ _ (sA _ _ e)))) nsl, sall⟩
      rintro σ' G2 ⟨sl, m0, m1, m2, m3, rfl, esl, d0, d1, d2, d3, nsl, s2⟩
      refine ⟨fun σ' G3 => ∃ (m4 : Addr) (ps : List Str), σ' = [some (.ref d), some (.int (wy : Nat)), some (.ref l), some (.str a), some (.str b), some (.str c), some (.ref sl), none, none, none, none] ∧ G3 sl = some (.lst [.ref m0, .ref m1, .ref m2, .ref m3, .ref m4]) ∧
        Mkd G3 m0 [(a, [a, a])] ∧ Mkd G3 m1 [(a, [a, a, a])] ∧ Mkd G3 m2 [(a, [a, a]), (b, [a, a, a])] ∧ Mkd G3 m3 [(a, [b, b, b]), (b, [a, a])] ∧ Mkd G3 m4 [(a, ps), (b, [a, a]), (c, [a, a, a])] ∧ sortedS ps = true ∧ ps.Perm [b, c] ∧ Same G' G3, ?_, ?_⟩
      · refine ⟨_, rfl, ⟨.inl ⟨rfl, _, .inl (.inl esl)⟩, ?_⟩⟩
        refine fun p4 np4 => ⟨_, rfl, _, rfl, _, rfl, by show 2 ≤ sizeLine; omega, fun l1 nl1 => ?_⟩
        refine ⟨l1, [b, c], rfl, .inl (.inl upd_same), by show 2 < 64; omega, fun zs sp hperm hsrt nsp => ?_⟩
        have s5 : Same (upd G2 p4 (.dK [])) _ := same_new (o := .lst (zs.map V.str)) (same_new (o := .lst [V.str b, V.str c]) (Same.refl _) nl1) nsp
        refine ⟨sp, _, rfl, .inl (.inl upd_same), fun t6 H6 z6 n6 k6 => ⟨_, rfl, _, rfl, _, rfl, by show 2 ≤ sizeLine; omega, fun t7 H7 z7 n7 k7 => ⟨_, rfl, _, rfl, _, rfl, _, rfl, by show 3 ≤ sizeLine; omega, fun t8 H8 z8 n8 k8 => ?_⟩⟩⟩
        have s8 : Same (upd G2 p4 (.dK [])) H8 := fun b o e => same_k n8 k8 _ _ (same_k n7 k7 _ _ (same_k n6 k6 _ _ (s5 _ _ e)))
        refine ⟨s8 _ _ upd_same, [(Sum.inr a, .ref t6), (Sum.inr b, .ref t7), (Sum.inr c, .ref t8)], rfl, by show 3 ≤ 15; omega, ?_⟩
        rw [merge_nil (more := [(Sum.inr a, V.ref t6), (Sum.inr b, V.ref t7), (Sum.inr c, V.ref t8)]) ndabc]
        obtain ⟨sF, mF⟩ := disp_end (kvs := [(Sum.inr a, V.ref t6), (Sum.inr b, V.ref t7), (Sum.inr c, V.ref t8)]) (M := [(a, zs), (b, [a, a]), (c, [a, a, a])]) np4 s8 (.cons ⟨rfl, t6, rfl, z6.mono fun b o e => same_k n8 k8 _ _ (same_k n7 k7 _ _ e)⟩ (.cons ⟨rfl, t7, rfl, z7.mono (same_k n8 k8)⟩ (.cons ⟨rfl, t8, rfl, z8⟩ .nil)))
        generalize upd H8 p4 (.dK [(Sum.inr a, V.ref t6), (Sum.inr b, V.ref t7), (Sum.inr c, V.ref t8)]) = GF at sF mF ⊢
        have eF := sF _ _ esl
        refine ⟨sl, _, _, rfl, rfl, eF, by show 4 < sizeLine; omega, p4, zs, rfl, upd_same, ?_⟩
        have kp : ∀ {m : Addr} {M : Mak}, Mkd GF m M → Mkd (upd GF sl (.lst ([V.ref m0, V.ref m1, V.ref m2, V.ref m3] ++ [V.ref p4]))) m M := fun {m M} h => by
          obtain ⟨kvs, e, hM⟩ := h
          refine ⟨kvs, by rw [upd_ne (fun z => by rw [z, eF] at e; cases e)]; exact e, hM.same fun a xs q => q.at fun o h => ?_⟩
          rw [upd_ne (q.ne eF fun ob z => by cases z)]
          exact h
        refine ⟨kp (d0.same sF), kp (d1.same sF), kp (d2.same sF), kp (d3.same sF), kp mF, hsrt, hperm, fun b o e => ?_⟩
        rw [upd_ne (ne_of_none e nsl)]
        exact sF _ _ (s2 _ _ e)
      rintro σ' G3 ⟨m4, ps, rfl, esl3, d0, d1, d2, d3, d4, hsrt, hperm, s3⟩
      have hps : ∀ p ∈ ps, p = b ∨ p = c := fun p hp => by
        have := hperm.mem_iff.mp hp
        simpa using this
      have lps : ps.length = 2 := hperm.length_eq
      obtain ⟨mW, MW, hat, hW, hV⟩ : ∃ (mW : Addr) (MW : Mak), atI [V.ref m0, V.ref m1, V.ref m2, V.ref m3, V.ref m4] ((wy : Nat) : Int) = some (.ref mW) ∧ Mkd G3 mW MW ∧ Vld3 a MW := by
        have hw : wy = 0 ∨ wy = 1 ∨ wy = 2 ∨ wy = 3 ∨ wy = 4 := by omega
        rcases hw with rfl | rfl | rfl | rfl | rfl
        · refine ⟨m0, _, rfl, d0, vld_in [a, b, c] hks (by show 3 ≤ 3; omega) (by simp) (by simp [keysOf]) (by simp [keysOf]) fun m hm => ?_⟩
          simp only [List.mem_cons, List.not_mem_nil, or_false] at hm
          subst hm
          exact ⟨srt2 a, by simp, by simp, by simp⟩
        · refine ⟨m1, _, rfl, d1, vld_in [a, b, c] hks (by show 3 ≤ 3; omega) (by simp) (by simp [keysOf]) (by simp [keysOf]) fun m hm => ?_⟩
          simp only [List.mem_cons, List.not_mem_nil, or_false] at hm
          subst hm
          exact ⟨srt3 a, by simp, by simp, by simp⟩
        · refine ⟨m2, _, rfl, d2, vld_in [a, b, c] hks (by show 3 ≤ 3; omega) (by simp) (by simp [keysOf]) (by simp [keysOf, nab]) fun m hm => ?_⟩
          simp only [List.mem_cons, List.not_mem_nil, or_false] at hm
          rcases hm with rfl | rfl
          · exact ⟨srt2 a, by simp, by simp, by simp⟩
          · exact ⟨srt3 a, by simp, by simp, by simp⟩
        · refine ⟨m3, _, rfl, d3, vld_in [a, b, c] hks (by show 3 ≤ 3; omega) (by simp) (by simp [keysOf]) (by simp [keysOf, nab]) fun m hm => ?_⟩
          simp only [List.mem_cons, List.not_mem_nil, or_false] at hm
          rcases hm with rfl | rfl
          · exact ⟨srt3 b, by simp, by simp, by simp [keysOf]⟩
          · exact ⟨srt2 a, by simp, by simp, by simp⟩
        · refine ⟨m4, _, rfl, d4, vld_in [a, b, c] hks (by show 3 ≤ 3; omega) (by simp) (by simp [keysOf]) (by simp [keysOf, nab, nac, nbc]) fun m hm => ?_⟩
          simp only [List.mem_cons, List.not_mem_nil, or_false] at hm
          rcases hm with rfl | rfl | rfl
          · refine ⟨hsrt, by show 2 ≤ ps.length; omega, by show ps.length ≤ 3; omega, fun p hp => .inr ?_⟩
            rcases hps p hp with rfl | rfl
            · simp [keysOf]
            · simp [keysOf]
          · exact ⟨srt2 a, by simp, by simp, by simp⟩
          · exact ⟨srt3 a, by simp, by simp, by simp⟩
      have hd3 : DiceAt G3 d := by
        obtain ⟨x, y, z, e⟩ := hdG
        exact ⟨x, y, z, s3 _ _ e⟩
      refine fun pl npl => ?_
      have esl4 : (upd G3 pl (.dK [])) sl = some (.lst [V.ref m0, V.ref m1, V.ref m2, V.ref m3, V.ref m4]) := by
        rw [upd_ne (ne_of_none esl3 npl)]
        exact esl3
      refine ⟨_, rfl, _, rfl, _, rfl, sl, _, _, _, rfl, rfl, .inl (.inl esl4), hat, upd_same, bookK a mW, rfl, by show 2 ≤ 15; omega, ?_⟩
      rw [merge_nil (by show (([Sum.inr "leaf", Sum.inr "makings"] : List Key)).Nodup; decide +kernel)]
      obtain ⟨kvs, eW, hMW⟩ := hW
      have s4 : Same G3 (upd (upd G3 pl (.dK [])) pl (.dK (bookK a mW))) := fun b o e => by
        have nb := ne_of_none e npl
        rw [upd_ne nb, upd_ne nb]
        exact e
      refine q pl mW a kvs MW _ upd_same (s4 _ _ eW) (hMW.same fun _ _ q => q.mono s4) hV ((sx.trans (SameX.of s3)).trans (SameX.of s4)) ?_
      obtain ⟨x, y, z, e⟩ := hd3
      exact ⟨x, y, z, s4 _ _ e⟩
    rintro σ' G2 ⟨rfl, rfl⟩
    -- a dict
    refine ⟨fun σ' G => ∃ m : Addr, σ' = [some (.ref d), some (.int (wy : Nat)), some (.ref l), some (.str a), some (.str b), some (.str c), none, some (.ref m), none, none, none] ∧ G m = some (.dK []) ∧ H m = none ∧ G l = some (.lst [.str a, .str b, .str c]) ∧ SameX d H G ∧ DiceAt G d, ?_, ?_⟩
    · intro m nm
      have hmd : m ≠ d := dice_ne hdG nm
      exact ⟨m, rfl, upd_same, sx.free hmd nm, by rw [upd_ne (ne_of_none el nm)]; exact el, sx.new nm, dice_upd hdG hmd⟩
    rintro σ' G ⟨m, rfl, em, nmH, el, sx, hdG⟩
    have hmd : m ≠ d := dice_ne hd nmH
    have hld : l ≠ d := dice_ne hd nlH
    -- some of the names, with no parts
    refine ⟨fun σ' G => ∃ (y8 : Option V) (kvs : List (Key × V)) (M : Mak), σ' = [some (.ref d), some (.int (wy : Nat)), some (.ref l), some (.str a), some (.str b), some (.str c), none, some (.ref m), y8, none, none] ∧ G m = some (.dK kvs) ∧ MakAt G kvs M ∧ (keysOf M).Nodup ∧ (∀ z ∈ keysOf M, z = b ∨ z = c) ∧ (keysOf M).length ≤ 2 ∧ SameX d H G ∧ DiceAt G d, ?_, ?_⟩
    · refine ⟨_, rfl, _, rfl, _, rfl, d, _, rfl, hdG, by decide, by decide, fun r x b0 c0 h0 h1 => ⟨_, _, rfl, rfl, _, rfl, ?_⟩⟩
      obtain ⟨k, rfl⟩ := Int.eq_ofNat_of_zero_le h0
      have sd : SameX d G (upd G d (.lst [.int x, .int b0, .int c0])) := (SameX.refl d G).atd
      have el1 := sd _ _ hld el
      have em1 := sd _ _ hmd em
      have sx1 := sx.trans sd
      have hd1 := dice_new (H := G) (d := d) x b0 c0
      generalize upd G d (.lst [.int x, .int b0, .int c0]) = G1 at el1 em1 sx1 hd1
      refine ⟨l, _, rfl, .inl (.inl el1), fun rl nrl => ?_⟩
      obtain ⟨ns, ens, hns, nns, lns⟩ : ∃ ns : List Str, cutV [V.str a, V.str b, V.str c] (some 1) (some (1 + (k : Int))) = ns.map V.str ∧ (∀ z ∈ ns, z = b ∨ z = c) ∧ ns.Nodup ∧ ns.length ≤ 2 := by
        have hk : k = 0 ∨ k = 1 ∨ k = 2 := by omega
        rcases hk with rfl | rfl | rfl
        · exact ⟨[], rfl, nofun, List.nodup_nil, by show 0 ≤ 2; omega⟩
        · exact ⟨[b], rfl, by simp, by simp, by show 1 ≤ 2; omega⟩
        · exact ⟨[b, c], rfl, by simp, by simp [nbc], by show 2 ≤ 2; omega⟩
      rw [ens]
      have hrd : rl ≠ d := dice_ne hd1 nrl
      have s2 := same_new (o := .lst (ns.map V.str)) (Same.refl G1) nrl
      have erl : (upd G1 rl (.lst (ns.map V.str))) rl = some (.lst (ns.map V.str)) := upd_same
      have em2 := s2 _ _ em1
      have sx2 := sx1.new (o := .lst (ns.map V.str)) nrl
      have hd2 := dice_upd (o := .lst (ns.map V.str)) hd1 hrd
      have nrm : rl ≠ m := fun z => by rw [z, em1] at nrl; cases nrl
      have nrlH : H rl = none := sx1.free hrd nrl
      generalize upd G1 rl (.lst (ns.map V.str)) = G2 at erl em2 sx2 hd2
      refine ⟨rl, rfl, ⟨_, .inl (.inl erl)⟩, ?_⟩
      refine for_it (walk_list (K := K) (a := rl) (xs := ns.map V.str)) (fun j σ' G => ∃ (y8 : Option V) (kvs : List (Key × V)) (M : Mak), σ' = [some (.ref d), some (.int (wy : Nat)), some (.ref l), some (.str a), some (.str b), some (.str c), none, some (.ref m), y8, none, none] ∧ G m = some (.dK kvs) ∧ MakAt G kvs M ∧ keysOf M = ns.take j ∧ G rl = some (.lst (ns.map V.str)) ∧ SameX d H G ∧ DiceAt G d)
        ⟨none, [], [], rfl, em2, .nil, rfl, erl, sx2, hd2⟩ (fun j σ' G _ h => by obtain ⟨_, _, _, _, _, _, _, e, _⟩ := h; exact .inl (.inl e)) (fun j v σ' Gx G hj h hy => ?_) (fun σ' G h => ?_)
      · obtain ⟨y8, kvs, M, rfl, eM, hM, ek, eR, sx3, hd3⟩ := h
        obtain ⟨rfl, hv⟩ := hy
        obtain ⟨z, hz, rfl⟩ := at_texts hv
        have nz : z ∉ keysOf M := by
          rw [ek]
          exact take_not nns hz
        refine ⟨Nat.zero_le _, fun t H3 hz0 nt kt => ?_⟩
        have s3 := same_k nt kt
        have eM3 := s3 _ _ eM
        have lkv : kvs.length < sizeLine := by
          have h1 := hM.len
          have h2 : (keysOf M).length ≤ 2 := by
            rw [ek, List.length_take]
            omega
          unfold keysOf at h2
          rw [List.length_map] at h2
          omega
        refine ⟨_, rfl, _, rfl, m, _, rfl, .inl ⟨kvs, Sum.inr z, eM3, rfl, lkv, rfl⟩, ?_⟩
        have hM3 : MakAt H3 kvs M := hM.same fun _ _ q => q.mono s3
        have hP := hM3.put nz (ps := []) (t := t) hz0
        have hd4 : DiceAt H3 d := by
          obtain ⟨x, y, w, e⟩ := hd3
          exact ⟨x, y, w, s3 _ _ e⟩
        refine ⟨_, putK kvs (Sum.inr z) (.ref t), M ++ [(z, [])], rfl, upd_same, hP.same fun b' xs q => q.at fun o e => ?_, ?_, ?_, (sx3.trans (SameX.of s3)).at nmH, dice_upd hd4 hmd⟩
        · rw [upd_ne (q.ne eM3 fun ob h => by cases h)]
          exact e
        · rw [show keysOf (M ++ [(z, [])]) = keysOf M ++ [z] by unfold keysOf; rw [List.map_append]; rfl, ek, take_snoc hz]
        · rw [upd_ne nrm]
          exact s3 _ _ eR
      · obtain ⟨y8, kvs, M, rfl, eM, hM, ek, eR, sx3, hd3⟩ := h
        rw [List.length_map, List.take_length] at ek
        exact ⟨y8, kvs, M, rfl, eM, hM, by rw [ek]; exact nns, by rw [ek]; exact hns, by rw [ek]; exact lns, sx3, hd3⟩
    rintro σ' G ⟨y8, kvs, M, rfl, eM, hM, ndM, hMn, lM, sx, hdG⟩
    -- all kinds
    have hak : a ∉ keysOf M := fun h => by
      rcases hMn a h with e | e
      · exact nab e
      · exact nac e
    have lkM : kvs.length = (keysOf M).length := by
      rw [hM.len]
      unfold keysOf
      rw [List.length_map]
    refine ⟨fun σ' G' => ∃ kl : Addr, σ' = [some (.ref d), some (.int (wy : Nat)), some (.ref l), some (.str a), some (.str b), some (.str c), none, some (.ref m), y8, some (.ref kl), none] ∧ G' kl = some (.lst ((a :: keysOf M).map V.str)) ∧ G kl = none ∧ Same G G', ?_, ?_⟩
    · refine ⟨_, rfl, by show 1 ≤ sizeLine; omega, fun l1 n1 => ?_⟩
      have s1 := same_new (o := .lst [V.str a]) (Same.refl G) n1
      refine ⟨_, rfl, m, kvs, rfl, .inl (s1 _ _ eM), fun l2 n2 => ?_⟩
      have ek : (kvs.map fun kv => kV kv.1) = (keysOf M).map V.str := by
        have := hM.keys
        rw [show (kvs.map fun kv => kV kv.1) = (kvs.map (·.1)).map kV by rw [List.map_map]; rfl, this, List.map_map]
        rfl
      rw [ek]
      have s2 := same_new (o := .lst ((keysOf M).map V.str)) s1 n2
      have e1 : (upd (upd G l1 (.lst [V.str a])) l2 (.lst ((keysOf M).map V.str))) l1 = some (.lst [V.str a]) := by
        rw [upd_ne (ne_of_none upd_same n2)]
        exact upd_same
      refine ⟨l1, l2, _, _, rfl, rfl, e1, upd_same, ?_, fun l3 n3 => ?_⟩
      · rw [List.length_map]
        show 1 + _ ≤ sizeLine
        omega
      exact ⟨l3, rfl, upd_same, s2.free n3, same_new s2 n3⟩
    rintro σ' G1 ⟨kl, rfl, ekl, nklG, s1⟩
    have hkld : kl ≠ d := dice_ne hdG nklG
    have nklH : H kl = none := sx.free hkld nklG
    have nklm : kl ≠ m := fun z => by rw [z, eM] at nklG; cases nklG
    have hd1 : DiceAt G1 d := by
      obtain ⟨x, y, w, e⟩ := hdG
      exact ⟨x, y, w, s1 _ _ e⟩
    have hk3 : (a :: keysOf M).length ≤ 3 := by
      rw [List.length_cons]
      omega
    have hkp : ∀ z ∈ a :: keysOf M, z ∈ EIGHT := fun z hz => by
      rcases List.mem_cons.mp hz with rfl | hz
      · exact pa
      · rcases hMn z hz with rfl | rfl
        · exact pb
        · exact pc
    have dr0 : DrM (a :: keysOf M) a 0 M := ⟨ndM, fun z hz => List.mem_cons_of_mem _ hz, fun z hz => List.mem_cons.mp hz, fun z ps _ h => (nomatch h), fun _ => hak⟩
    have eM1 := s1 _ _ eM
    have hM1 : MakAt G1 kvs M := hM.same fun _ _ q => q.mono s1
    have h0 : (a :: keysOf M)[0]? = some a := rfl
    have sx1 := sx.trans (SameX.of s1)
    generalize a :: keysOf M = ks at ekl hk3 hkp dr0 h0
    have hka : a ∈ ks := List.mem_of_getElem? h0
    refine ⟨fun σ' G => ∃ (y8 : Option V) (kvs : List (Key × V)) (M : Mak), σ' = [some (.ref d), some (.int (wy : Nat)), some (.ref l), some (.str a), some (.str b), some (.str c), none, some (.ref m), y8, some (.ref kl), none] ∧ G m = some (.dK kvs) ∧ MakAt G kvs M ∧ Vld3 a M ∧ SameX d H G ∧ DiceAt G d, ?_, ?_⟩
    · refine ⟨_, rfl, kl, rfl, ⟨_, .inl (.inl ekl)⟩, ?_⟩
      refine for_it (walk_list (K := K) (a := kl) (xs := ks.map V.str)) (fun j σ' G => ∃ (y8 : Option V) (kvs : List (Key × V)) (M : Mak), σ' = [some (.ref d), some (.int (wy : Nat)), some (.ref l), some (.str a), some (.str b), some (.str c), none, some (.ref m), y8, some (.ref kl), none] ∧ G m = some (.dK kvs) ∧ MakAt G kvs M ∧ DrM ks a j M ∧ G kl = some (.lst (ks.map V.str)) ∧ SameX d H G ∧ DiceAt G d)
        ⟨y8, kvs, M, rfl, eM1, hM1, dr0, ekl, sx1, hd1⟩ (fun j σ' G _ h => by obtain ⟨_, _, _, _, _, _, _, e, _⟩ := h; exact .inl (.inl e)) (fun j v σ' Gx G hj h hy => ?_) (fun σ' G h => ?_)
      · obtain ⟨y8, kvs, M, rfl, eM, hM, dr, eK, sx3, hd3⟩ := h
        obtain ⟨rfl, hv⟩ := hy
        obtain ⟨z, hz, rfl⟩ := at_texts hv
        refine or_mid (fun cc G' => SameX d G G' ∧ DiceAt G' d ∧ (cc = false → z = a)) (fun Q' hQ' => ?_) (fun cc G' hc => ?_)
        · refine ⟨_, rfl, _, rfl, rfl, _, rfl, ite2 (fun e => ?_) (fun e => ?_)⟩
          · exact hQ' _ _ ⟨SameX.refl d G, hd3, nofun⟩
          · have ez : z = a := by
              have h1 : decide (V.str z = V.str a) = true := by
                cases hh : decide (V.str z = V.str a) with
                | true => rfl
                | false =>
                  rw [hh] at e
                  exact absurd rfl e
              exact V.str.inj (of_decide_eq_true h1)
            refine ⟨_, rfl, d, _, rfl, hd3, by decide, by decide, fun r x b0 c0 g0 g1 => ⟨_, _, rfl, rfl, _, rfl, hQ' _ _ ⟨(SameX.refl d G).atd, dice_new x b0 c0, fun _ => ez⟩⟩⟩
        obtain ⟨sG, hd4, hc⟩ := hc
        have eM4 := sG _ _ hmd eM
        have eK4 := sG _ _ hkld eK
        have hM4 : MakAt G' kvs M := hM.samex hd3 sG
        have sx4 := sx3.trans sG
        cases cc with
        | false =>
          have ez := hc rfl
          subst ez
          exact ⟨_, kvs, M, rfl, eM4, hM4, dr.skip hz h0, eK4, sx4, hd4⟩
        | true =>
          refine ⟨_, rfl, d, _, rfl, hd4, by decide, by decide, fun r x b' c' h0' h1' => ⟨_, _, rfl, rfl, _, rfl, by omega, by omega, fun D nD => ?_⟩⟩
          obtain ⟨k, rfl⟩ := Int.eq_ofNat_of_zero_le h0'
          have sd : SameX d G' (upd G' d (.lst [.int x, .int b', .int c'])) := (SameX.refl d G').atd
          have hd5 := dice_new (H := G') (d := d) x b' c'
          have eM5 := sd _ _ hmd eM4
          have eK5 := sd _ _ hkld eK4
          have hM5 : MakAt _ kvs M := hM4.samex hd4 sd
          have sx5 := sx4.trans sd
          generalize upd G' d (.lst [.int x, .int b', .int c']) = G5 at hd5 eM5 eK5 hM5 sx5 nD
          have hDd : D ≠ d := dice_ne hd5 nD
          have e2k : ((2 : Int) + (k : Int)).toNat = k + 2 := by omega
          rw [e2k]
          refine lc_range (lo := 0) (fun jj GG => ∃ fs : List Str, GG D = some (.lst (fs.map V.str)) ∧ fs.length = jj ∧ (∀ p ∈ fs, p ∈ ks) ∧ SameX d G5 GG ∧ DiceAt GG d)
            ⟨[], upd_same, rfl, nofun, (SameX.refl d _).new nD, dice_upd hd5 hDd⟩ (fun jj GG hjj hP => ?_) (fun GG hP => ?_)
          · obtain ⟨fs, eD, lf, hf, sxg, hdg⟩ := hP
            refine ⟨rfl, _, rfl, _, rfl, d, .ref kl, _, rfl, hdg, .inl ⟨kl, rfl, hkld, .inl (.inl (.inl (sxg _ _ hkld eK5)))⟩, (fun h => by rw [List.map_eq_nil_iff.mp h] at hka; exact List.not_mem_nil hka), by rw [List.length_map]; omega, fun v x b c hv => ?_⟩
            obtain ⟨pp, hpp, rfl⟩ := List.mem_map.mp hv
            refine ⟨fs.map V.str, by rw [upd_ne hDd]; exact eD, ?_, fs ++ [pp], ?_, by rw [List.length_append, lf]; rfl, fun y hy => ?_, ?_, dice_upd (dice_new _ _ _) hDd⟩
            · rw [List.length_map]
              omega
            · rw [upd_same, List.map_append]
              rfl
            · rw [List.mem_append, List.mem_singleton] at hy
              rcases hy with hy | rfl
              · exact hf y hy
              · exact hpp
            · exact sxg.atd.at nD
          · obtain ⟨fs, eD, lf, hf, sxg, hdg⟩ := hP
            refine ⟨D, fs, rfl, .inl (.inl eD), by omega, fun zs' sp hperm hsrt nsp => ?_⟩
            refine ⟨sp, _, rfl, .inl (.inl upd_same), fun t H3 ht nt heq => ?_⟩
            have sm : Same GG H3 := fun b u e => by
              rw [heq b (ne_of_none (same_new (Same.refl GG) nsp b u e) nt)]
              exact same_new (Same.refl GG) nsp b u e
            have lz := hperm.length_eq
            have pz : ∀ p ∈ zs', p ∈ ks := fun p hp => hf p (hperm.mem_iff.mp hp)
            have eM7 := sm _ _ (sxg _ _ hmd eM5)
            have eK7 := sm _ _ (sxg _ _ hkld eK5)
            have hM7 : MakAt H3 kvs M := (hM5.samex hd5 sxg).same fun _ _ q => q.mono sm
            have hd7 : DiceAt H3 d := by
              obtain ⟨x, y, w, e⟩ := hdg
              exact ⟨x, y, w, sm _ _ e⟩
            have lkv : kvs.length < sizeLine := by
              rw [hM7.len]
              have h1 := nodup_len dr.nd dr.sub
              unfold keysOf at h1
              rw [List.length_map] at h1
              omega
            refine ⟨_, rfl, _, rfl, m, _, rfl, .inl ⟨kvs, Sum.inr z, eM7, rfl, lkv, rfl⟩, ?_⟩
            refine ⟨_, putK kvs (Sum.inr z) (.ref t), putM M z zs', rfl, upd_same, (hM7.putM ht).same fun b' xs q => q.at fun o e => ?_, dr.put hz ⟨hsrt, by omega, by omega, pz⟩, ?_, ((sx5.trans sxg).trans (SameX.of sm)).at nmH, dice_upd hd7 hmd⟩
            · rw [upd_ne (q.ne eM7 fun ob h => by cases h)]
              exact e
            · rw [upd_ne nklm]
              exact eK7
      · obtain ⟨y8, kvs, M, rfl, eM, hM, dr, eK, sx3, hd3⟩ := h
        rw [List.length_map] at dr
        exact ⟨y8, kvs, M, rfl, eM, hM, dr.vld hkp (by omega) hka, sx3, hd3⟩
    rintro σ' G2 ⟨y8, kvs, M, rfl, eM, hM, hV, sx2, hd2⟩
    refine fun pl npl => ?_
    refine ⟨_, rfl, _, rfl, upd_same, bookK a m, rfl, by show 2 ≤ 15; omega, ?_⟩
    rw [merge_nil (by show (([Sum.inr "leaf", Sum.inr "makings"] : List Key)).Nodup; decide +kernel)]
    have s4 : Same G2 (upd (upd G2 pl (.dK [])) pl (.dK (bookK a m))) := fun b o e => by
      have nb := ne_of_none e npl
      rw [upd_ne nb, upd_ne nb]
      exact e
    refine q pl m a kvs M _ upd_same (s4 _ _ eM) (hM.same fun _ _ q => q.mono s4) hV (sx2.trans (SameX.of s4)) ?_
    obtain ⟨x, y, z, e⟩ := hd2
    exact ⟨x, y, z, s4 _ _ e⟩
end
end Kl

set_option maxRecDepth 100000
set_option maxHeartbeats 4000000
namespace Kl
open PySem PySem.Spec PyProof.Rows L2 Gx Mx
theorem sqT_sm {K : PySem.W.Frag} {H H1 : Hp} {a : Addr} {xs : List V} (s : Same H H1) (q : SqT K H a xs) : SqT K H1 a xs := sqT_st s q
end Kl

set_option maxRecDepth 100000
set_option maxHeartbeats 4000000
namespace Kl
open PySem PySem.Spec PyProof.Rows L2 Gx Mx
/-! ### kinds opened again and again: the mathematics -/
/-- no making is empty -/
structure Nem (M : Mak) : Prop where
  nd : (keysOf M).Nodup
  ne : ∀ m ∈ M, m.2 ≠ []
theorem Vld.nem {leaf : Str} {M : Mak} (v : Vld leaf M) : Nem M := ⟨v.nd, fun m hm e => by
  have h := (v.parts m hm).2.1
  rw [e] at h
  exact absurd h (by show ¬ 2 ≤ 0; omega)⟩
/-- one more of c times p -/
def addR : Row → Str → Nat → Row
  | [], p, c => [(p, c)]
  | q :: S, p, c => if q.1 = p then (q.1, q.2 + c) :: S else q :: addR S p c
/-- its parts, c times each -/
def addP (c : Nat) (S : Row) (ps : List Str) : Row := ps.foldl (fun S p => addR S p c) S
def prt (M : Mak) (z : Str) : List Str := (lookM M z).getD []
/-- all of them opened once -/
def openF (M : Mak) (S R : Row) : Row := R.foldl (fun S q => addP q.2 S (prt M q.1)) S
def openR (M : Mak) (R : Row) : Row := openF M [] R
def canR (M : Mak) (R : Row) : Prop := ∀ q ∈ R, q.1 ∈ keysOf M
def opR (M : Mak) (z : Str) : Nat → Row
  | 0 => [(z, 1)]
  | n + 1 => openR M (opR M z n)
def tot (R : Row) (g : Str → Nat) : Nat := (R.map fun q => q.2 * g q.1).sum
theorem addR_keys {z : Str} : ∀ {S : Row} {p : Str} {c : Nat}, z ∈ keysR (addR S p c) ↔ z ∈ keysR S ∨ z = p
  | [], p, c => by
    show z ∈ [p] ↔ z ∈ [] ∨ z = p
    rw [List.mem_singleton]
    exact ⟨.inr, fun h => h.resolve_left List.not_mem_nil⟩
  | q :: S, p, c => by
    unfold addR
    by_cases e : q.1 = p
    · rw [if_pos e]
      show z ∈ q.1 :: keysR S ↔ z ∈ q.1 :: keysR S ∨ z = p
      refine ⟨.inl, fun h => h.elim id fun h => ?_⟩
      rw [h, ← e]
      exact List.mem_cons_self
    · rw [if_neg e]
      show z ∈ q.1 :: keysR (addR S p c) ↔ z ∈ q.1 :: keysR S ∨ z = p
      rw [List.mem_cons, List.mem_cons, addR_keys, or_assoc]
theorem addR_nd : ∀ {S : Row} {p : Str} {c : Nat}, (keysR S).Nodup → (keysR (addR S p c)).Nodup
  | [], p, c, _ => List.nodup_cons.mpr ⟨List.not_mem_nil, List.nodup_nil⟩
  | q :: S, p, c, h => by
    have h' : (q.1 :: keysR S).Nodup := h
    rw [List.nodup_cons] at h'
    unfold addR
    by_cases e : q.1 = p
    · rw [if_pos e]
      exact h
    · rw [if_neg e]
      show (q.1 :: keysR (addR S p c)).Nodup
      refine List.nodup_cons.mpr ⟨fun hq => ?_, addR_nd h'.2⟩
      rcases addR_keys.mp hq with hq | hq
      · exact h'.1 hq
      · exact e hq
theorem addR_tot (g : Str → Nat) : ∀ (S : Row) (p : Str) (c : Nat), tot (addR S p c) g = tot S g + c * g p
  | [], p, c => by
    show (c * g p + 0) = 0 + c * g p
    omega
  | q :: S, p, c => by
    unfold addR
    by_cases e : q.1 = p
    · rw [if_pos e]
      show (q.2 + c) * g q.1 + tot S g = q.2 * g q.1 + tot S g + c * g p
      rw [Nat.add_mul, e]
      omega
    · rw [if_neg e]
      show q.2 * g q.1 + tot (addR S p c) g = q.2 * g q.1 + tot S g + c * g p
      rw [addR_tot g S p c]
      omega
theorem addP_keys {z : Str} {c : Nat} : ∀ {ps : List Str} {S : Row}, z ∈ keysR (addP c S ps) ↔ z ∈ keysR S ∨ z ∈ ps
  | [], S => ⟨.inl, fun h => h.resolve_right List.not_mem_nil⟩
  | p :: ps, S => by
    show z ∈ keysR (addP c (addR S p c) ps) ↔ _
    rw [addP_keys, addR_keys, List.mem_cons, or_assoc]
theorem addP_nd {c : Nat} : ∀ {ps : List Str} {S : Row}, (keysR S).Nodup → (keysR (addP c S ps)).Nodup
  | [], _, h => h
  | p :: ps, S, h => addP_nd (ps := ps) (S := addR S p c) (addR_nd h)
theorem addP_tot (g : Str → Nat) {c : Nat} : ∀ (ps : List Str) (S : Row), tot (addP c S ps) g = tot S g + c * (ps.map g).sum
  | [], S => by
    show tot S g = tot S g + c * 0
    omega
  | p :: ps, S => by
    show tot (addP c (addR S p c) ps) g = _
    rw [addP_tot g ps, addR_tot, List.map_cons, List.sum_cons, Nat.mul_add]
    omega
theorem openF_keys {M : Mak} {z : Str} : ∀ {R S : Row}, z ∈ keysR (openF M S R) ↔ z ∈ keysR S ∨ ∃ q ∈ R, z ∈ prt M q.1
  | [], S => ⟨.inl, fun h => h.resolve_right fun ⟨_, h, _⟩ => nomatch h⟩
  | q :: R, S => by
    show z ∈ keysR (openF M (addP q.2 S (prt M q.1)) R) ↔ _
    rw [openF_keys, addP_keys, or_assoc]
    refine or_congr_right ⟨fun h => h.elim (fun h => ⟨q, List.mem_cons_self, h⟩) fun ⟨x, h1, h2⟩ => ⟨x, List.mem_cons_of_mem _ h1, h2⟩, fun ⟨x, h1, h2⟩ => ?_⟩
    rcases List.mem_cons.mp h1 with rfl | h1
    · exact .inl h2
    · exact .inr ⟨x, h1, h2⟩
theorem openF_nd {M : Mak} : ∀ {R S : Row}, (keysR S).Nodup → (keysR (openF M S R)).Nodup
  | [], _, h => h
  | q :: R, S, h => openF_nd (R := R) (S := addP q.2 S (prt M q.1)) (addP_nd h)
theorem openF_tot {M : Mak} (g : Str → Nat) : ∀ (R S : Row), tot (openF M S R) g = tot S g + tot R fun k => ((prt M k).map g).sum
  | [], S => rfl
  | q :: R, S => by
    show tot (openF M (addP q.2 S (prt M q.1)) R) g = _
    rw [openF_tot g R, addP_tot]
    show _ = tot S g + (q.2 * ((prt M q.1).map g).sum + tot R fun k => ((prt M k).map g).sum)
    omega
theorem opR_nd {M : Mak} {z : Str} : ∀ n, (keysR (opR M z n)).Nodup
  | 0 => List.nodup_cons.mpr ⟨List.not_mem_nil, List.nodup_nil⟩
  | n + 1 => openF_nd List.nodup_nil
theorem key_in {R : Row} {z : Str} (h : z ∈ keysR R) : ∃ q ∈ R, q.1 = z := by
  obtain ⟨q, h1, h2⟩ := List.mem_map.mp h
  exact ⟨q, h1, h2⟩
theorem in_key {R : Row} {q : Str × Nat} (h : q ∈ R) : q.1 ∈ keysR R := List.mem_map.mpr ⟨q, h, rfl⟩
theorem prt_of {M : Mak} {z : Str} {ps : List Str} (h : lookM M z = some ps) : prt M z = ps := by
  unfold prt
  rw [h]
  rfl
theorem opR_ne {M : Mak} (v : Nem M) {z : Str} : ∀ {n : Nat}, (∀ i, i < n → canR M (opR M z i)) → keysR (opR M z n) ≠ []
  | 0, _ => nofun
  | n + 1, h => by
    have ih := opR_ne v (n := n) fun i hi => h i (by omega)
    intro e
    cases c : opR M z n with
    | nil => exact ih (by rw [c]; rfl)
    | cons q R =>
      have hq : q ∈ opR M z n := by rw [c]; exact List.mem_cons_self
      obtain ⟨ps, hps⟩ := lookM_in (h n (by omega) q hq)
      have two : ps ≠ [] := v.ne _ (lookM_some hps)
      cases ps with
      | nil => exact absurd rfl two
      | cons p ps =>
        have : p ∈ keysR (opR M z (n + 1)) := openF_keys.mpr (.inr ⟨q, hq, by rw [prt_of hps]; exact List.mem_cons_self⟩)
        rw [e] at this
        cases this
/-- the size of a kind at a rank -/
def siz (leaf : Str) (M : Mak) (r : Nat) (z : Str) : Nat := getR (rowsR leaf M r) z
theorem mem_succ {leaf : Str} {M : Mak} (nd : (keysOf M).Nodup) {r : Nat} {z : Str} : z ∈ setR leaf M (r + 1) ↔ ∃ ps, lookM M z = some ps ∧ ∀ p ∈ ps, p ∈ setR leaf M r := by
  rw [set_succ]
  unfold aboveE
  rw [List.mem_map]
  constructor
  · rintro ⟨m, hm, rfl⟩
    obtain ⟨h1, h2⟩ := List.mem_filter.mp hm
    exact ⟨m.2, lookM_mem nd h1, fun p hp => of_decide_eq_true (List.all_eq_true.mp h2 p hp)⟩
  · rintro ⟨ps, h1, h2⟩
    refine ⟨(z, ps), List.mem_filter.mpr ⟨lookM_some h1, ?_⟩, rfl⟩
    exact List.all_eq_true.mpr fun p hp => decide_eq_true (h2 p hp)
theorem lookR_above {M : Mak} {R : Row} : ∀ {N : Mak}, (keysOf N).Nodup → ∀ {z : Str} {ps : List Str}, (z, ps) ∈ N → fitsR (keysR R) ps = true → lookR ((N.filter fun m => fitsR (keysR R) m.2).map fun m => (m.1, (m.2.map (getR R)).sum)) z = some (ps.map (getR R)).sum
  | [], _, _, _, h, _ => nomatch h
  | m :: N, nd, z, ps, h, hf => by
    have nd' : (m.1 :: keysOf N).Nodup := nd
    rw [List.nodup_cons] at nd'
    rw [List.filter_cons]
    rcases List.mem_cons.mp h with e | h
    · subst e
      rw [if_pos hf, List.map_cons, lookR_cons, if_pos rfl]
    · have ne : m.1 ≠ z := fun e => nd'.1 (by rw [e]; exact List.mem_map.mpr ⟨(z, ps), h, rfl⟩)
      have ih := lookR_above (M := M) (R := R) nd'.2 h hf
      by_cases c : fitsR (keysR R) m.2 = true
      · rw [if_pos c, List.map_cons, lookR_cons, if_neg ne]
        exact ih
      · rw [if_neg c]
        exact ih
theorem siz_succ {leaf : Str} {M : Mak} (nd : (keysOf M).Nodup) {r : Nat} {z : Str} {ps : List Str} (h1 : lookM M z = some ps) (h2 : ∀ p ∈ ps, p ∈ setR leaf M r) : siz leaf M (r + 1) z = (ps.map (siz leaf M r)).sum := by
  unfold siz
  have h := lookR_above (M := M) (R := rowsR leaf M r) nd (lookM_some h1) (List.all_eq_true.mpr fun p hp => decide_eq_true (h2 p hp))
  show getR (aboveR M (rowsR leaf M r)) z = _
  unfold getR aboveR
  rw [h]
  rfl
theorem siz_zero (leaf : Str) (M : Mak) : siz leaf M 0 leaf = 1 := by
  unfold siz getR
  show (lookR [(leaf, 1)] leaf).getD 0 = 1
  rw [lookR_cons, if_pos rfl]
  rfl
theorem mem_zero {leaf : Str} {M : Mak} {z : Str} : z ∈ setR leaf M 0 ↔ z = leaf := List.mem_singleton
theorem tot_congr {R : Row} {g h : Str → Nat} (e : ∀ q ∈ R, g q.1 = h q.1) : tot R g = tot R h := by
  unfold tot
  rw [List.map_congr_left fun q hq => by rw [e q hq]]
/-- opened once -/
theorem stp_mem {leaf : Str} {M : Mak} (nd : (keysOf M).Nodup) {m : Nat} {R : Row} (h : ∀ z ∈ keysR R, z ∈ setR leaf M (m + 1)) : canR M R ∧ (∀ y ∈ keysR (openR M R), y ∈ setR leaf M m) ∧ tot R (siz leaf M (m + 1)) = tot (openR M R) (siz leaf M m) := by
  refine ⟨fun q hq => ?_, fun y hy => ?_, ?_⟩
  · obtain ⟨ps, h1, _⟩ := (mem_succ nd).mp (h _ (in_key hq))
    exact List.mem_map.mpr ⟨_, lookM_some h1, rfl⟩
  · rcases openF_keys.mp hy with hy | ⟨q, hq, hy⟩
    · cases hy
    · obtain ⟨ps, h1, h2⟩ := (mem_succ nd).mp (h _ (in_key hq))
      rw [prt_of h1] at hy
      exact h2 y hy
  · unfold openR
    rw [openF_tot]
    show _ = 0 + _
    rw [Nat.zero_add]
    refine tot_congr fun q hq => ?_
    obtain ⟨ps, h1, h2⟩ := (mem_succ nd).mp (h _ (in_key hq))
    rw [siz_succ nd h1 h2, prt_of h1]
theorem stp_back {leaf : Str} {M : Mak} (nd : (keysOf M).Nodup) {m : Nat} {R : Row} (c : canR M R) (h : ∀ y ∈ keysR (openR M R), y ∈ setR leaf M m) : ∀ z ∈ keysR R, z ∈ setR leaf M (m + 1) := by
  intro z hz
  obtain ⟨q, hq, rfl⟩ := key_in hz
  obtain ⟨ps, hps⟩ := lookM_in (c q hq)
  exact (mem_succ nd).mpr ⟨ps, hps, fun p hp => h p (openF_keys.mpr (.inr ⟨q, hq, by rw [prt_of hps]; exact hp⟩))⟩
/-- opened n times -/
theorem opn_mem {leaf : Str} {M : Mak} (nd : (keysOf M).Nodup) {z : Str} : ∀ {n m : Nat}, z ∈ setR leaf M (n + m) → (∀ i, i < n → canR M (opR M z i)) ∧ (∀ y ∈ keysR (opR M z n), y ∈ setR leaf M m) ∧ siz leaf M (n + m) z = tot (opR M z n) (siz leaf M m)
  | 0, m, h => by
    rw [Nat.zero_add] at h ⊢
    refine ⟨fun i hi => absurd hi (Nat.not_lt_zero _), fun y hy => by rw [List.mem_singleton.mp hy]; exact h, ?_⟩
    show _ = 1 * siz leaf M m z + 0
    omega
  | n + 1, m, h => by
    have h' : z ∈ setR leaf M (n + (m + 1)) := by rw [show n + (m + 1) = n + 1 + m by omega]; exact h
    obtain ⟨h1, h2, h3⟩ := opn_mem nd h'
    obtain ⟨h4, h5, h6⟩ := stp_mem nd h2
    refine ⟨fun i hi => ?_, h5, ?_⟩
    · by_cases c : i = n
      · rw [c]
        exact h4
      · exact h1 i (by omega)
    · rw [show n + 1 + m = n + (m + 1) by omega, h3, h6]
      rfl
theorem opn_back {leaf : Str} {M : Mak} (nd : (keysOf M).Nodup) {z : Str} : ∀ {n m : Nat}, (∀ i, i < n → canR M (opR M z i)) → (∀ y ∈ keysR (opR M z n), y ∈ setR leaf M m) → z ∈ setR leaf M (n + m)
  | 0, m, _, hl => by
    rw [Nat.zero_add]
    exact hl z (List.mem_singleton.mpr rfl)
  | n + 1, m, h, hr => by
    have := opn_back nd (n := n) (m := m + 1) (fun i hi => h i (by omega)) (stp_back nd (h n (by omega)) hr)
    rw [show n + 1 + m = n + (m + 1) by omega]
    exact this
/-- leaves alone: the kind exists there -/
theorem leaves {leaf : Str} {M : Mak} (v : Nem M) {z : Str} {d : Nat} (h : ∀ i, i < d → canR M (opR M z i)) : keysR (opR M z d) = [leaf] ↔ z ∈ setR leaf M d := by
  constructor
  · intro e
    have := opn_back v.nd (m := 0) h fun y hy => by
      rw [e] at hy
      exact mem_zero.mpr (List.mem_singleton.mp hy)
    exact this
  · intro hz
    obtain ⟨_, h2, _⟩ := opn_mem v.nd (n := d) (m := 0) hz
    have nd := opR_nd (M := M) (z := z) d
    have ne := opR_ne v h
    revert nd ne h2
    cases keysR (opR M z d) with
    | nil => exact fun _ _ ne => absurd rfl ne
    | cons a l =>
      intro h2 nd _
      have ha : a = leaf := mem_zero.mp (h2 a List.mem_cons_self)
      subst ha
      cases l with
      | nil => rfl
      | cons b l =>
        have hb : b = a := mem_zero.mp (h2 b (List.mem_cons_of_mem _ List.mem_cons_self))
        subst hb
        exact absurd List.mem_cons_self (List.nodup_cons.mp nd).1
theorem leaves_n {leaf : Str} {M : Mak} (v : Nem M) {z : Str} {d : Nat} (h : z ∈ setR leaf M d) : opR M z d = [(leaf, siz leaf M d z)] := by
  obtain ⟨h1, h2, h3⟩ := opn_mem v.nd (n := d) (m := 0) h
  have e := (leaves v h1).mpr h
  revert h3 e
  cases opR M z d with
  | nil => exact fun _ e => nomatch e
  | cons q R =>
    intro h3 e
    have e' : q.1 :: keysR R = [leaf] := e
    obtain ⟨e1, e2⟩ := List.cons.inj e'
    have e3 : R = [] := List.map_eq_nil_iff.mp e2
    subst e3
    obtain ⟨k, n⟩ := q
    cases e1
    rw [show tot [(k, n)] (siz k M 0) = n * siz k M 0 k + 0 from rfl, siz_zero, Nat.mul_one, Nat.add_zero] at h3
    show [(k, n)] = [(k, siz k M d z)]
    have h4 : siz k M d z = n := h3
    rw [h4]
/-! ### makings whose parts are told once each -/
def DedOf (M N : Mak) : Prop := Paired (fun (m n : Str × List Str) => n.1 = m.1 ∧ sortedS n.2 = true ∧ n.2.Nodup ∧ ∀ z, z ∈ n.2 ↔ z ∈ m.2) M N
theorem DedOf.keys {M N : Mak} (h : DedOf M N) : keysOf N = keysOf M := by
  unfold DedOf at h
  induction h with
  | nil => rfl
  | @cons m n M N h _ ih =>
    show n.1 :: keysOf N = m.1 :: keysOf M
    rw [ih, h.1]
theorem DedOf.mem {M N : Mak} (h : DedOf M N) {n : Str × List Str} (hn : n ∈ N) : ∃ m ∈ M, n.1 = m.1 ∧ sortedS n.2 = true ∧ n.2.Nodup ∧ ∀ z, z ∈ n.2 ↔ z ∈ m.2 := by
  unfold DedOf at h
  induction h with
  | nil => cases hn
  | @cons m n' M N h _ ih =>
    rcases List.mem_cons.mp hn with rfl | hn
    · exact ⟨m, List.mem_cons_self, h⟩
    · obtain ⟨m', h1, h2⟩ := ih hn
      exact ⟨m', List.mem_cons_of_mem _ h1, h2⟩
theorem DedOf.look {M N : Mak} (h : DedOf M N) {z : Str} {ps : List Str} (e : lookM M z = some ps) : ∃ qs, lookM N z = some qs ∧ sortedS qs = true ∧ qs.Nodup ∧ ∀ y, y ∈ qs ↔ y ∈ ps := by
  unfold DedOf at h
  induction h with
  | nil => cases e
  | @cons m n M N h _ ih =>
    obtain ⟨h1, h2, h3, h4⟩ := h
    rw [lookM_cons] at e ⊢
    by_cases c : m.1 = z
    · rw [if_pos c] at e
      cases e
      rw [if_pos (h1.trans c)]
      exact ⟨_, rfl, h2, h3, h4⟩
    · rw [if_neg c] at e
      rw [if_neg (by rw [h1]; exact c)]
      exact ih e
theorem DedOf.fits {E : List Str} {m n : Str × List Str} (h : ∀ z, z ∈ n.2 ↔ z ∈ m.2) : fitsR E n.2 = fitsR E m.2 := by
  unfold fitsR
  rw [Bool.eq_iff_iff, List.all_eq_true, List.all_eq_true]
  exact ⟨fun q z hz => q z ((h z).mpr hz), fun q z hz => q z ((h z).mp hz)⟩
theorem DedOf.above {M N : Mak} (h : DedOf M N) (E : List Str) : aboveE N E = aboveE M E := by
  unfold DedOf at h
  unfold aboveE
  induction h with
  | nil => rfl
  | @cons m n M N h _ ih =>
    obtain ⟨h1, _, _, h4⟩ := h
    rw [List.filter_cons, List.filter_cons, DedOf.fits h4]
    by_cases c : fitsR E m.2 = true
    · rw [if_pos c, if_pos c, List.map_cons, List.map_cons, ih, h1]
    · rw [if_neg c, if_neg c, ih]
theorem DedOf.sets {leaf : Str} {M N : Mak} (h : DedOf M N) : ∀ r, setR leaf N r = setR leaf M r
  | 0 => rfl
  | r + 1 => by rw [set_succ, set_succ, h.sets r, h.above]
theorem DedOf.nem {leaf : Str} {M N : Mak} (h : DedOf M N) (v : Vld leaf M) : Nem N := ⟨by rw [h.keys]; exact v.nd, fun n hn e => by
  obtain ⟨m, h1, _, _, _, h2⟩ := h.mem hn
  have h3 := (v.parts m h1).2.1
  cases q : m.2 with
  | nil =>
    rw [q] at h3
    exact absurd h3 (by show ¬ 2 ≤ 0; omega)
  | cons y l =>
    have := (h2 y).mpr (by rw [q]; exact List.mem_cons_self)
    rw [e] at this
    cases this⟩
end Kl

set_option maxRecDepth 100000
set_option maxHeartbeats 4000000
namespace Kl
open PySem PySem.Spec PyProof.Rows L2 Gx Mx
/-! ### sizes of trees -/
theorem siz_no {leaf : Str} {M : Mak} {r : Nat} {z : Str} (h : z ∉ setR leaf M r) : siz leaf M r z = 0 := by
  unfold siz getR
  rw [lookR_no h]
  rfl
theorem siz_pos {leaf : Str} {M : Mak} (v : Vld leaf M) : ∀ {r : Nat} {z : Str}, z ∈ setR leaf M r → 1 ≤ siz leaf M r z
  | 0, z, h => by
    rw [mem_zero.mp h, siz_zero]
    exact Nat.le_refl 1
  | r + 1, z, h => by
    obtain ⟨ps, h1, h2⟩ := (mem_succ v.nd).mp h
    rw [siz_succ v.nd h1 h2]
    have l2 := (v.parts _ (lookM_some h1)).2.1
    cases ps with
    | nil => exact absurd l2 (by show ¬ 2 ≤ 0; omega)
    | cons p ps =>
      rw [List.map_cons, List.sum_cons]
      have := siz_pos v (h2 p List.mem_cons_self)
      omega
theorem sum_mono {f g : Str → Nat} : ∀ {l : List Str}, (∀ x ∈ l, f x ≤ g x) → (l.map f).sum ≤ (l.map g).sum
  | [], _ => Nat.le_refl _
  | x :: l, h => by
    rw [List.map_cons, List.map_cons, List.sum_cons, List.sum_cons]
    exact Nat.add_le_add (h x List.mem_cons_self) (sum_mono fun y hy => h y (List.mem_cons_of_mem _ hy))
theorem siz_mono {leaf : Str} {M : Mak} (v : Vld leaf M) : ∀ {r s : Nat} {z : Str}, r ≤ s → z ∈ setR leaf M r → z ∈ setR leaf M s → siz leaf M r z ≤ siz leaf M s z
  | 0, s, z, _, h, h' => by
    rw [show siz leaf M 0 z = 1 by rw [mem_zero.mp h]; exact siz_zero leaf M]
    exact siz_pos v h'
  | r + 1, 0, z, hl, _, _ => absurd hl (by omega)
  | r + 1, s + 1, z, hl, h, h' => by
    obtain ⟨ps, h1, h2⟩ := (mem_succ v.nd).mp h
    obtain ⟨qs, h3, h4⟩ := (mem_succ v.nd).mp h'
    rw [h1] at h3
    cases h3
    rw [siz_succ v.nd h1 h2, siz_succ v.nd h1 h4]
    exact sum_mono fun p hp => siz_mono v (by omega) (h2 p hp) (h4 p hp)
theorem siz_le {leaf : Str} {M : Mak} (v : Vld leaf M) (r : Nat) (z : Str) : siz leaf M r z ≤ 3 ^ r := getR_le (rows_le v r) z
theorem inV_ints (i : Int) (l : List Int) : inV (.int i) (l.map V.int) = decide (i ∈ l) := by
  unfold inV
  rw [List.any_map, Bool.eq_iff_iff, List.any_eq_true, decide_eq_true_iff]
  constructor
  · rintro ⟨j, hj, e⟩
    have e : (j == i) = true := e
    rw [beq_iff_eq.mp e] at hj
    exact hj
  · intro h
    exact ⟨i, h, beq_self_eq_true i⟩
end Kl

set_option maxRecDepth 100000
set_option maxHeartbeats 4000000
namespace Kl
open PySem PySem.Spec PyProof.Rows L2 Gx Mx
/-! ### trees that were grown: each rank linked by a making -/
theorem Trs.cut_list : ∀ (ts : Trs) (j : Nat), (ts.cut j).list = ts.list.eraseIdx j
  | .nil, _ => rfl
  | .cons _ _, 0 => rfl
  | .cons t r, j + 1 => congrArg (t :: ·) (Trs.cut_list r j)
theorem Dgs.snoc_list (d : Trs) : ∀ ds : Dgs, (ds.snoc d).list = ds.list ++ [d]
  | .nil => rfl
  | .cons e r => congrArg (e :: ·) (Dgs.snoc_list d r)
theorem Trs.list_inj : ∀ {a b : Trs}, a.list = b.list → a = b
  | .nil, .nil, _ => rfl
  | .nil, .cons _ _, h => nomatch h
  | .cons _ _, .nil, h => nomatch h
  | .cons t r, .cons u s, h => by
    have h' : t :: r.list = u :: s.list := h
    rw [(List.cons.inj h').1, Trs.list_inj (List.cons.inj h').2]
theorem Dgs.list_inj : ∀ {a b : Dgs}, a.list = b.list → a = b
  | .nil, .nil, _ => rfl
  | .nil, .cons _ _, h => nomatch h
  | .cons _ _, .nil, h => nomatch h
  | .cons t r, .cons u s, h => by
    have h' : t :: r.list = u :: s.list := h
    rw [(List.cons.inj h').1, Dgs.list_inj (List.cons.inj h').2]
theorem Dgs.snoc_inj {a b : Dgs} {d e : Trs} (h : a.snoc d = b.snoc e) : a = b ∧ d = e := by
  have h1 := congrArg Dgs.list h
  rw [Dgs.snoc_list, Dgs.snoc_list] at h1
  have h2 : a.list.length = b.list.length := by
    have := congrArg List.length h1
    rw [List.length_append, List.length_append] at this
    simpa using this
  obtain ⟨h3, h4⟩ := List.append_inj h1 h2
  exact ⟨Dgs.list_inj h3, (List.cons.inj h4).1⟩
theorem Trs.size_sum : ∀ d : Trs, d.size = (d.list.map Tr.size).sum
  | .nil => by rw [Trs.size]; rfl
  | .cons t r => by
    rw [Trs.size, Trs.size_sum r]
    rfl
theorem Trs.hi_max {n : Nat} : ∀ d : Trs, (∀ t ∈ d.list, t.hi < n) → d.hi ≤ n
  | .nil, _ => by rw [Trs.hi]; omega
  | .cons t r, h => by
    rw [Trs.hi]
    have h1 := h t List.mem_cons_self
    have h2 := Trs.hi_max r fun u hu => h u (List.mem_cons_of_mem _ hu)
    omega
theorem Dgs.snoc_hi (d : Trs) : ∀ ds : Dgs, (ds.snoc d).hi = max ds.hi d.hi
  | .nil => by
    show (Dgs.cons d .nil).hi = _
    simp only [Dgs.hi]
    omega
  | .cons e r => by
    show (Dgs.cons e (r.snoc d)).hi = _
    rw [Dgs.hi, Dgs.snoc_hi d r, Dgs.hi]
    omega
/-- a tree of the kind z and the rank r -/
def Grown (leaf : Str) (M : Mak) : Nat → Str → Tr → Prop
  | 0, z, t => z = leaf ∧ ∃ key, t = .mk [leaf] key .nil ∧ intV (.int key) = true
  | r + 1, z, t => ∃ (ps : List Str) (ts : List Tr) (j : Nat) (t0 : Tr), lookM M z = some ps ∧ (ts.map Tr.kind).Perm ps ∧ (∀ u ∈ ts, Grown leaf M r u.kind u) ∧ IsWin (Trs.of ts) j t0 ∧ t = linkT z (Trs.of ts) j t0
structure GrF (leaf : Str) (M : Mak) (r : Nat) (z : Str) (t : Tr) : Prop where
  rank : t.rank = r
  kind : t.kind = z
  way : t.way.length = r + 1
  key : intV (.int t.key) = true
  set : z ∈ setR leaf M r
  size : t.size = siz leaf M r z
  hi : t.hi ≤ r
theorem GrF.ne {leaf : Str} {M : Mak} {r : Nat} {z : Str} {t : Tr} (f : GrF leaf M r z t) : t.way ≠ [] := fun h => by
  have := f.way
  rw [h] at this
  cases this
theorem win_perm {ts : List Tr} {j : Nat} {t0 : Tr} (h : IsWin (Trs.of ts) j t0) : (t0 :: ((Trs.of ts).cut j).list).Perm ts := by
  rw [Trs.cut_list, Trs.of_list]
  have h1 := h.1
  rw [Trs.of_list] at h1
  exact erase_perm ts j t0 h1
theorem tr_hi (t : Tr) : t.hi = t.kids.hi := by
  cases t with
  | mk w k ds => rw [Tr.hi]; rfl
theorem grown_facts {leaf : Str} {M : Mak} (v : Vld leaf M) : ∀ {r : Nat} {z : Str} {t : Tr}, Grown leaf M r z t → GrF leaf M r z t
  | 0, z, t, h => by
    obtain ⟨rfl, key, rfl, hk⟩ := h
    refine ⟨rfl, rfl, rfl, hk, mem_zero.mpr rfl, ?_, ?_⟩
    · rw [siz_zero, Tr.size, Dgs.size]
    · rw [Tr.hi, Dgs.hi]
      exact Nat.le_refl _
  | r + 1, z, t, h => by
    obtain ⟨ps, ts, j, t0, hl, hp, hg, hw, rfl⟩ := h
    have F : ∀ u ∈ ts, GrF leaf M r u.kind u := fun u hu => grown_facts v (hg u hu)
    have hm := win_perm hw
    have h0 : t0 ∈ ts := hm.mem_iff.mp List.mem_cons_self
    have F0 := F t0 h0
    have hps : ∀ p ∈ ps, p ∈ setR leaf M r := fun p hpp => by
      obtain ⟨u, hu, e⟩ := List.mem_map.mp (hp.mem_iff.mpr hpp)
      rw [← e]
      exact (F u hu).set
    refine ⟨by rw [link_rank, F0.rank], link_kind, by rw [link_way, List.length_append, F0.way]; rfl, by rw [link_key]; exact F0.key, (mem_succ v.nd).mpr ⟨ps, hl, hps⟩, ?_, ?_⟩
    · rw [link_size hw.1, Trs.size_sum, Trs.of_list, siz_succ v.nd hl hps, ← (hp.map (siz leaf M r)).sum_nat, List.map_map]
      exact congrArg List.sum (List.map_congr_left fun u hu => (F u hu).size)
    · rw [tr_hi]
      show (t0.kids.snoc ((Trs.of ts).cut j)).hi ≤ _
      rw [Dgs.snoc_hi]
      have h1 := F0.hi
      rw [tr_hi] at h1
      have h2 : ((Trs.of ts).cut j).hi ≤ r + 1 := Trs.hi_max _ fun u hu => by
        have := (F u (hm.mem_iff.mp (List.mem_cons_of_mem _ hu))).hi
        omega
      omega
/-- the way is told by the kind and the children -/
theorem grown_way {leaf : Str} {M : Mak} (v : Vld leaf M) : ∀ {r : Nat} {z : Str} {t u : Tr}, Grown leaf M r z t → Grown leaf M r z u → t.kids = u.kids → t.way = u.way
  | 0, z, t, u, h, h', _ => by
    obtain ⟨_, _, rfl, _⟩ := h
    obtain ⟨_, _, rfl, _⟩ := h'
    rfl
  | r + 1, z, t, u, h, h', e => by
    obtain ⟨ps, ts, j, t0, hl, hp, hg, hw, rfl⟩ := h
    obtain ⟨ps', us, j', u0, hl', hp', hg', hw', rfl⟩ := h'
    rw [hl] at hl'
    cases hl'
    obtain ⟨e1, e2⟩ := Dgs.snoc_inj (show t0.kids.snoc _ = u0.kids.snoc _ from e)
    have a := win_perm hw
    have b := win_perm hw'
    rw [e2] at a
    have c : (t0.kind :: (((Trs.of us).cut j').list).map Tr.kind).Perm (u0.kind :: (((Trs.of us).cut j').list).map Tr.kind) :=
      ((a.map Tr.kind).trans hp).trans ((b.map Tr.kind).trans hp').symm
    have k : t0.kind = u0.kind := by
      have h1 := c.count_eq t0.kind
      rw [List.count_cons, List.count_cons] at h1
      by_cases q : u0.kind = t0.kind
      · exact q.symm
      · have q2 : (u0.kind == t0.kind) = false := beq_false_of_ne q
        rw [q2] at h1
        simp at h1
    have i0 := hg t0 (win_perm hw |>.mem_iff.mp List.mem_cons_self)
    have i1 := hg' u0 (b.mem_iff.mp List.mem_cons_self)
    rw [← k] at i1
    show t0.way ++ [z] = u0.way ++ [z]
    rw [grown_way v i0 i1 e1]
theorem tr_ext {t u : Tr} (a : t.way = u.way) (b : t.key = u.key) (c : t.kids = u.kids) : t = u := by
  cases t
  cases u
  simp only [Tr.way, Tr.key, Tr.kids] at a b c
  rw [a, b, c]
theorem grown_eq {leaf : Str} {M : Mak} (v : Vld leaf M) {r : Nat} {z z' : Str} {t u : Tr} (h : Grown leaf M r z t) (h' : Grown leaf M r z' u) : t = u ↔ (t.key = u.key ∧ t.kind = u.kind ∧ t.kids = u.kids) := by
  refine ⟨fun e => by rw [e]; exact ⟨rfl, rfl, rfl⟩, fun ⟨a, b, c⟩ => ?_⟩
  have k1 := (grown_facts v h).kind
  have k2 := (grown_facts v h').kind
  rw [← k1] at h
  rw [← k2, ← b] at h'
  exact tr_ext (grown_way v h h' c) a c
/-- the children are grown -/
theorem grown_kids {leaf : Str} {M : Mak} (v : Vld leaf M) : ∀ {r : Nat} {z : Str} {t : Tr}, Grown leaf M r z t → ∀ (i : Nat) (d : Trs), t.kids.list[i]? = some d → ∀ u ∈ d.list, Grown leaf M i u.kind u
  | 0, z, t, h, i, d, e, u, hu => by
    obtain ⟨_, _, rfl, _⟩ := h
    cases e
  | r + 1, z, t, h, i, d, e, u, hu => by
    obtain ⟨ps, ts, j, t0, hl, hp, hg, hw, rfl⟩ := h
    have a := win_perm hw
    have h0 := hg t0 (a.mem_iff.mp List.mem_cons_self)
    have e : (t0.kids.snoc ((Trs.of ts).cut j)).list[i]? = some d := e
    rw [Dgs.snoc_list, List.getElem?_append] at e
    by_cases c : i < t0.kids.list.length
    · rw [if_pos c] at e
      exact grown_kids v h0 i d e u hu
    · rw [if_neg c] at e
      have hr := (grown_facts v h0).rank
      have hr : t0.kids.len = r := hr
      rw [Dgs.len_list] at hr
      obtain ⟨h1, _⟩ := List.getElem?_eq_some_iff.mp e
      rw [List.length_singleton] at h1
      have ei : i = r := by omega
      have e0 : i - t0.kids.list.length = 0 := by omega
      rw [e0] at e
      have ed : (Trs.of ts).cut j = d := Option.some.inj e
      rw [ei]
      exact hg u (a.mem_iff.mp (List.mem_cons_of_mem _ (by rw [ed]; exact hu)))
end Kl

set_option maxRecDepth 100000
set_option maxHeartbeats 4000000
namespace Kl
open PySem PySem.Spec PyProof.Rows L2 Gx Mx
section
variable {P : Program} {w : World} {K : PySem.W.Frag} {mg : Str → Option Value} {base : Heap}
/-! ### _law_mixed of a list or a tuple of any values -/
theorem sq_same {G G' : Hp} {a : Addr} {xs : List V} (h : SqL K G a xs ∨ SqT K G a xs) (s : Same G G') : SqL K G' a xs ∨ SqT K G' a xs := by
  rcases h with ((h | ⟨o, h⟩) | h) | ((h | ⟨o, h⟩) | h)
  · exact .inl (.inl (.inl (s _ _ h)))
  · exact .inl (.inl (.inr ⟨o, s _ _ h⟩))
  · exact .inl (.inr h)
  · exact .inr (.inl (.inl (s _ _ h)))
  · exact .inr (.inl (.inr ⟨o, s _ _ h⟩))
  · exact .inr (.inr h)
def spMixV (K : PySem.W.Frag) : Sp := fun vs H Q _ => ∃ (d p : Addr) (zs : List V), vs = [.ref d, .ref p] ∧ DiceAt H d ∧ (SqL K H p zs ∨ SqT K H p zs) ∧ zs.length ≤ 1000 ∧
  ∀ (q : Addr) (H' : Hp) (ys : List V), ys.Perm zs → H q = none → H' q = some (.lst ys) → SameX d H H' → DiceAt H' d → Q (.ref q) H'
theorem ok_mixV {f : Addr} {fd : FuncData} (F : Fun K "_law_mixed" "_law_mixed" s_law_mixed f fd) (T : Top K mg) : FnOk P w K mg base CX0 2 f fd ["_law_dice_here", "_law_items"] (spMixV K) := by
  have cr : Cal P w K mg base 1 "_law_roll" ["_law_dice_here", "_law_total"] spRoll := T.d_law_roll.cal fun f fd F => ok_roll F T
  refine F.ok sc_law_mixed (fun vs H Q E h => ?_) (fun cdv A outer s H vs Q E hr h => ?_)
  · obtain ⟨d, p, zs, rfl, _⟩ := h
    rfl
  · obtain ⟨d, p, zs, rfl, hd, hs, hl, q⟩ := h
    refine ⟨_, pss_cons (ps_par (i := 2) (j := 3) rfl sc_law_mixed.nd rfl rfl (by decide) rfl rfl (pa_cons (pe_callTy call_list_of (by rfl) T.b_list (by decide +kernel) (pa_cons (pv 1) pa_nil)) (pa_cons (pe_lst pa_nil) pa_nil)) rfl)
      (pss_cons (ps_for PassesOwn.never rfl (pi_range1 (by rfl) T.b_range (pa_cons (pe_callB call_len_seq (by rfl) T.b_len PySem.boot_len (pa_cons (pv 1) pa_nil)) pa_nil)) (pg_name (i := 4) sc_law_mixed.nd rfl (.inl rfl))
        (pss_one (ps_expr (pe_bm PySem.F.plainAttrs_list PySem.F.slot_list_append PySem.F.type_list_append mt_append (pv 3) (pa_cons
          (pe_bm PySem.F.plainAttrs_list PySem.F.slot_list_pop PySem.F.type_list_pop mt_popAt (pv 2) (pa_cons (pe_cal cr hr (by rfl) (pa_cons (pv 0) (pa_cons (pe_callB call_len_seq (by rfl) T.b_len PySem.boot_len (pa_cons (pv 2) pa_nil)) pa_nil))) pa_nil)) pa_nil)))))
      (pss_one (ps_ret (pv 3)))), ?_⟩
    refine ⟨_, rfl, p, _, rfl, hs, fun l nl => ?_⟩
    have hld : l ≠ d := dice_ne hd nl
    refine ⟨Nat.zero_le _, fun q' nq => ?_⟩
    have hql : q' ≠ l := fun z => by
      rw [z, upd_same] at nq
      cases nq
    have nq0 : H q' = none := by rwa [upd_ne hql] at nq
    have hqd : q' ≠ d := dice_ne hd nq0
    have hp2 := sq_same hs (same_new (o := .lst []) (same_new (o := .lst zs) (Same.refl H) nl) nq)
    refine ⟨_, _, rfl, _, rfl, p, _, rfl, hp2, _, rfl, by omega, by omega, ?_⟩
    refine for_range (lo := 0) (fun i σ' H' => ∃ t, ∃ ls fs : List V, σ' = [some (.ref d), some (.ref p), some (.ref l), some (.ref q'), t] ∧ H' l = some (.lst ls) ∧ H' q' = some (.lst fs) ∧ fs.length = i ∧ (fs ++ ls).Perm zs ∧ SameX d H H' ∧ DiceAt H' d)
      ⟨none, zs, [], rfl, ?_, upd_same, rfl, List.Perm.refl _, ?_, ?_⟩ (fun i σ' H' hi hP => ?_) (fun σ' H' hP => ?_)
    · rw [upd_ne hql.symm, upd_same]
    · exact ((SameX.refl d H).at nl).at nq0
    · exact dice_upd (dice_upd hd hld) hqd
    · obtain ⟨t, ls, fs, rfl, el, eq, lf, hp, sx, hd'⟩ := hP
      have lz := hp.length_eq
      rw [List.length_append] at lz
      have l1 : 0 < ls.length := by omega
      refine ⟨_, rfl, ⟨.inl ⟨rfl, _, .inl (.inl eq)⟩, ?_⟩⟩
      refine ⟨_, rfl, ⟨.inl ⟨rfl, _, .inl (.inl el)⟩, ?_⟩⟩
      refine ⟨_, rfl, _, rfl, l, _, rfl, .inl (.inl (.inl el)), d, _, rfl, hd', by omega, log2_small (by omega), fun r x b c h0 h1 => ?_⟩
      obtain ⟨k, rfl⟩ := Int.eq_ofNat_of_zero_le h0
      have hk : k < ls.length := by omega
      have ek : ls[k]? = some ls[k] := List.getElem?_eq_getElem hk
      refine ⟨l, ls, (k : Int), k, _, rfl, rfl, by rw [upd_ne hld]; exact el, by omega, by omega, seqI h0 h1, ek, ?_⟩
      refine ⟨q', fs, _, rfl, rfl, by rw [upd_ne hql, upd_ne hqd]; exact eq, ?_, ?_⟩
      · exact Nat.lt_of_le_of_lt (show fs.length ≤ 1000 by omega) (by decide)
      · refine ⟨_, ls.eraseIdx k, fs ++ [ls[k]], rfl, ?_, ?_, by rw [List.length_append, lf]; rfl, ?_, ?_, ?_⟩
        · rw [upd_ne hql.symm, upd_same]
        · rw [upd_same]
        · have e1 := erase_perm ls k _ ek
          rw [List.append_assoc]
          exact (e1.append_left fs).trans hp
        · exact (sx.atd.at nl).at nq0
        · exact dice_upd (dice_upd (dice_new x b c) hld) hqd
    · obtain ⟨t, ls, fs, rfl, el, eq, lf, hp, sx, hd'⟩ := hP
      have lz := hp.length_eq
      rw [List.length_append] at lz
      have e0 : ls = [] := List.eq_nil_of_length_eq_zero (by omega)
      rw [e0, List.append_nil] at hp
      exact ⟨_, rfl, q q' H' fs hp nq0 eq sx hd'⟩
end
end Kl

set_option maxRecDepth 100000
set_option maxHeartbeats 4000000
namespace Kl
open PySem PySem.Spec PyProof.Rows L2 Gx Mx
theorem pow_small {a k : Nat} (ha : a ≤ 3) (hk : k ≤ 10) : a ^ k ≤ 59049 := by
  have h1 : a ^ k ≤ 3 ^ k := Nat.pow_le_pow_left ha k
  have h2 : 3 ^ k ≤ 3 ^ 10 := Nat.pow_le_pow_right (by decide) hk
  have h3 : 3 ^ 10 = 59049 := by decide
  omega
end Kl

set_option maxRecDepth 100000
set_option maxHeartbeats 4000000
namespace Kl
open PySem PySem.Spec PyProof.Rows L2 Gx Mx
mutual
/-- the keys with their depths, in the law's order -/
def Tr.nodes : Tr → Int → List (Int × Int)
  | .mk _ k ds, n => (k, n) :: ds.nodes (n + 1)
def Dgs.nodes : Dgs → Int → List (Int × Int)
  | .nil, _ => []
  | .cons d r, n => d.nodes n ++ r.nodes n
def Trs.nodes : Trs → Int → List (Int × Int)
  | .nil, _ => []
  | .cons t r, n => t.nodes n ++ r.nodes n
end
theorem Trs.nodes_flat (n : Int) : ∀ d : Trs, d.nodes n = (d.list.map fun t => t.nodes n).flatten
  | .nil => by
    rw [Trs.nodes]
    rfl
  | .cons t r => by
    rw [Trs.nodes, Trs.nodes_flat n r]
    rfl
theorem Dgs.nodes_flat (n : Int) : ∀ ds : Dgs, ds.nodes n = (ds.list.map fun d => d.nodes n).flatten
  | .nil => by
    rw [Dgs.nodes]
    rfl
  | .cons d r => by
    rw [Dgs.nodes, Dgs.nodes_flat n r]
    rfl
mutual
theorem Tr.nodes_len : ∀ (t : Tr) (n : Int), (t.nodes n).length = t.size
  | .mk w k ds, n => by
    rw [Tr.nodes, Tr.size, List.length_cons, Dgs.nodes_len ds (n + 1)]
    omega
theorem Dgs.nodes_len : ∀ (ds : Dgs) (n : Int), (ds.nodes n).length = ds.size
  | .nil, n => by
    rw [Dgs.nodes, Dgs.size]
    rfl
  | .cons d r, n => by
    rw [Dgs.nodes, Dgs.size, List.length_append, Trs.nodes_len d n, Dgs.nodes_len r n]
theorem Trs.nodes_len : ∀ (d : Trs) (n : Int), (d.nodes n).length = d.size
  | .nil, n => by
    rw [Trs.nodes, Trs.size]
    rfl
  | .cons t r, n => by
    rw [Trs.nodes, Trs.size, List.length_append, Tr.nodes_len t n, Trs.nodes_len r n]
end
theorem preA {α : Type} : ∀ (L : List (List α)) (i : Nat) (d : List α), L[i]? = some d → (L.take i).flatten.length + d.length ≤ L.flatten.length
  | [], i, d, h => by cases h
  | a :: L, 0, d, h => by
    cases h
    show 0 + a.length ≤ (a ++ L.flatten).length
    rw [List.length_append]
    omega
  | a :: L, i + 1, d, h => by
    have ih := preA L i d h
    show (a ++ (L.take i).flatten).length + d.length ≤ (a ++ L.flatten).length
    rw [List.length_append, List.length_append]
    omega
theorem paired_app {α β : Type} {R : α → β → Prop} {xs zs : List α} {ys ws : List β} (h : Paired R xs ys) (r : Paired R zs ws) : Paired R (xs ++ zs) (ys ++ ws) := by
  induction h with
  | nil => exact r
  | cons h _ ih => exact .cons h ih
theorem Dgs.hi_get : ∀ {ds : Dgs} {d : Trs}, d ∈ ds.list → d.hi ≤ ds.hi
  | .nil, d, m => by cases m
  | .cons e r, d, m => by
    rw [Dgs.hi]
    rcases List.mem_cons.mp (show d ∈ e :: r.list from m) with rfl | m
    · omega
    · have := Dgs.hi_get m
      omega
theorem Trs.hi_get : ∀ {d : Trs} {t : Tr}, t ∈ d.list → t.hi + 1 ≤ d.hi
  | .nil, t, m => by cases m
  | .cons e r, t, m => by
    rw [Trs.hi]
    rcases List.mem_cons.mp (show t ∈ e :: r.list from m) with rfl | m
    · omega
    · have := Trs.hi_get m
      omega
theorem PdAt.get {K : PySem.W.Frag} {H : Hp} : ∀ {ds : Dgs} {as : List Addr} {j : Nat} {a : Addr}, PdAt K H ds as → as[j]? = some a → ∃ (d : Trs) (xs : List Addr), ds.list[j]? = some d ∧ SqT K H a (xs.map V.ref) ∧ PsAt K H d xs
  | .nil, as, j, a, h, e => by
    unfold PdAt at h
    subst h
    cases e
  | .cons d r, as, 0, a, h, e => by
    unfold PdAt at h
    obtain ⟨b, bs, xs, rfl, h1, h2, _⟩ := h
    cases e
    exact ⟨d, xs, rfl, h1, h2⟩
  | .cons d r, as, j + 1, a, h, e => by
    unfold PdAt at h
    obtain ⟨b, bs, xs, rfl, _, _, h3⟩ := h
    exact PdAt.get (ds := r) h3 e
theorem sqT_atl {K : PySem.W.Frag} {G : Hp} {l a : Addr} {ys : List V} {o : HO} {xs : List V} (h : G l = some (.lst ys)) (q : SqT K G a xs) : SqT K (upd G l o) a xs := by
  rcases q with (q | ⟨u, q⟩) | q
  · exact .inl (.inl (by rw [upd_ne (fun e => by rw [e, h] at q; cases q)]; exact q))
  · exact .inl (.inr ⟨u, by rw [upd_ne (fun e => by rw [e, h] at q; cases q)]; exact q⟩)
  · exact .inr q
/-- a list of pairs (key, depth) -/
def NodesAt (K : PySem.W.Frag) (G : Hp) (l : Addr) (ns : List (Int × Int)) : Prop := ∃ rs : List Addr, G l = some (.lst (rs.map V.ref)) ∧ Paired (fun r (kd : Int × Int) => SqT K G r [.int kd.1, .int kd.2]) rs ns
section
variable {P : Program} {w : World} {K : PySem.W.Frag} {mg : Str → Option Value} {base : Heap}
/-! ### _law_tree_nodes -/
def spTN (K : PySem.W.Frag) (n : Nat) : Sp := fun vs H Q _ => ∃ (x : Addr) (t : Tr) (dep : Int), vs = [V.ref x, .int dep] ∧ PlAt K H t x ∧ t.hi < n ∧ t.size ≤ 5000 ∧ ∀ l H', Same H H' → NodesAt K H' l (t.nodes dep) → Q (.ref l) H'
theorem ok_tn : ∀ (n : Nat) {f : Addr} {fd : FuncData} (F : Fun K "_law_tree_nodes" "_law_tree_nodes" s_law_tree_nodes f fd) (T : Top K mg), FnOk P w K mg base CX0 (n + 1) f fd ["_law_tree", "_law_depth"] (spTN K n)
  | 0, f, fd, F, T => by
    refine F.ok sc_law_tree_nodes (fun vs H Q E h => ?_) (fun cdv A outer s H vs Q E hr h => ?_)
    · obtain ⟨x, t, dep, rfl, _⟩ := h
      rfl
    · obtain ⟨x, t, dep, rfl, _, hn, _⟩ := h
      exact absurd hn (Nat.not_lt_zero _)
  | n + 1, f, fd, F, T => by
    have ct : Cal P w K mg base (n + 1) "_law_tree_nodes" ["_law_tree", "_law_depth"] (spTN K n) := T.d_law_tree_nodes.cal fun f fd F => ok_tn n F T
    refine F.ok sc_law_tree_nodes (fun vs H Q E h => ?_) (fun cdv A outer s H vs Q E hr h => ?_)
    · obtain ⟨x, t, dep, rfl, _⟩ := h
      rfl
    · obtain ⟨x, ⟨way, key, ds⟩, dep, rfl, hT, hn, hsz, q⟩ := h
      refine ⟨_, pss_cut (ps_set (i := 2) sc_law_tree_nodes.nd rfl (.inl rfl) (pe_lst (pa_cons (pe_tup (pa_cons (pe_ix ix_tup (pv 0) pe_int (fun _ _ => rfl)) (pa_cons (pv 1) pa_nil))) pa_nil)))
        (pss_cut (ps_for PassesOwn.never rfl (pi_tup (pe_ix ix_tup (pv 0) pe_int (fun _ _ => rfl))) (pg_name (i := 3) sc_law_tree_nodes.nd rfl (.inl rfl))
          (pss_one (ps_for PassesOwn.never rfl (pi_tup (pv 3)) (pg_name (i := 4) sc_law_tree_nodes.nd rfl (.inl rfl))
            (pss_one (ps_expr (pe_bm PySem.F.plainAttrs_list PySem.F.slot_list_extend PySem.F.type_list_extend mt_extend (pv 2) (pa_cons (pe_cal ct hr (by rfl) (pa_cons (pv 4) (pa_cons (pe_op op_add (pv 1) pe_int) pa_nil))) pa_nil)))))))
        (pss_one (ps_ret (pv 2)))), ?_⟩
      have big : 100000 ≤ sizeLine := by decide
      unfold PlAt at hT
      obtain ⟨wl, cl, das, ex, hw, hc, hds⟩ := hT
      rw [Tr.hi] at hn
      rw [Tr.size] at hsz
      have hfl := Dgs.nodes_len ds (dep + 1)
      rw [Dgs.nodes_flat] at hfl
      -- the first
      refine ⟨fun σ' G => ∃ l : Addr, σ' = [some (.ref x), some (.int dep), some (.ref l), none, none] ∧ NodesAt K G l [(key, dep)] ∧ H l = none ∧ Same H G, ?_, ?_⟩
      · refine ⟨_, rfl, x, _, _, .int key, rfl, rfl, ex, atI_nat (j := 1) rfl, _, rfl, by show 2 ≤ sizeLine; omega, fun t0 nt => ⟨by show 1 ≤ sizeLine; omega, fun l nl => ?_⟩⟩
        have s1 := same_new (o := .tup [.int key, .int dep]) (Same.refl H) nt
        have e1 : (upd H t0 (.tup [.int key, .int dep])) t0 = some (.tup [.int key, .int dep]) := upd_same
        generalize upd H t0 (.tup [.int key, .int dep]) = G1 at s1 e1 nl
        have s2 := same_new (o := .lst [.ref t0]) (Same.refl G1) nl
        refine ⟨l, rfl, ⟨[t0], upd_same, .cons (.inl (.inl (s2 _ _ e1))) .nil⟩, ?_, fun b o e => s2 _ _ (s1 _ _ e)⟩
        cases h : H l with
        | none => rfl
        | some o => rw [s1 _ _ h] at nl; cases nl
      rintro σ' G ⟨l, rfl, hl0, nl, s1⟩
      refine ⟨fun σ' G => (∃ y3 y4, σ' = [some (.ref x), some (.int dep), some (.ref l), y3, y4]) ∧ NodesAt K G l ((key, dep) :: (ds.list.map fun d => d.nodes (dep + 1)).flatten) ∧ Same H G, ?_, ?_⟩
      · refine ⟨_, rfl, x, _, _, .ref cl, rfl, rfl, sqT_st s1 ex, atI_nat (j := 2) rfl, cl, rfl, ⟨_, sqT_st s1 hc⟩, ?_⟩
        have lds : (das.map V.ref).length = (ds.list.map fun d => d.nodes (dep + 1)).length := by
          rw [List.length_map, List.length_map, PdAt.len _ _ hds, Dgs.len_list]
        refine for_it (walk_tup (K := K) (a := cl) (xs := das.map V.ref)) (fun j σ' G => (∃ y3 y4, σ' = [some (.ref x), some (.int dep), some (.ref l), y3, y4]) ∧ NodesAt K G l ((key, dep) :: ((ds.list.map fun d => d.nodes (dep + 1)).take j).flatten) ∧ Same H G) ⟨⟨_, _, rfl⟩, hl0, s1⟩ (fun j σ' G _ h => sqT_st h.2.2 hc) (fun j u σ' Gx G hj h hy => ?_) (fun σ' G h => ?_)
        · obtain ⟨⟨y3, y4, rfl⟩, hN, sm⟩ := h
          obtain ⟨rfl, hu⟩ := hy
          obtain ⟨da, hda, rfl⟩ := refs_at' hu
          obtain ⟨d, xs, hdl, hxs, hps⟩ := PdAt.get hds hda
          have hLj : (ds.list.map fun d => d.nodes (dep + 1))[j]? = some (d.nodes (dep + 1)) := by
            rw [List.getElem?_map, hdl]
            rfl
          have p1 := preA _ j _ hLj
          rw [take_snoc' hLj, List.flatten_append, List.flatten_singleton, Trs.nodes_flat]
          rw [Trs.nodes_flat] at p1
          refine ⟨_, rfl, da, rfl, ⟨_, sqT_st sm hxs⟩, ?_⟩
          have lxs : (xs.map V.ref).length = (d.list.map fun t => t.nodes (dep + 1)).length := by
            rw [List.length_map, List.length_map, PsAt.len _ _ hps]
          refine for_it (walk_tup (K := K) (a := da) (xs := xs.map V.ref)) (fun k σ' G => (∃ y4, σ' = [some (.ref x), some (.int dep), some (.ref l), some (.ref da), y4]) ∧ NodesAt K G l ((key, dep) :: (((ds.list.map fun d => d.nodes (dep + 1)).take j).flatten ++ ((d.list.map fun t => t.nodes (dep + 1)).take k).flatten)) ∧ Same H G) ⟨⟨_, rfl⟩, by rw [List.take_zero, List.flatten_nil, List.append_nil]; exact hN, sm⟩ (fun k σ' G _ h => sqT_st h.2.2 hxs) (fun k u σ' Gx G hk h hy => ?_) (fun σ' G h => ?_)
          · obtain ⟨⟨y4, rfl⟩, ⟨rs, el, hP⟩, sm2⟩ := h
            obtain ⟨rfl, hu2⟩ := hy
            obtain ⟨cx, hcx, rfl⟩ := refs_at' hu2
            obtain ⟨c, hcl2, hcp⟩ := PsAt.get (PsAt.mono (fun _ _ q => sqT_st sm2 q) d xs hps) hcx
            have hMk : (d.list.map fun t => t.nodes (dep + 1))[k]? = some (c.nodes (dep + 1)) := by
              rw [List.getElem?_map, hcl2]
              rfl
            have p2 := preA _ k _ hMk
            have g1 := Dgs.hi_get (List.mem_of_getElem? hdl)
            have g2 := Trs.hi_get (List.mem_of_getElem? hcl2)
            have g3 := Tr.nodes_len c (dep + 1)
            have lrs := Paired.length hP
            rw [List.length_cons, List.length_append] at lrs
            refine ⟨_, rfl, .inl ⟨rfl, _, .inl (.inl el)⟩, _, rfl, _, rfl, _, _, rfl, rfl, cx, c, dep + 1, rfl, hcp, by omega, by omega, fun l' H' s3 hN' => ?_⟩
            obtain ⟨rs', el', hP'⟩ := hN'
            have lrs' := Paired.length hP'
            have elH := s3 _ _ el
            refine ⟨l, l', _, _, rfl, rfl, elH, el', by rw [List.length_map, List.length_map]; omega, ⟨_, rfl⟩, ⟨rs ++ rs', by rw [upd_same, List.map_append], ?_⟩, fun b o e => by rw [upd_ne (ne_of_none e nl)]; exact s3 _ _ (sm2 _ _ e)⟩
            rw [take_snoc' hMk, List.flatten_append, List.flatten_singleton, ← List.append_assoc, ← List.cons_append]
            exact paired_app (L2.Paired.mapP hP fun _ _ e => sqT_atl elH (sqT_st s3 e)) (L2.Paired.mapP hP' fun _ _ e => sqT_atl elH e)
          · obtain ⟨⟨y4, rfl⟩, hN2, sm2⟩ := h
            rw [lxs, List.take_length] at hN2
            exact ⟨⟨_, _, rfl⟩, hN2, sm2⟩
        · obtain ⟨y, hN, sm⟩ := h
          rw [lds, List.take_length] at hN
          exact ⟨y, hN, sm⟩
      rintro σ' G ⟨⟨y3, y4, rfl⟩, hN, sm⟩
      refine ⟨_, rfl, q l G sm ?_⟩
      rw [Tr.nodes, Dgs.nodes_flat]
      exact hN
end
end Kl

set_option maxRecDepth 100000
set_option maxHeartbeats 4000000
/-! ### own rule: sorted of a list of ints, also a long one -/
namespace Gx
open PySem PySem.Spec PyProof.Rows L2
section
variable {X : Cx}
def rSortedI (K : PySem.W.Frag) : List V → Hp → VK → Prop := fun vs H Q => ∃ (a : Addr) (ns : List Int), vs = [V.ref a] ∧ SqL K H a (ns.map V.int) ∧ ns.length ≤ 100000 ∧
  ∀ (ns' : List Int) (p : Addr), ns'.Perm ns → ns'.Pairwise (· ≤ ·) → H p = none → Q (.ref p) (upd H p (.lst (ns'.map V.int)))
theorem cr_sortedI : CallR X (.builtin "sorted") (rSortedI X.K) := by
  intro pins s σ H vs us Q I r h
  obtain ⟨a, ns, rfl, hs, hL, q⟩ := h
  obtain ⟨its, rv, hl, _⟩ := I.list hs
  rw [Vals.ref1 r]
  have hi := rv.ints
  have hbig : 100000 ≤ sizeLine := by decide
  refine PyProof.Rows.sorted_intsAny hl.isList hi (by rw [hi.length]; omega) fun out ns' h1 h2 h3 => ?_
  obtain ⟨ep, he'⟩ := PyProof.Rows.sortedAll_at s.heap its out
  have hlen : (ns'.map V.int).length ≤ sizeLine := by rw [List.length_map, h2.length_eq]; omega
  exact ⟨.ref _, upd H (s.heap.objs.size + 1) (.lst (ns'.map V.int)), I.laid (t' := s.toks) (fun _ _ => PyProof.Rows.sortedAll_old) (Nat.le_succ _) ⟨hlen, out.toList, ep, vals_of_ints h1, he'⟩, rfl, q ns' _ h2 h3 (I.hok.fresh (Nat.le_succ _))⟩
end
end Gx

set_option maxRecDepth 100000
set_option maxHeartbeats 4000000
namespace Kl
open PySem PySem.Spec PyProof.Rows L2 Gx Mx
theorem paired_at {α β : Type} {R : α → β → Prop} {xs : List α} {ys : List β} (h : Paired R xs ys) : ∀ {j : Nat} {a : α}, xs[j]? = some a → ∃ b, ys[j]? = some b ∧ R a b := by
  induction h with
  | nil => exact fun h => by cases h
  | cons r _ ih =>
    intro j a h
    cases j with
    | zero => cases h; exact ⟨_, rfl, r⟩
    | succ j => exact ih h
section
variable {P : Program} {w : World} {K : PySem.W.Frag} {mg : Str → Option Value} {base : Heap}
/-! ### _law_plain_keys -/
abbrev NPK : List Str := ["_law_tree", "_law_key", "_law_depth"]
def spPK (K : PySem.W.Frag) (n : Nat) : Sp := fun vs H Q _ => ∃ (x : Addr) (t : Tr), vs = [V.ref x] ∧ PlAt K H t x ∧ t.hi < n ∧ t.size ≤ 5000 ∧ ∀ l H' (ks : List Int), Same H H' → H' l = some (.lst (ks.map V.int)) → ks.Perm ((t.nodes 0).map (·.1)) → ks.Pairwise (· ≤ ·) → Q (.ref l) H'
theorem ok_pk {n : Nat} {f : Addr} {fd : FuncData} (F : Fun K "_law_plain_keys" "_law_plain_keys" s_law_plain_keys f fd) (T : Top K mg) : FnOk P w K mg base CX0 (n + 2) f fd ["_law_tree"] (spPK K n) := by
  have ct : Cal P w K mg base (n + 1) "_law_tree_nodes" ["_law_tree", "_law_depth"] (spTN K n) := T.d_law_tree_nodes.cal fun f fd F => ok_tn n F T
  refine F.ok sc_law_plain_keys (fun vs H Q E h => ?_) (fun cdv A outer s H vs Q E hr h => ?_)
  · obtain ⟨x, t, rfl, _⟩ := h
    rfl
  · obtain ⟨x, t, rfl, hT, hn, hsz, q⟩ := h
    refine ⟨_, pss_one (ps_ret (pe_callB cr_sortedI (by rfl) T.b_sorted (by decide +kernel) (pa_cons (pe_lc (own := [("_law_key", 1), ("_law_depth", 2)]) (g := gTup K 2 (gCons (gName 1) (gCons (gName 2) gNil))) (tt := tYes) rfl sc_law_plain_keys.nd
        (pi_list (pe_cal ct hr (by rfl) (pa_cons (pv 0) (pa_cons pe_int pa_nil)))) (blkOk_by (N := NPK) (sc := defScope s_law_plain_keys) (by decide +kernel))
        (fun _ _ _ _ _ => pg_tup rfl (pgs_cons (pg_name (i := 1) sc_law_plain_keys.nd rfl (.inl rfl)) (pgs_cons (pg_name (i := 2) sc_law_plain_keys.nd rfl (.inl rfl)) pgs_nil))) (fun _ _ _ _ _ => pts_nil) (fun _ _ _ _ _ => pv 1)) pa_nil))), ?_⟩
    have big : 100000 ≤ sizeLine := by decide
    have hnl := Tr.nodes_len t 0
    refine ⟨_, rfl, x, t, 0, rfl, hT, hn, hsz, fun l H1 s1 hN => ?_⟩
    obtain ⟨rs, el, hP⟩ := hN
    have lrs := Paired.length hP
    refine ⟨l, rfl, ⟨_, .inl (.inl el)⟩, fun D hD => ?_⟩
    refine lc_it (g := gTup K 2 (gCons (gName 1) (gCons (gName 2) gNil))) (tt := tYes) (vs := [1, 2]) (walk_list (K := K) (a := l) (xs := rs.map V.ref)) (fun j G' => G' D = some (.lst ((((t.nodes 0).map (·.1)).take j).map V.int)) ∧ Same H1 G')
      ⟨upd_same, same_new (Same.refl H1) hD⟩ (fun j G' _ h => .inl (.inl (h.2 _ _ el))) (fun j u Gx G' hj h hy => ?_) (fun G' h => ?_)
    · obtain ⟨eD, sm⟩ := h
      obtain ⟨rfl, hu⟩ := hy
      obtain ⟨r, hr2, rfl⟩ := refs_at' hu
      obtain ⟨kd, hkd, hq⟩ := paired_at hP hr2
      have hm : ((t.nodes 0).map (·.1))[j]? = some kd.1 := by
        rw [List.getElem?_map, hkd]
        rfl
      refine ⟨r, _, rfl, sqT_st sm hq, rfl, _, _, rfl, _, _, rfl, rfl, rfl, _, rfl, _, eD, ?_, ?_, fun b o e => by rw [upd_ne (ne_of_none e hD)]; exact sm b o e⟩
      · rw [List.length_map, List.length_take, List.length_map]
        exact Nat.lt_of_le_of_lt (show _ ≤ 5000 by omega) (by decide)
      · rw [upd_same, take_snoc' hm, List.map_append]
        rfl
    · obtain ⟨eD, sm⟩ := h
      rw [show (rs.map V.ref).length = ((t.nodes 0).map (·.1)).length by rw [List.length_map, List.length_map]; exact lrs, List.take_length] at eD
      refine ⟨D, _, rfl, .inl (.inl eD), by rw [List.length_map]; omega, fun ks p hperm hsrt np => ?_⟩
      exact q p _ ks (fun b o e => same_new sm np _ _ (s1 _ _ e)) upd_same hperm hsrt
end
end Kl

set_option maxRecDepth 100000
set_option maxHeartbeats 4000000
namespace Kl
open PySem PySem.Spec PyProof.Rows L2 Gx Mx
section
variable {P : Program} {w : World} {K : PySem.W.Frag} {mg : Str → Option Value} {base : Heap} {CX : CXT} {k : Nat} {f : Addr} {fd : FuncData} {ps : List Str} {sp : Sp}
theorem fnOk_lift (F : FnOk P w K mg base CX0 k f fd ps sp) : FnOk P w K mg base CX k f fd ps sp :=
  ⟨F.len, fun A outer s H args us vs Q E hr he hb hv hs => codeAny_mono (F.run A outer s H args us vs Q E hr he hb hv hs) fun r s' h => by
    match r, h with
    | .error e, h => exact (show False from h).elim
    | .ok (.ret u), h => exact h⟩
end
theorem perm_strs {zs : List V} {ps : List Str} (h : zs.Perm (ps.map V.str)) : ∃ ys : List Str, zs = ys.map V.str ∧ ys.Perm ps := by
  let un : V → Str := fun v => match v with
    | .str z => z
    | _ => ""
  have e : ∀ l : List Str, (l.map V.str).map un = l := fun l => by
    rw [List.map_map]
    exact List.map_id l
  refine ⟨zs.map un, ?_, ?_⟩
  · rw [List.map_map]
    have e2 : zs.map (V.str ∘ un) = zs.map id := List.map_congr_left fun v hv => by
      obtain ⟨z, _, rfl⟩ := List.mem_map.mp (h.mem_iff.mp hv)
      rfl
    rw [e2, List.map_id]
  · have := h.map un
    rwa [e] at this
theorem trs_of {K : PySem.W.Frag} {C kx : Addr} {H : Hp} {xs : List Addr} {ts : List Tr} (h : Paired (fun x t => TreeAt K C kx H t x) xs ts) : TrsAt K C kx H (Trs.of ts) xs := by
  induction h with
  | nil =>
    show TrsAt K C kx H .nil []
    unfold TrsAt
    rfl
  | @cons x t xs ts r _ ih =>
    show TrsAt K C kx H (.cons t (Trs.of ts)) (x :: xs)
    unfold TrsAt
    exact ⟨x, xs, rfl, r, ih⟩
theorem pls_of {K : PySem.W.Frag} {H : Hp} {xs : List Addr} {ts : List Tr} (h : Paired (fun x t => PlAt K H t x) xs ts) : PsAt K H (Trs.of ts) xs := by
  induction h with
  | nil =>
    show PsAt K H .nil []
    unfold PsAt
    rfl
  | @cons x t xs ts r _ ih =>
    show PsAt K H (.cons t (Trs.of ts)) (x :: xs)
    unfold PsAt
    exact ⟨x, xs, rfl, r, ih⟩
theorem PlAt.st {K : PySem.W.Frag} {H H' : Hp} {t : Tr} {x : Addr} (h : PlAt K H t x) (s : Same H H') : PlAt K H' t x := PlAt.mono (fun _ _ q => sqT_st s q) t x h
theorem PlAt.sx {K : PySem.W.Frag} {H H' : Hp} {t : Tr} {x d : Addr} (h : PlAt K H t x) (hd : DiceAt H d) (s : SameX d H H') : PlAt K H' t x := PlAt.mono (fun _ _ q => sqT_sx hd s q) t x h
/-- a plain tree and the same one of the program, in a list -/
def PairAt (K : PySem.W.Frag) (C kx : Addr) (G : Hp) (r : Addr) (t : Tr) : Prop := ∃ x y, G r = some (.lst [.ref x, .ref y]) ∧ PlAt K G t x ∧ TreeAt K C kx G t y
theorem PairAt.st {K : PySem.W.Frag} {C kx : Addr} {G G' : Hp} {r : Addr} {t : Tr} (h : PairAt K C kx G r t) (s : Same G G') : PairAt K C kx G' r t := by
  obtain ⟨x, y, e, a, b⟩ := h
  exact ⟨x, y, s _ _ e, a.st s, b.same s⟩
theorem PairAt.sx {K : PySem.W.Frag} {C kx : Addr} {G G' : Hp} {r d : Addr} {t : Tr} (h : PairAt K C kx G r t) (hd : DiceAt G d) (s : SameX d G G') : PairAt K C kx G' r t := by
  obtain ⟨x, y, e, a, b⟩ := h
  refine ⟨x, y, s _ _ (fun z => ?_) e, a.sx hd s, b.sx hd s⟩
  obtain ⟨p, q, u, e'⟩ := hd
  rw [z, e'] at e
  cases e
/-- what stands while trees are grown -/
structure GpC (Ck : Addr) (H : Hp) (d pl kx mk md : Addr) (leaf : Str) (kvs : List (Key × V)) (M M1 : Mak) (ns : List Str) : Prop where
  epl : H pl = some (.dK (bookK leaf mk))
  emk : H mk = some (.dK kvs)
  mak : MakAt H kvs M
  v : Vld leaf M
  o : OrdOf M M1
  kn : KindsAt Ck H kx md leaf M1 ns
  nm : IsNames leaf (keysOf M1) ns
  hd : DiceAt H d
theorem kinds_sx {Ck : Addr} {H H' : Hp} {d kx md : Addr} {leaf : Str} {M : Mak} {ns : List Str} (h : KindsAt Ck H kx md leaf M ns) (hd : DiceAt H d) (s : SameX d H H') : KindsAt Ck H' kx md leaf M ns := by
  obtain ⟨x, b, c, e⟩ := hd
  refine h.keep s (fun z => ?_) (fun z => ?_) (fun xs z => ?_) (fun xs z => ?_)
  · obtain ⟨_, _, _, q, _⟩ := h
    rw [z, e] at q
    cases q
  · obtain ⟨_, _, _, _, q, _⟩ := h
    rw [z, e] at q
    cases q
  · rw [e] at z
    cases z
  · obtain ⟨o, _, z⟩ := z
    rw [e] at z
    cases z
theorem GpC.step {Ck : Addr} {H H' : Hp} {d pl kx mk md : Addr} {leaf : Str} {kvs : List (Key × V)} {M M1 : Mak} {ns : List Str} (h : GpC Ck H d pl kx mk md leaf kvs M M1 ns) (s : SameX d H H') (hd : DiceAt H' d) : GpC Ck H' d pl kx mk md leaf kvs M M1 ns := by
  have h0 := h.hd
  obtain ⟨x, b, c, e⟩ := h0
  refine ⟨s _ _ (fun z => ?_) h.epl, s _ _ (fun z => ?_) h.emk, h.mak.samex h.hd s, h.v, h.o, kinds_sx h.kn h.hd s, h.nm, hd⟩
  · have := h.epl
    rw [z, e] at this
    cases this
  · have := h.emk
    rw [z, e] at this
    cases this
theorem eqB_self {M : Mak} (nd : (keysOf M).Nodup) : eqB M M = true := (eqB_iff nd nd).mpr fun _ => rfl
/-- a list changes -/
theorem TreeAt.atl {K : PySem.W.Frag} {C kx : Addr} {G : Hp} {t : Tr} {x l : Addr} {ys : List V} {o : HO} (h : TreeAt K C kx G t x) (e : G l = some (.lst ys)) : TreeAt K C kx (upd G l o) t x :=
  TreeAt.mono (fun _ _ q => sqT_atl e q) (fun _ _ _ _ q => by rw [upd_ne (fun z => by rw [z, e] at q; cases q)]; exact q) t x h
theorem PlAt.atl {K : PySem.W.Frag} {G : Hp} {t : Tr} {x l : Addr} {ys : List V} {o : HO} (h : PlAt K G t x) (e : G l = some (.lst ys)) : PlAt K (upd G l o) t x := PlAt.mono (fun _ _ q => sqT_atl e q) t x h
theorem PairAt.atl {K : PySem.W.Frag} {C kx : Addr} {G : Hp} {t : Tr} {r l : Addr} {ys : List V} {o : HO} (h : PairAt K C kx G r t) (e : G l = some (.lst ys)) (n : r ≠ l) : PairAt K C kx (upd G l o) r t := by
  obtain ⟨x, y, e1, a, b⟩ := h
  exact ⟨x, y, by rw [upd_ne n]; exact e1, a.atl e, b.atl e⟩
theorem pairs_split {K : PySem.W.Frag} {C kx : Addr} {G : Hp} {rs : List Addr} {ts : List Tr} (h : Paired (PairAt K C kx G) rs ts) :
    ∃ xs ys : List Addr, Paired (fun x t => PlAt K G t x) xs ts ∧ Paired (fun x t => TreeAt K C kx G t x) ys ts ∧ ∀ (i : Nat) (r : Addr), rs[i]? = some r → ∃ x y, xs[i]? = some x ∧ ys[i]? = some y ∧ G r = some (.lst [.ref x, .ref y]) := by
  induction h with
  | nil => exact ⟨[], [], .nil, .nil, fun i r e => by cases e⟩
  | @cons r t rs ts a _ ih =>
    obtain ⟨x, y, e, p, q⟩ := a
    obtain ⟨xs, ys, h1, h2, h3⟩ := ih
    refine ⟨x :: xs, y :: ys, .cons p h1, .cons q h2, fun i r' hr => ?_⟩
    cases i with
    | zero => cases hr; exact ⟨x, y, rfl, rfl, e⟩
    | succ i => exact h3 i r' hr
theorem paired_snoc {α β : Type} {R : α → β → Prop} {xs : List α} {ys : List β} {a : α} {b : β} (h : Paired R xs ys) (r : R a b) : Paired R (xs ++ [a]) (ys ++ [b]) := paired_app h (.cons r .nil)
section
variable {P : Program} {w : World} {K : PySem.W.Frag} {mg : Str → Option Value} {base : Heap}
/-! ### _law_grown_pair -/
abbrev NGP : List Str := ["_law_dice_here", "_law_plain", "_law_kinds", "_law_name", "_law_rank", "_law_key", "_law_some", "_law_part", "_law_pair"]
def spGP (K : PySem.W.Frag) (C Ck : Addr) (n : Nat) : Sp := fun vs H Q _ => ∃ (d pl kx mk md : Addr) (leaf z : Str) (kvs : List (Key × V)) (M M1 : Mak) (ns : List Str) (r : Nat), vs = [V.ref d, .ref pl, .ref kx, .str z, .int (r : Nat)] ∧ r ≤ n ∧ r ≤ 4 ∧ GpC Ck H d pl kx mk md leaf kvs M M1 ns ∧ z ∈ setR leaf M1 r ∧
  ∀ p t H', Grown leaf M1 r z t → t.key ≠ 77 → PairAt K C kx H' p t → SameX d H H' → DiceAt H' d → H p = none → Q (.ref p) H'
theorem ok_gp {C Ck : Addr} : ∀ (n : Nat) {f : Addr} {fd : FuncData} (F : Fun K "_law_grown_pair" "_law_grown_pair" s_law_grown_pair f fd) (T : Top K mg) (TC : Cl_Tree K mg C) (TK : Cl_Kinds K mg Ck), FnOk P w K mg base CX0 (n + 8) f fd ["_law_dice_here", "_law_plain", "_law_kinds", "_law_name", "_law_rank"] (spGP K C Ck n)
  | 0, f, fd, F, T, TC, TK => by
    have ck : Cal P w K mg base 7 "_law_tree_key" ["_law_dice_here"] spTK := (T.d_law_tree_key.cal fun f fd F => ok_tk F T).mono (by omega)
    have kI : CalI P w K mg base C 3 ["self", "kinds", "key"] (spTInit K C Ck) := by
      obtain ⟨f, fd, m, F, b⟩ := TC.made
      exact ⟨f, fd, m, ok_tinit F T TC TK, b⟩
    refine F.ok sc_law_grown_pair (fun vs H Q E h => ?_) (fun cdv A outer s H vs Q E hr h => ?_)
    · obtain ⟨d, pl, kx, mk, md, leaf, z, kvs, M, M1, ns, r, rfl, _⟩ := h
      rfl
    · obtain ⟨d, pl, kx, mk, md, leaf, z, kvs, M, M1, ns, r, rfl, hrn, hr4, hC, hz, q⟩ := h
      have hu := hu_of hr
      refine ⟨_, pss_cons (ps_if (pt_cmpR op_eq (pv 4) pe_int (nomark _))
          (pss_cut (ps_set (i := 5) sc_law_grown_pair.nd rfl (.inl rfl) (pe_cal ck hr (by rfl) (pa_cons (pv 0) pa_nil)))
          (pss_one (ps_ret (pe_lst (pa_cons (pe_tup (pa_cons (pe_tup (pa_cons (pe_dget hu (pv 1) pe_str (fun _ _ => rfl)) pa_nil)) (pa_cons (pv 5) (pa_cons (pe_tup pa_nil) pa_nil)))) (pa_cons (pe_makeC kI (show Room 4 _ from hr.mono (by omega)) (by rfl) TC.gC (pa_cons (pv 2) (pa_cons (pv 5) pa_nil))) pa_nil)))))) pss_nil)
        (pss_cons ps_never (pss_one ps_never)), ?_⟩
      have big : 100000 ≤ sizeLine := by decide
      have e0 : r = 0 := by omega
      subst e0
      refine ⟨_, rfl, rfl, _, rfl, ?_⟩
      rw [decide_eq_true (show V.int ((0 : Nat) : Int) = V.int 0 from rfl)]
      show (if true = true then _ else _)
      rw [if_pos rfl]
      refine ⟨fun σ' G => ∃ key : Int, σ' = [some (.ref d), some (.ref pl), some (.ref kx), some (.str z), some (.int ((0 : Nat) : Int)), some (.int key), none, none, none] ∧ intV (.int key) = true ∧ key ≠ 77 ∧ SameX d H G ∧ DiceAt G d, ?_, ?_⟩
      · exact ⟨_, rfl, d, rfl, hC.hd, fun key H' hk h7 sx hd' => ⟨key, rfl, hk, h7, sx, hd'⟩⟩
      rintro σ' G ⟨key, rfl, hk, h7, sx, hdG⟩
      have g := hC.step sx hdG
      refine ⟨_, rfl, pl, .str leaf, rfl, .inl ⟨_, Sum.inr "leaf", .inl g.epl, rfl, (book_leaf leaf mk).symm⟩, by show 1 ≤ sizeLine; omega, fun wl nwl => ?_⟩
      have s1 := same_new (o := .tup [.str leaf]) (Same.refl G) nwl
      have e1 : (upd G wl (.tup [.str leaf])) wl = some (.tup [.str leaf]) := upd_same
      generalize upd G wl (.tup [.str leaf]) = G1 at s1 e1
      refine ⟨_, rfl, Nat.zero_le _, fun cl ncl => ?_⟩
      have s2 := same_new (o := .tup []) (Same.refl G1) ncl
      have e2 : (upd G1 cl (.tup [])) cl = some (.tup []) := upd_same
      generalize upd G1 cl (.tup []) = G2 at s2 e2
      refine ⟨by show 3 ≤ sizeLine; omega, fun x nx => ?_⟩
      have s3 := same_new (o := .tup [.ref wl, .int key, .ref cl]) (Same.refl G2) nx
      have e3 : (upd G2 x (.tup [.ref wl, .int key, .ref cl])) x = some (.tup [.ref wl, .int key, .ref cl]) := upd_same
      generalize upd G2 x (.tup [.ref wl, .int key, .ref cl]) = G3 at s3 e3
      have s03 : Same G G3 := fun b o e => s3 _ _ (s2 _ _ (s1 _ _ e))
      have hpl : PlAt K G3 (.mk [leaf] key .nil) x := by
        unfold PlAt
        refine ⟨wl, cl, [], .inl (.inl e3), .inl (.inl (s3 _ _ (s2 _ _ e1))), .inl (.inl (s3 _ _ e2)), ?_⟩
        unfold PdAt
        rfl
      refine ⟨_, rfl, _, rfl, fun y dy ny ndy nyy => ?_⟩
      have sN : Same G3 (upd (upd G3 dy (.own y)) y (.ins C dy [])) := fun b o e => by
        rw [upd_ne (ne_of_none e ny), upd_ne (ne_of_none e ndy)]
        exact e
      refine ⟨y, dy, kx, md, leaf, M1, ns, key, rfl, upd_same, (g.kn.same s03).same sN, hk, fun G4 ht keep => ⟨rfl, ?_⟩⟩
      have s34 : Same G3 G4 := fun b o e => keep b o (ne_of_none e ny) (sN _ _ e)
      refine ⟨by show 2 ≤ sizeLine; omega, fun p np => ?_⟩
      have s4 := same_new (o := .lst [.ref x, .ref y]) (Same.refl G4) np
      have s04 : Same G (upd G4 p (.lst [.ref x, .ref y])) := fun b o e => s4 _ _ (s34 _ _ (s03 _ _ e))
      have npG : G p = none := by
        cases h : G p with
        | none => rfl
        | some o =>
          have := s34 _ _ (s03 _ _ h)
          rw [this] at np
          cases np
      have hpd : p ≠ d := dice_ne hdG npG
      refine q p (.mk [leaf] key .nil) _ ⟨mem_zero.mp hz, key, rfl, hk⟩ h7 ⟨x, y, upd_same, (hpl.st s34).st s4, ht.same s4⟩ (sx.trans (SameX.of s04)) ?_ (sx.free hpd npG)
      obtain ⟨a, b, c, e⟩ := hdG
      exact ⟨a, b, c, s04 _ _ e⟩
  | n + 1, f, fd, F, T, TC, TK => by
    have cg : Cal P w K mg base (n + 8) "_law_grown_pair" ["_law_dice_here", "_law_plain", "_law_kinds", "_law_name", "_law_rank"] (spGP K C Ck n) := T.d_law_grown_pair.cal fun f fd F => ok_gp n F T TC TK
    have ck : Cal P w K mg base (n + 8) "_law_tree_key" ["_law_dice_here"] spTK := (T.d_law_tree_key.cal fun f fd F => ok_tk F T).mono (by omega)
    have cm : Cal P w K mg base (n + 8) "_law_mixed" ["_law_dice_here", "_law_items"] (spMixV K) := (T.d_law_mixed.cal fun f fd F => ok_mixV F T).mono (by omega)
    have cl : Cal P w K mg base (n + 8) "_law_link_plain" ["_law_name", "_law_trees"] (spLP K) := (T.d_law_link_plain.cal fun f fd F => ok_lp F T).mono (by omega)
    have kI : CalI P w K mg base C 3 ["self", "kinds", "key"] (spTInit K C Ck) := by
      obtain ⟨f, fd, m, F, b⟩ := TC.made
      exact ⟨f, fd, m, ok_tinit F T TC TK, b⟩
    have cf : CalQ P w K mg base C "linked" (n + 8) ["cls", "name", "trees"] (spLink K C Ck) := (TC.k_linked.cal (k := 6) fun f fd F => fnOk_lift (ok_link F T TC TK)).up (by omega)
    refine F.ok sc_law_grown_pair (fun vs H Q E h => ?_) (fun cdv A outer s H vs Q E hr h => ?_)
    · obtain ⟨d, pl, kx, mk, md, leaf, z, kvs, M, M1, ns, r, rfl, _⟩ := h
      rfl
    · obtain ⟨d, pl, kx, mk, md, leaf, z, kvs, M, M1, ns, r, rfl, hrn, hr4, hC, hz, q⟩ := h
      have hu := hu_of hr
      refine ⟨_, pss_cons (ps_if (pt_cmpR op_eq (pv 4) pe_int (nomark _))
          (pss_cut (ps_set (i := 5) sc_law_grown_pair.nd rfl (.inl rfl) (pe_cal ck hr (by rfl) (pa_cons (pv 0) pa_nil)))
          (pss_one (ps_ret (pe_lst (pa_cons (pe_tup (pa_cons (pe_tup (pa_cons (pe_dget hu (pv 1) pe_str (fun _ _ => rfl)) pa_nil)) (pa_cons (pv 5) (pa_cons (pe_tup pa_nil) pa_nil)))) (pa_cons (pe_makeC kI (show Room 4 _ from hr.mono (by omega)) (by rfl) TC.gC (pa_cons (pv 2) (pa_cons (pv 5) pa_nil))) pa_nil)))))) pss_nil)
        (pss_cut (ps_setLc (i := 6) (own := [("_law_part", 7)]) (g := gName 7) (tt := tYes) (by rfl) sc_law_grown_pair.nd rfl rfl (sw_true rfl rfl rfl (by decide +kernel)) (pi_list (pe_cal cm hr (by rfl) (pa_cons (pv 0) (pa_cons (pe_dget hu (pe_dget hu (pv 1) pe_str (fun _ _ => rfl)) (pv 3) (fun _ _ => rfl)) pa_nil))))
            (blkOk_by (N := NGP) (sc := defScope s_law_grown_pair) (by decide +kernel)) (fun _ _ _ _ _ => pg_name (i := 7) sc_law_grown_pair.nd rfl (.inl rfl)) (fun _ _ _ _ _ => pts_nil)
            (fun _ _ _ _ _ => pe_cal cg hr (by rfl) (pa_cons (pv 0) (pa_cons (pv 1) (pa_cons (pv 2) (pa_cons (pv 7) (pa_cons (pe_op op_sub (pv 4) pe_int) pa_nil)))))))
        (pss_one (ps_ret (pe_lst (pa_cons (pe_cal cl hr (by rfl) (pa_cons (pv 3) (pa_cons (pe_lc (own := [("_law_pair", 8)]) (g := gName 8) (tt := tYes) rfl sc_law_grown_pair.nd (pi_list (pv 6)) (blkOk_by (N := NGP) (sc := defScope s_law_grown_pair) (by decide +kernel)) (fun _ _ _ _ _ => pg_name (i := 8) sc_law_grown_pair.nd rfl (.inl rfl)) (fun _ _ _ _ _ => pts_nil)
              (fun _ _ _ _ _ => pe_ix (ix_listK (K := K) (by exact rfl)) (pv 8) pe_int (fun _ _ => rfl))) pa_nil)))
            (pa_cons (pe_cmX (E := fun _ => E0) (pe_glob (v := .ref C) (by rfl) TC.gC rfl) cf hr (fun σ => neverAt σ) (pa_cons (pv 3) (pa_cons (pe_callTy call_tuple_of (by rfl) T.b_tuple (by decide +kernel) (pa_cons (pe_lc (own := [("_law_pair", 8)]) (g := gName 8) (tt := tYes) rfl sc_law_grown_pair.nd (pi_list (pv 6)) (blkOk_by (N := NGP) (sc := defScope s_law_grown_pair) (by decide +kernel)) (fun _ _ _ _ _ => pg_name (i := 8) sc_law_grown_pair.nd rfl (.inl rfl)) (fun _ _ _ _ _ => pts_nil)
              (fun _ _ _ _ _ => pe_ix (ix_listK (K := K) (by exact rfl)) (pv 8) pe_int (fun _ _ => rfl))) pa_nil)) pa_nil))) pa_nil)))))), ?_⟩
      have big : 100000 ≤ sizeLine := by decide
      refine ⟨_, rfl, rfl, _, rfl, ?_⟩
      by_cases e0 : r = 0
      · subst e0
        rw [decide_eq_true (show V.int ((0 : Nat) : Int) = V.int 0 from rfl)]
        show (if true = true then _ else _)
        rw [if_pos rfl]
        refine ⟨fun σ' G => ∃ key : Int, σ' = [some (.ref d), some (.ref pl), some (.ref kx), some (.str z), some (.int ((0 : Nat) : Int)), some (.int key), none, none, none] ∧ intV (.int key) = true ∧ key ≠ 77 ∧ SameX d H G ∧ DiceAt G d, ?_, ?_⟩
        · exact ⟨_, rfl, d, rfl, hC.hd, fun key H' hk h7 sx hd' => ⟨key, rfl, hk, h7, sx, hd'⟩⟩
        rintro σ' G ⟨key, rfl, hk, h7, sx, hdG⟩
        have g := hC.step sx hdG
        refine ⟨_, rfl, pl, .str leaf, rfl, .inl ⟨_, Sum.inr "leaf", .inl g.epl, rfl, (book_leaf leaf mk).symm⟩, by show 1 ≤ sizeLine; omega, fun wl nwl => ?_⟩
        have s1 := same_new (o := .tup [.str leaf]) (Same.refl G) nwl
        have e1 : (upd G wl (.tup [.str leaf])) wl = some (.tup [.str leaf]) := upd_same
        generalize upd G wl (.tup [.str leaf]) = G1 at s1 e1
        refine ⟨_, rfl, Nat.zero_le _, fun cl ncl => ?_⟩
        have s2 := same_new (o := .tup []) (Same.refl G1) ncl
        have e2 : (upd G1 cl (.tup [])) cl = some (.tup []) := upd_same
        generalize upd G1 cl (.tup []) = G2 at s2 e2
        refine ⟨by show 3 ≤ sizeLine; omega, fun x nx => ?_⟩
        have s3 := same_new (o := .tup [.ref wl, .int key, .ref cl]) (Same.refl G2) nx
        have e3 : (upd G2 x (.tup [.ref wl, .int key, .ref cl])) x = some (.tup [.ref wl, .int key, .ref cl]) := upd_same
        generalize upd G2 x (.tup [.ref wl, .int key, .ref cl]) = G3 at s3 e3
        have s03 : Same G G3 := fun b o e => s3 _ _ (s2 _ _ (s1 _ _ e))
        have hpl : PlAt K G3 (.mk [leaf] key .nil) x := by
          unfold PlAt
          refine ⟨wl, cl, [], .inl (.inl e3), .inl (.inl (s3 _ _ (s2 _ _ e1))), .inl (.inl (s3 _ _ e2)), ?_⟩
          unfold PdAt
          rfl
        refine ⟨_, rfl, _, rfl, fun y dy ny ndy nyy => ?_⟩
        have sN : Same G3 (upd (upd G3 dy (.own y)) y (.ins C dy [])) := fun b o e => by
          rw [upd_ne (ne_of_none e ny), upd_ne (ne_of_none e ndy)]
          exact e
        refine ⟨y, dy, kx, md, leaf, M1, ns, key, rfl, upd_same, (g.kn.same s03).same sN, hk, fun G4 ht keep => ⟨rfl, ?_⟩⟩
        have s34 : Same G3 G4 := fun b o e => keep b o (ne_of_none e ny) (sN _ _ e)
        refine ⟨by show 2 ≤ sizeLine; omega, fun p np => ?_⟩
        have s4 := same_new (o := .lst [.ref x, .ref y]) (Same.refl G4) np
        have s04 : Same G (upd G4 p (.lst [.ref x, .ref y])) := fun b o e => s4 _ _ (s34 _ _ (s03 _ _ e))
        have npG : G p = none := by
          cases h : G p with
          | none => rfl
          | some o =>
            have := s34 _ _ (s03 _ _ h)
            rw [this] at np
            cases np
        have hpd : p ≠ d := dice_ne hdG npG
        refine q p (.mk [leaf] key .nil) _ ⟨mem_zero.mp hz, key, rfl, hk⟩ h7 ⟨x, y, upd_same, (hpl.st s34).st s4, ht.same s4⟩ (sx.trans (SameX.of s04)) ?_ (sx.free hpd npG)
        obtain ⟨a, b, c, e⟩ := hdG
        exact ⟨a, b, c, s04 _ _ e⟩
      obtain ⟨r', rfl⟩ : ∃ r', r = r' + 1 := ⟨r - 1, by omega⟩
      rw [decide_eq_false (show ¬ V.int ((r' + 1 : Nat) : Int) = V.int 0 from fun h => by have := V.int.inj h; omega)]
      show (if false = true then _ else _)
      rw [if_neg (by decide)]
      have v1 : Vld leaf M1 := hC.o.vld hC.v
      obtain ⟨ps, hps, hpar⟩ := (mem_succ v1.nd).mp hz
      obtain ⟨p1, p2, p3, p4⟩ : sortedS ps = true ∧ 2 ≤ ps.length ∧ ps.length ≤ 3 ∧ _ := v1.parts _ (lookM_some hps)
      have hpsM : lookM M z = some ps := by rw [← hC.o.look]; exact hps
      -- the parts, grown
      refine ⟨fun σ' G => ∃ (D : Addr) (rs : List Addr) (ts : List Tr), σ' = [some (.ref d), some (.ref pl), some (.ref kx), some (.str z), some (.int ((r' + 1 : Nat) : Int)), none, some (.ref D), none, none] ∧ G D = some (.lst (rs.map V.ref)) ∧ Paired (PairAt K C kx G) rs ts ∧ (ts.map Tr.kind).Perm ps ∧ (∀ u ∈ ts, Grown leaf M1 r' u.kind u ∧ u.key ≠ 77) ∧ SameX d H G ∧ DiceAt G d, ?_, ?_⟩
      · have hkey : z ∈ keysOf M := by
          have := lookM_some hpsM
          exact List.mem_map.mpr ⟨_, this, rfl⟩
        obtain ⟨ps', a, e1, e2, e3⟩ := hC.mak.key hkey
        rw [hpsM] at e1
        cases e1
        refine ⟨_, rfl, _, rfl, pl, .ref mk, rfl, .inl ⟨_, Sum.inr "makings", .inl hC.epl, rfl, (book_mak leaf mk).symm⟩, _, rfl, mk, _, rfl, .inl ⟨kvs, Sum.inr z, .inl hC.emk, rfl, e2.symm⟩, d, a, ps.map V.str, rfl, hC.hd, .inr e3.sq, by rw [List.length_map]; omega, fun l H1 zs hperm nl el sx1 hd1 => ?_⟩
        obtain ⟨ys, rfl, hys⟩ := perm_strs hperm
        have ly := hys.length_eq
        have g1 := hC.step sx1 hd1
        refine ⟨l, rfl, ⟨_, .inl (.inl el)⟩, fun D hD => ?_⟩
        have hDd : D ≠ d := dice_ne hd1 hD
        have nlD : l ≠ D := fun z => by rw [← z, el] at hD; cases hD
        have hld : l ≠ d := dice_ne hC.hd nl
        refine lc_it (g := gName 7) (tt := tYes) (vs := [7]) (walk_list (K := K) (a := l) (xs := ys.map V.str)) (fun j G => ∃ (rs : List Addr) (ts : List Tr), G D = some (.lst (rs.map V.ref)) ∧ rs.length = j ∧ Paired (fun r t => PairAt K C kx G r t ∧ r ≠ D) rs ts ∧ ts.map Tr.kind = ys.take j ∧ (∀ u ∈ ts, Grown leaf M1 r' u.kind u ∧ u.key ≠ 77) ∧ SameX d H1 G ∧ DiceAt G d)
          ⟨[], [], upd_same, rfl, .nil, rfl, nofun, (SameX.refl d H1).new hD, dice_upd hd1 hDd⟩ (fun j G _ h => by obtain ⟨_, _, _, _, _, _, _, sx, _⟩ := h; exact .inl (.inl (sx _ _ hld el))) (fun j u Gx G hj h hy => ?_) (fun G h => ?_)
        · obtain ⟨rs, ts, eD, lr, hP, ek, hg, sx, hdG⟩ := h
          obtain ⟨rfl, hu2⟩ := hy
          obtain ⟨y, hy, rfl⟩ := at_texts hu2
          have hjl := (List.getElem?_eq_some_iff.mp hy).1
          have yps : y ∈ ps := hys.mem_iff.mp (List.mem_of_getElem? hy)
          refine ⟨rfl, _, rfl, _, rfl, _, rfl, _, rfl, _, rfl, _, _, rfl, rfl, d, pl, kx, mk, md, leaf, y, kvs, M, M1, ns, r', ?_, by omega, by omega, g1.step sx hdG, hpar y yps, fun p t G3 hgr h7 hpr sx3 hd3 np => ?_⟩
          · show [V.ref d, V.ref pl, V.ref kx, V.str y, V.int (((r' + 1 : Nat) : Int) - 1)] = _
            rw [show ((r' + 1 : Nat) : Int) - 1 = ((r' : Nat) : Int) by omega]
          · have eD3 := sx3 _ _ hDd eD
            have npD : p ≠ D := fun z => by rw [z, eD] at np; cases np
            refine ⟨_, eD3, ?_, rs ++ [p], ts ++ [t], ?_, by rw [List.length_append, lr]; rfl, paired_snoc (L2.Paired.mapP hP fun a b q => ⟨(q.1.sx hdG sx3).atl eD3 q.2, q.2⟩) ⟨hpr.atl eD3 npD, npD⟩, ?_, fun u hu => ?_, ?_, dice_upd hd3 hDd⟩
            · rw [List.length_map, lr]
              exact Nat.lt_of_le_of_lt (show j ≤ 3 by omega) (by decide)
            · rw [upd_same, List.map_append]
              rfl
            · rw [List.map_append, ek, take_snoc' hy]
              show _ ++ [t.kind] = _
              rw [(grown_facts v1 hgr).kind]
            · rcases List.mem_append.mp hu with h | h
              · exact hg u h
              · rw [List.mem_singleton.mp h, (grown_facts v1 hgr).kind]
                exact ⟨hgr, h7⟩
            · exact (sx.trans sx3).at hD
        · obtain ⟨rs, ts, eD, lr, hP, ek, hg, sx, hdG⟩ := h
          rw [List.length_map, List.take_length] at ek
          exact ⟨D, rs, ts, rfl, eD, L2.Paired.mapP hP fun _ _ q => q.1, by rw [ek]; exact hys, hg, sx1.trans sx, hdG⟩
      rintro σ' G ⟨D, rs, ts, rfl, eD, hP, hper, hg7, sx, hdG⟩
      have hg : ∀ u ∈ ts, Grown leaf M1 r' u.kind u := fun u hu => (hg7 u hu).1
      have g := hC.step sx hdG
      obtain ⟨xs, ys, hPl, hTr, hat⟩ := pairs_split hP
      have l1 := Paired.length hP
      have l2 := Paired.length hPl
      have l3 := Paired.length hTr
      have l4 := hper.length_eq
      rw [List.length_map] at l4
      refine ⟨_, rfl, _, rfl, D, rfl, ⟨_, .inl (.inl eD)⟩, fun D2 hD2 => ?_⟩
      refine lc_it (g := gName 8) (tt := tYes) (vs := [8]) (walk_list (K := K) (a := D) (xs := rs.map V.ref)) (fun j G' => G' D2 = some (.lst ((xs.take j).map V.ref)) ∧ Same G G')
        ⟨upd_same, same_new (Same.refl G) hD2⟩ (fun j G' _ h => .inl (.inl (h.2 _ _ eD))) (fun j u Gx G' hj h hy => ?_) (fun G1 h => ?_)
      · obtain ⟨eD2, sm⟩ := h
        obtain ⟨rfl, hu2⟩ := hy
        obtain ⟨r, hr2, rfl⟩ := refs_at' hu2
        obtain ⟨x, y, hx, hy, er⟩ := hat j r hr2
        refine ⟨rfl, _, rfl, r, _, _, .ref x, rfl, rfl, .inl (.inl (sm _ _ er)), atI_nat (j := 0) rfl, _, eD2, ?_, ?_, fun b o e => by rw [upd_ne (ne_of_none e hD2)]; exact sm b o e⟩
        · rw [List.length_map, List.length_take]
          exact Nat.lt_of_le_of_lt (show _ ≤ 3 by omega) (by decide)
        · rw [upd_same, take_snoc' hx, List.map_append]
          rfl
      obtain ⟨eD2, s1⟩ := h
      rw [show (rs.map V.ref).length = xs.length by rw [List.length_map]; omega, List.take_length] at eD2
      have F := fun u hu => grown_facts v1 (hg u hu)
      have grow : ∀ {j : Nat} {t : Tr}, IsWin (Trs.of ts) j t → Grown leaf M1 (r' + 1) z (linkT z (Trs.of ts) j t) := fun hw => ⟨ps, ts, _, _, hps, hper, hg, hw, rfl⟩
      have hsz : (Trs.of ts).size ≤ 5000 := by
        obtain ⟨j0, t0, hw0⟩ := win_is (ts := Trs.of ts) (by rw [Trs.of_list]; intro h; rw [h] at l4; simp at l4; omega)
        have h1 := (grown_facts v1 (grow hw0)).size
        rw [link_size hw0.1] at h1
        have h2 := siz_le v1 (r' + 1) z
        have h3 : 3 ^ (r' + 1) ≤ 3 ^ 4 := Nat.pow_le_pow_right (by decide) hr4
        omega
      have hall : ∀ t ∈ (Trs.of ts).list, t.rank = r' ∧ t.way ≠ [] ∧ intV (.int t.key) = true ∧ t.way.length ≤ 1000 := fun t ht => by
        rw [Trs.of_list] at ht
        have f := F t ht
        exact ⟨f.rank, f.ne, f.key, by rw [f.way]; omega⟩
      refine ⟨D2, z, xs, Trs.of ts, r', rfl, eD2, pls_of (L2.Paired.mapP hPl fun _ _ q => q.st s1), by omega, by omega, by omega, fun t ht => ⟨(hall t ht).1, (hall t ht).2.2.2⟩, fun x G2 j t s2 hw hpl2 => ?_⟩
      have eD2' := s2 _ _ (s1 _ _ eD)
      have s02 : Same G G2 := fun b o e => s2 _ _ (s1 _ _ e)
      refine ⟨rfl, _, rfl, _, rfl, D, rfl, ⟨_, .inl (.inl eD2')⟩, fun D3 hD3 => ?_⟩
      refine lc_it (g := gName 8) (tt := tYes) (vs := [8]) (walk_list (K := K) (a := D) (xs := rs.map V.ref)) (fun j G' => G' D3 = some (.lst ((ys.take j).map V.ref)) ∧ Same G2 G')
        ⟨upd_same, same_new (Same.refl G2) hD3⟩ (fun j G' _ h => .inl (.inl (h.2 _ _ eD2'))) (fun j u Gx G' hj h hy => ?_) (fun G3 h => ?_)
      · obtain ⟨eD3, sm⟩ := h
        obtain ⟨rfl, hu2⟩ := hy
        obtain ⟨r, hr2, rfl⟩ := refs_at' hu2
        obtain ⟨x, y, hx, hy, er⟩ := hat j r hr2
        refine ⟨rfl, _, rfl, r, _, _, .ref y, rfl, rfl, .inl (.inl (sm _ _ (s02 _ _ er))), atI_nat (j := 1) rfl, _, eD3, ?_, ?_, fun b o e => by rw [upd_ne (ne_of_none e hD3)]; exact sm b o e⟩
        · rw [List.length_map, List.length_take]
          exact Nat.lt_of_le_of_lt (show _ ≤ 3 by omega) (by decide)
        · rw [upd_same, take_snoc' hy, List.map_append]
          rfl
      obtain ⟨eD3, s3⟩ := h
      rw [show (rs.map V.ref).length = ys.length by rw [List.length_map]; omega, List.take_length] at eD3
      refine ⟨D3, _, rfl, .inl ⟨.inl (.inl eD3), fun tl ntl => ?_⟩⟩
      have s4 := same_new (o := .tup (ys.map V.ref)) (Same.refl G3) ntl
      have e4 : (upd G3 tl (.tup (ys.map V.ref))) tl = some (.tup (ys.map V.ref)) := upd_same
      generalize upd G3 tl (.tup (ys.map V.ref)) = G4 at s4 e4
      have s04 : Same G G4 := fun b o e => s4 _ _ (s3 _ _ (s02 _ _ e))
      have s24 : Same G2 G4 := fun b o e => s4 _ _ (s3 _ _ e)
      have hzn : z ∈ ns := (hC.nm.mem z).mpr (.inr (List.mem_map.mpr ⟨_, lookM_some hps, rfl⟩))
      refine ⟨tl, kx, md, z, ys, Trs.of ts, r', leaf, M1, ns, ps, rfl, .inl (.inl e4), trs_of (L2.Paired.mapP hTr fun _ _ q => q.same s04), by omega, by omega, by omega, hall, g.kn.same s04, v1, eqB_self v1.nd, hzn, hps, p1, by rw [Trs.of_list]; exact hper, hsz, fun y G5 j' t' s5 hw' hT => ?_⟩
      obtain ⟨rfl, rfl⟩ := win_one hw hw'
      refine ⟨by show 2 ≤ sizeLine; omega, fun p np => ?_⟩
      have s6 := same_new (o := .lst [.ref x, .ref y]) (Same.refl G5) np
      have s05 : Same G G5 := fun b o e => s5 _ _ (s04 _ _ e)
      have npG : G p = none := by
        cases h : G p with
        | none => rfl
        | some o =>
          have := s05 _ _ h
          rw [this] at np
          cases np
      have hpd : p ≠ d := dice_ne hdG npG
      refine q p _ _ (grow hw) (by rw [link_key]; exact (hg7 t (by have := hw.1; rw [Trs.of_list] at this; exact List.mem_of_getElem? this)).2) ⟨x, y, upd_same, ((hpl2.st s24).st s5).st s6, hT.same s6⟩ (sx.trans (SameX.of fun b o e => s6 _ _ (s05 _ _ e))) ?_ (sx.free hpd npG)
      obtain ⟨a, b, c, e⟩ := hdG
      exact ⟨a, b, c, s6 _ _ (s05 _ _ e)⟩
end
end Kl

set_option maxRecDepth 100000
set_option maxHeartbeats 4000000
namespace Gx
open PySem PySem.Spec PySem.Calls PyProof.Rows L2
/-! ### == of tuples whose items are compared by code of the program -/
/-- the test x == y (same object, or ==) gives b wherever J holds, and keeps J -/
def EqW (P : Program) (w : World) (A : Around) (J : Shared → Prop) (x y : Value) (b : Bool) : Prop :=
  ∀ (s : Shared) (Q : Bool → Shared → Prop) (E : Value → Shared → Prop), J s → (∀ s', J s' → Q b s') → wpAny (model P w) A (eqBool x y) Q E s
/-- the pair that stands first in what is left of two arrays side by side -/
theorem zip_first {xs ys : Array Value} {i : Nat} {p : Value × Value} {r : List (Value × Value)} (h : p :: r = (xs.toList.zip ys.toList).drop i) :
    ∃ (h1 : i < xs.size) (h2 : i < ys.size), p = (xs[i], ys[i]) ∧ r = (xs.toList.zip ys.toList).drop (i + 1) := by
  have h0 : (xs.toList.zip ys.toList)[i]? = some p := by
    have := congrArg (fun l => l[0]?) h
    simp only [List.getElem?_drop, Nat.add_zero] at this
    rw [← this]
    rfl
  obtain ⟨a, b⟩ := List.getElem?_zip_eq_some.mp h0
  rw [Array.getElem?_toList] at a b
  obtain ⟨h1, e1⟩ := Array.getElem?_eq_some_iff.mp a
  obtain ⟨h2, e2⟩ := Array.getElem?_eq_some_iff.mp b
  refine ⟨h1, h2, by rw [e1, e2], ?_⟩
  have := congrArg List.tail h
  rw [List.tail_cons, List.tail_drop] at this
  exact this
section
variable {P : Program} {w : World} {A : Around} {J : Shared → Prop}
/-- the items so far were told equal; the answer is read off at the end, or at the first pair that is not -/
theorem tuple_eqW {s : Shared} {R : Result → Shared → Prop} (l b : Addr) (xs ys : Array Value) (n m : Nat) (dl db : Option Addr) (sl sb : Array (Option Value)) (e : Nat → Bool)
    (gl : s.heap.get? l = some { cls := .type "tuple", dict := dl, data := .seq xs n, slots := sl }) (gb : s.heap.get? b = some { cls := .type "tuple", dict := db, data := .seq ys m, slots := sb }) (hJ : J s)
    (he : ∀ j (h1 : j < xs.size) (h2 : j < ys.size), EqW P w A.in1 J xs[j] ys[j] (e j))
    (h : ∀ s', J s' → R (.ok (.ret (.bool ((List.range (min xs.size ys.size)).all e && xs.size == ys.size)))) s') :
    wpAny (model P w) A.in1 (Builtin.«tuple.__eq__» ⟨[.ref l, .ref b], []⟩) (fun fin s' => ∃ v, fin = .done (.ret v) ∧ R (.ok (.ret v)) s') (fun e s' => R (.error e) s') s := by
  have sub := AutoSeq1.sub_tuple_tuple
  wp_walk using wpAny_loadPart' gl, wpAny_loadPart' gb, wpAny_forIn_list _ (fun left b s' => b.1 = none ∧ J s' ∧ ∃ i, left = (xs.toList.zip ys.toList).drop i ∧ ∀ j, j < i → e j = true) _
  case h => exact ⟨rfl, hJ, 0, rfl, fun j hj => absurd hj (Nat.not_lt_zero j)⟩
  case turn =>
    rintro ⟨y, x⟩ left b s' ⟨hb', hJ', i, hz, front⟩
    obtain ⟨h1, h2, ep, er⟩ := zip_first hz
    cases ep
    refine wpAny_bind (he i h1 h2 _ _ _ hJ' fun s2 hJ2 => ?_)
    cases c : e i with
    | true =>
      wp_walk
      exact ⟨rfl, hJ2, i + 1, er, fun j hj => (Nat.lt_succ_iff_lt_or_eq.mp hj).elim (front j) fun q => q ▸ c⟩
    | false =>
      have r := h s2 hJ2
      rw [List.all_eq_false.mpr ⟨i, List.mem_range.mpr (Nat.lt_min.mpr ⟨h1, h2⟩), by rw [c]; decide⟩, Bool.false_and] at r
      wp_walk
      exact ⟨_, rfl, r⟩
  case fin =>
    rintro ⟨b1, b2⟩ s' ⟨hb', hJ', i, hz, front⟩
    cases (show b1 = none from hb')
    have past := List.drop_eq_nil_iff.mp hz.symm
    rw [List.length_zip, Array.length_toList, Array.length_toList] at past
    have r := h s' hJ'
    rw [List.all_eq_true.mpr fun j hj => front j (Nat.lt_of_lt_of_le (List.mem_range.mp hj) past), Bool.true_and] at r
    wp_walk
    exact ⟨_, rfl, by simpa [Builtin.Tuple.tupleCompareSizes] using r⟩
theorem EqW.same (v : Value) : EqW P w A J v v true := fun s Q E hJ h => by
  unfold eqBool
  refine wpAny_holding ?_
  refine wpAny_ite_split (fun _ => ?_) (fun hab => absurd (beq_self_eq_true v) hab)
  exact wpAny_bind (wpAny_rule (wpAny_pure (h s hJ)))
/-- .. == between other objects -/
def RcW (P : Program) (w : World) (A : Around) (J : Shared → Prop) (x y : Value) (b : Bool) : Prop :=
  ∀ (s : Shared) (Q : Value → Shared → Prop) (E : Value → Shared → Prop), J s → (∀ s', J s' → Q (.bool b) s') → wpAny (model P w) A (richCompare .Eq x y) Q E s
theorem EqW.of_refs {l b : Addr} {k : Bool} (hne : l ≠ b) (h : RcW P w A J (.ref l) (.ref b) k) : EqW P w A J (.ref l) (.ref b) k := fun s Q E hJ hq => by
  unfold eqBool
  refine wpAny_holding ?_
  refine wpAny_ite_split (fun hab => absurd (by have := eq_of_beq hab; injection this) hne) (fun _ => ?_)
  exact wpAny_bind (h s _ E hJ fun s' h' => wpAny_truthy_bool (hq s' h'))
theorem RcW.tuples {l b : Addr} {items items2 : Array Value} {e : Nat → Bool} (hl : ∀ s, J s → s.heap.IsTuple l items) (hb : ∀ s, J s → s.heap.IsTuple b items2) (hu : A.units < cLine)
    (he : ∀ j (h1 : j < items.size) (h2 : j < items2.size), EqW P w A.in1 J items[j] items2[j] (e j)) : RcW P w A J (.ref l) (.ref b) ((List.range (min items.size items2.size)).all e && items.size == items2.size) := fun s Q E hJ h => by
  obtain ⟨⟨_, dl, _, sl⟩, gl, cl, n, el⟩ := hl s hJ
  obtain ⟨⟨_, db, _, sb⟩, gb, cb, m, eb⟩ := hb s hJ
  cases (show _ = _ from cl)
  cases (show _ = _ from el)
  cases (show _ = _ from cb)
  cases (show _ = _ from eb)
  have ha : s.TypeIs (.ref l) "tuple" := ⟨_, gl, rfl⟩
  refine wpAny_richCompare_same_room (op := .Eq) ha ⟨_, gb, rfl⟩ F.slot_tuple_eq ?_ hu
  refine wpAny_call (codeAny_call_builtin F.slot_tuple_eq.plain F.entry_tuple_eq (F.slot_tuple_eq.check _ _ _ _ _ _ _ _ ha (F.args_tuple_eq_2 _ _) ?_))
  refine wpAny_mono (tuple_eqW (R := wants (fun v s' => v ≠ .notImplemented ∧ Q v s') E) l b items items2 n m dl db sl sb e gl gb hJ he fun s' h' => ⟨(fun x => nomatch x), h s' h'⟩) (fun fin s' h' => ?_) fun _ _ x => x
  obtain ⟨v, rfl, hv⟩ := h'
  exact hv
end
end Gx

set_option maxRecDepth 100000
set_option maxHeartbeats 4000000
namespace Kl
open PySem PySem.Spec PyProof.Rows L2 Gx Mx
noncomputable def eqP (p : Prop) : Bool := @decide p (Classical.propDecidable p)
theorem eqP_iff {p : Prop} : eqP p = true ↔ p := @decide_eq_true_iff p (Classical.propDecidable p)
theorem eqP_t {p : Prop} (h : p) : eqP p = true := eqP_iff.mpr h
theorem eqP_f {p : Prop} (h : ¬ p) : eqP p = false := by
  cases e : eqP p with
  | false => rfl
  | true => exact absurd (eqP_iff.mp e) h
theorem eqP_congr {p q : Prop} (h : p ↔ q) : eqP p = eqP q := by rw [propext h]
theorem map_inj {α β : Type} {f : α → β} (h : ∀ a b, f a = f b → a = b) : ∀ {l m : List α}, l.map f = m.map f → l = m
  | [], [], _ => rfl
  | [], _ :: _, e => nomatch e
  | _ :: _, [], e => nomatch e
  | a :: l, b :: m, e => by rw [h a b (List.cons.inj e).1, map_inj h (List.cons.inj e).2]
theorem all_eq {α : Type} (l m : List α) : ((List.range (min l.length m.length)).all (fun j => eqP (l[j]? = m[j]?)) && (l.length == m.length)) = eqP (l = m) := by
  rw [Bool.eq_iff_iff, eqP_iff, Bool.and_eq_true, List.all_eq_true, beq_iff_eq]
  constructor
  · rintro ⟨h1, h2⟩
    refine List.ext_getElem? fun j => ?_
    by_cases c : j < l.length
    · exact eqP_iff.mp (h1 j (List.mem_range.mpr (by omega)))
    · rw [List.getElem?_eq_none (by omega), List.getElem?_eq_none (by omega)]
  · rintro rfl
    exact ⟨fun j _ => eqP_t rfl, rfl⟩
section
variable {X : Cx} {C : Addr} {k : Nat} {ps : List Str} {sp : Sp} {pins : List (Addr × Obj)} {σ : L2.St}
/-- == of an instance, somewhere below the body -/
theorem RcW.inst {A : Around} {J : Shared → Prop} {a : Addr} {y : V} {u : Value} {r : Bool} (c : CalM X.prog X.w X.K X.mg X.base C "__eq__" k ps sp) (hr : Room k A) (fr : A.frames = X.A.frames) (ry : RelV y u)
    (hJ : ∀ s, J s → ∃ H' dx fs t, Inv X pins σ H' s ∧ H' a = some (.ins C dx fs) ∧ Oth X.K H' C y t ∧ sp [.ref a, y] H' (fun v H2 => v = .bl r ∧ ∀ s2, Inv X pins σ H2 s2 → J s2) E0) : RcW X.prog X.w A J (.ref a) u r := fun s Q E hs hq => by
  obtain ⟨f, fd, F, me, b, _⟩ := c
  obtain ⟨H', dx, fs, t, I, ea, o, want⟩ := hJ s hs
  obtain ⟨mA, O, _⟩ := ins_get I.hok ea
  obtain ⟨od, L, _⟩ := O.look
  obtain ⟨mm, hF⟩ := I.fr
  obtain ⟨lk, nf⟩ := o.looks (M := model X.prog X.w) I ry
  refine PySem.W.cmp_K (op := .Eq) hr.units0 hF I.ok.mod.kin L lk nf me.at_ me.fn (wpAny_mono (run_below F hr fr b I (.cons (rel_ref _) (.cons ry .nil)) want) (fun v s' z => ?_) fun _ _ e => e)
  obtain ⟨v', H2, I2, rv, rfl, back⟩ := z
  cases rv
  exact hq s' (back s' I2)
theorem refs_its {H : Hp} {s : Shared} {a : Addr} {xs : List Addr} (I : Inv X pins σ H s) (h : SqT X.K H a (xs.map V.ref)) : s.heap.IsTuple a (xs.map Value.ref).toArray := by
  obtain ⟨its, r, t, _⟩ := I.tuple h
  have e : its = xs.map Value.ref := by
    have : ∀ (xs : List Addr) (its : List Value), Vals (xs.map V.ref) its → its = xs.map Value.ref := fun xs => by
      induction xs with
      | nil => intro its h; cases h; rfl
      | cons x xs ih =>
        intro its h
        cases h with
        | cons h1 h2 =>
          rw [List.map_cons, ih _ h2]
          exact congrArg (· :: _) h1
    exact this xs its r
  rw [e] at t
  exact t
mutual
theorem TreeAt.uniq {kx : Addr} {H : Hp} {s : Shared} (I : Inv X pins σ H s) : ∀ (t u : Tr) (x : Addr), TreeAt X.K C kx H t x → TreeAt X.K C kx H u x → t = u
  | .mk w1 k1 d1, .mk w2 k2 d2, x, h, h' => by
    unfold TreeAt at h h'
    obtain ⟨dx, wl, cl, das, a1, a2, a3, a4⟩ := h
    obtain ⟨dx', wl', cl', das', b1, b2, b3, b4⟩ := h'
    rw [a1] at b1
    have e := Option.some.inj b1
    injection e with e1 e2 e3
    have f1 := List.cons.inj e3
    have f2 := List.cons.inj f1.2
    have f3 := List.cons.inj f2.2
    have f4 := List.cons.inj f3.2
    have g2 : k1 = k2 := V.int.inj (Prod.mk.inj f2.1).2
    have g3 : wl = wl' := V.ref.inj (Prod.mk.inj f3.1).2
    have g4 : cl = cl' := V.ref.inj (Prod.mk.inj f4.1).2
    subst g2 g3 g4
    have ew := I.tuple_inj a2 b2
    have ed := I.tuple_inj a3 b3
    have ew' : w1 = w2 := map_inj (fun _ _ h => V.str.inj h) ew
    have ed' : das = das' := map_inj (fun _ _ h => V.ref.inj h) ed
    subst ew' ed'
    rw [DgsAt.uniq I d1 d2 das a4 b4]
theorem DgsAt.uniq {kx : Addr} {H : Hp} {s : Shared} (I : Inv X pins σ H s) : ∀ (d e : Dgs) (as : List Addr), DgsAt X.K C kx H d as → DgsAt X.K C kx H e as → d = e
  | .nil, .nil, as, h, h' => rfl
  | .nil, .cons d2 r2, as, h, h' => by
    unfold DgsAt at h h'
    obtain ⟨a, bs, xs, e, _⟩ := h'
    rw [h] at e
    cases e
  | .cons d1 r1, .nil, as, h, h' => by
    unfold DgsAt at h h'
    obtain ⟨a, bs, xs, e, _⟩ := h
    rw [h'] at e
    cases e
  | .cons d1 r1, .cons d2 r2, as, h, h' => by
    unfold DgsAt at h h'
    obtain ⟨a, bs, xs, e, a1, a2, a3⟩ := h
    obtain ⟨a', bs', xs', e', b1, b2, b3⟩ := h'
    rw [e] at e'
    obtain ⟨q1, q2⟩ := List.cons.inj e'
    subst q1 q2
    have ex : xs = xs' := map_inj (fun _ _ h => V.ref.inj h) (I.tuple_inj a1 b1)
    subst ex
    rw [TrsAt.uniq I d1 d2 xs a2 b2, DgsAt.uniq I r1 r2 bs a3 b3]
theorem TrsAt.uniq {kx : Addr} {H : Hp} {s : Shared} (I : Inv X pins σ H s) : ∀ (d e : Trs) (as : List Addr), TrsAt X.K C kx H d as → TrsAt X.K C kx H e as → d = e
  | .nil, .nil, as, h, h' => rfl
  | .nil, .cons d2 r2, as, h, h' => by
    unfold TrsAt at h h'
    obtain ⟨a, bs, e, _⟩ := h'
    rw [h] at e
    cases e
  | .cons d1 r1, .nil, as, h, h' => by
    unfold TrsAt at h h'
    obtain ⟨a, bs, e, _⟩ := h
    rw [h'] at e
    cases e
  | .cons d1 r1, .cons d2 r2, as, h, h' => by
    unfold TrsAt at h h'
    obtain ⟨a, bs, e, a1, a2⟩ := h
    obtain ⟨a', bs', e', b1, b2⟩ := h'
    rw [e] at e'
    obtain ⟨q1, q2⟩ := List.cons.inj e'
    subst q1 q2
    rw [TreeAt.uniq I d1 d2 a a1 b1, TrsAt.uniq I r1 r2 bs a2 b2]
end
end
/-! ### == of children -/
/-- trees of these kinds and ranks below n, told equal by == -/
def spTEq (K : PySem.W.Frag) (C Ck : Addr) (n : Nat) : Sp := fun vs H Q _ => ∃ (x y kx md : Addr) (t u : Tr) (leaf z z' : Str) (M : Mak) (ns : List Str) (r : Nat), vs = [.ref x, .ref y] ∧ TreeAt K C kx H t x ∧ TreeAt K C kx H u y ∧ KindsAt Ck H kx md leaf M ns ∧ Vld leaf M ∧ Grown leaf M r z t ∧ Grown leaf M r z' u ∧ r < n ∧
  ∀ H', Same H H' → Q (.bl (eqP (t = u))) H'
/-- the children at each rank are grown -/
def KidsG (leaf : Str) (M : Mak) (n : Nat) (ds : Dgs) : Prop := ∀ (i : Nat) (d : Trs), ds.list[i]? = some d → ∀ u ∈ d.list, i < n ∧ Grown leaf M i u.kind u
def rEqT (K : PySem.W.Frag) (C Ck : Addr) (n : Nat) : R2 := fun x y H Q => ∃ (cl cl2 kx md : Addr) (das das2 : List Addr) (ds ds2 : Dgs) (leaf : Str) (M : Mak) (ns : List Str), x = .ref cl ∧ y = .ref cl2 ∧ SqT K H cl (das.map V.ref) ∧ SqT K H cl2 (das2.map V.ref) ∧ DgsAt K C kx H ds das ∧ DgsAt K C kx H ds2 das2 ∧
  KindsAt Ck H kx md leaf M ns ∧ Vld leaf M ∧ KidsG leaf M n ds ∧ KidsG leaf M n ds2 ∧ ∀ H', Same H H' → Q (.bl (eqP (ds = ds2))) H'
section
variable {X : Cx} {C Ck : Addr} {k n : Nat} {ps : List Str}
theorem op_eqT (c : CalM X.prog X.w X.K X.mg X.base C "__eq__" k ps (spTEq X.K C Ck n)) (hr : Room (k + 2) X.A) : OpR X (compareOp .Eq) (rEqT X.K C Ck n) := by
  intro pins s σ H x y v u Q I rx ry h
  obtain ⟨cl, cl2, kx, md, das, das2, ds, ds2, leaf, M, ns, rfl, rfl, hc, hc2, hd, hd2, hK, hV, hg, hg2, q⟩ := h
  obtain rfl : v = Value.ref cl := rx
  obtain rfl : u = Value.ref cl2 := ry
  let J : Shared → Prop := fun s' => ∃ H', Same H H' ∧ Inv X pins σ H' s'
  have J0 : J s := ⟨H, Same.refl H, I⟩
  have tupJ : ∀ {a : Addr} {xs : List Addr}, SqT X.K H a (xs.map V.ref) → ∀ s', J s' → s'.heap.IsTuple a (xs.map Value.ref).toArray := fun hq s' ⟨H', sm, I'⟩ => refs_its I' (sqT_st sm hq)
  -- trees
  have tree : ∀ {A : Around} {tx ty : Addr} {t w : Tr} {i : Nat}, Room k A → A.frames = X.A.frames → TreeAt X.K C kx H t tx → TreeAt X.K C kx H w ty → i < n → Grown leaf M i t.kind t → Grown leaf M i w.kind w → EqW X.prog X.w A J (.ref tx) (.ref ty) (eqP (t = w)) := fun {A tx ty t w i} hA hf ht hw hi g1 g2 => by
    by_cases e : tx = ty
    · subst e
      have e2 := TreeAt.uniq I t w tx ht hw
      rw [eqP_t e2]
      exact EqW.same _
    · refine EqW.of_refs e (RcW.inst (pins := pins) (σ := σ) (y := .ref ty) c hA hf rfl fun s' ⟨H', sm, I'⟩ => ?_)
      have ht' := ht.same sm
      have hw' := hw.same sm
      obtain ⟨dx, fs, hx⟩ : ∃ dx fs, H' tx = some (.ins C dx fs) := by
        cases t with
        | mk way key ds =>
          unfold TreeAt at ht'
          obtain ⟨dx, wl, cl, das, hxi, _⟩ := ht'
          exact ⟨dx, _, hxi⟩
      obtain ⟨dy, fy, hy⟩ : ∃ dx fs, H' ty = some (.ins C dx fs) := by
        cases w with
        | mk way key ds =>
          unfold TreeAt at hw'
          obtain ⟨dx, wl, cl, das, hxi, _⟩ := hw'
          exact ⟨dx, _, hxi⟩
      exact ⟨H', dx, fs, .ref C, I', hx, .ins hy, tx, ty, kx, md, t, w, leaf, t.kind, w.kind, M, ns, i, rfl, ht', hw', hK.same sm, hV, g1, g2, hi, fun H2 s2 => ⟨rfl, fun s3 I3 => ⟨H2, fun b o e => s2 _ _ (sm _ _ e), I3⟩⟩⟩
  -- digits
  have dig : ∀ {A : Around} {da db : Addr} {xs ys : List Addr} {d e : Trs} {i : Nat}, Room (k + 1) A → A.frames = X.A.frames → SqT X.K H da (xs.map V.ref) → SqT X.K H db (ys.map V.ref) → TrsAt X.K C kx H d xs → TrsAt X.K C kx H e ys → (∀ t ∈ d.list, i < n ∧ Grown leaf M i t.kind t) → (∀ t ∈ e.list, i < n ∧ Grown leaf M i t.kind t) → EqW X.prog X.w A J (.ref da) (.ref db) (eqP (d = e)) := fun {A da db xs ys d e i} hA hf h1 h2 t1 t2 g1 g2 => by
    by_cases ee : da = db
    · subst ee
      have ex : xs = ys := map_inj (fun _ _ h => V.ref.inj h) (I.tuple_inj h1 h2)
      subst ex
      rw [eqP_t (TrsAt.uniq I d e xs t1 t2)]
      exact EqW.same _
    · have l1 := TrsAt.len d xs t1
      have l2 := TrsAt.len e ys t2
      have hh := RcW.tuples (P := X.prog) (w := X.w) (A := A) (J := J) (e := fun j => eqP (d.list[j]? = e.list[j]?)) (tupJ h1) (tupJ h2) hA.units0 (fun j a1 a2 => by
        have b1 : j < xs.length := by simpa using a1
        have b2 : j < ys.length := by simpa using a2
        obtain ⟨t, et, Tt⟩ := TrsAt.get t1 (List.getElem?_eq_getElem b1)
        obtain ⟨w, ew, Tw⟩ := TrsAt.get t2 (List.getElem?_eq_getElem b2)
        rw [et, ew]
        have hm := tree (A := A.in1) hA.in1 hf Tt Tw (g1 t (List.mem_of_getElem? et)).1 (g1 t (List.mem_of_getElem? et)).2 (g2 w (List.mem_of_getElem? ew)).2
        have e1 : (xs.map Value.ref).toArray[j] = Value.ref xs[j] := by simp
        have e2 : (ys.map Value.ref).toArray[j] = Value.ref ys[j] := by simp
        rw [e1, e2, eqP_congr (show some t = some w ↔ t = w from ⟨Option.some.inj, congrArg some⟩)]
        exact hm)
      have es : ∀ zs : List Addr, (zs.map Value.ref).toArray.size = zs.length := fun zs => by simp
      rw [es, es, l1, l2, all_eq, eqP_congr (show d.list = e.list ↔ d = e from ⟨Trs.list_inj, congrArg Trs.list⟩)] at hh
      exact EqW.of_refs ee hh
  -- children
  have whole : RcW X.prog X.w X.A J (.ref cl) (.ref cl2) (eqP (ds = ds2)) := by
    have l1 := DgsAt.len ds das hd
    have l2 := DgsAt.len ds2 das2 hd2
    rw [Dgs.len_list] at l1 l2
    have hh := RcW.tuples (P := X.prog) (w := X.w) (A := X.A) (J := J) (e := fun j => eqP (ds.list[j]? = ds2.list[j]?)) (tupJ hc) (tupJ hc2) hr.units0 (fun j a1 a2 => by
      have b1 : j < das.length := by simpa using a1
      have b2 : j < das2.length := by simpa using a2
      obtain ⟨d, xs, ed, h1, t1⟩ := DgsAt.get hd (List.getElem?_eq_getElem b1)
      obtain ⟨e, ys, ee, h2, t2⟩ := DgsAt.get hd2 (List.getElem?_eq_getElem b2)
      have hm := dig (A := X.A.in1) (i := j) hr.in1 rfl h1 h2 t1 t2 (hg j d ed) (hg2 j e ee)
      have e1 : (das.map Value.ref).toArray[j] = Value.ref das[j] := by simp
      have e2 : (das2.map Value.ref).toArray[j] = Value.ref das2[j] := by simp
      rw [e1, e2, ed, ee, eqP_congr (show some d = some e ↔ d = e from ⟨Option.some.inj, congrArg some⟩)]
      exact hm)
    have es : ∀ zs : List Addr, (zs.map Value.ref).toArray.size = zs.length := fun zs => by simp
    rw [es, es, l1, l2, all_eq, eqP_congr (show ds.list = ds2.list ↔ ds = ds2 from ⟨Dgs.list_inj, congrArg Dgs.list⟩)] at hh
    exact hh
  exact whole s _ _ J0 fun s' ⟨H', sm, I'⟩ => ⟨.bl (eqP (ds = ds2)), H', I', rfl, q H' sm⟩
end
end Kl

set_option maxRecDepth 100000
set_option maxHeartbeats 4000000
namespace Kl
open PySem PySem.Spec PyProof.Rows L2 Gx Mx
theorem fnOk_or {P : Program} {w : World} {K : PySem.W.Frag} {mg : Str → Option Value} {base : Heap} {CX : CXT} {k : Nat} {f : Addr} {fd : FuncData} {ps : List Str} {sp sp' : Sp} (F : FnOk P w K mg base CX k f fd ps sp) (F' : FnOk P w K mg base CX k f fd ps sp') :
    FnOk P w K mg base CX k f fd ps (fun vs H Q E => sp vs H Q E ∨ sp' vs H Q E) := by
  refine ⟨fun vs H Q E h => h.elim (F.len _ _ _ _) (F'.len _ _ _ _), fun A outer s H args us vs Q E hr he hb hv hs => ?_⟩
  rcases hs with h | h
  · exact F.run A outer s H args us vs Q E hr he hb hv h
  · exact F'.run A outer s H args us vs Q E hr he hb hv h
theorem grown_kidsG {leaf : Str} {M : Mak} (v : Vld leaf M) {r : Nat} {z : Str} {t : Tr} (h : Grown leaf M r z t) : KidsG leaf M r t.kids := fun i d e u hu => by
  refine ⟨?_, grown_kids v h i d e u hu⟩
  have h1 := (List.getElem?_eq_some_iff.mp e).1
  have h2 : t.kids.len = r := (grown_facts v h).rank
  rw [Dgs.len_list] at h2
  omega
theorem treeAt_ins {K : PySem.W.Frag} {C kx : Addr} {G : Hp} {t : Tr} {x : Addr} (h : TreeAt K C kx G t x) : ∃ dx wl cl das n, G x = some (.ins C dx (tf kx t.key wl cl n)) ∧ SqT K G wl (t.way.map V.str) ∧ SqT K G cl (das.map V.ref) ∧ DgsAt K C kx G t.kids das := by
  cases t with
  | mk way key ds =>
    unfold TreeAt at h
    obtain ⟨dx, wl, cl, das, h1, h2, h3, h4⟩ := h
    exact ⟨dx, wl, cl, das, _, h1, h2, h3, h4⟩
section
variable {P : Program} {w : World} {K : PySem.W.Frag} {mg : Str → Option Value} {base : Heap}
/-! ### Tree.__eq__ -/
theorem ok_teq {C Ck : Addr} : ∀ (n : Nat) {f : Addr} {fd : FuncData} (F : Fun K "__eq__" "Tree.__eq__" s_Tree_eq f fd) (T : Top K mg) (TC : Cl_Tree K mg C) (TK : Cl_Kinds K mg Ck), FnOk P w K mg base CX0 (3 * n + 9) f fd ["self", "other"] (spTEq K C Ck n)
  | 0, f, fd, F, T, TC, TK => by
    refine F.ok sc_Tree_eq (fun vs H Q E h => ?_) (fun cdv A outer s H vs Q E hr h => ?_)
    · obtain ⟨x, y, kx, md, t, u, leaf, z, z', M, ns, r, rfl, _⟩ := h
      rfl
    · obtain ⟨x, y, kx, md, t, u, leaf, z, z', M, ns, r, rfl, _, _, _, _, _, _, hn, _⟩ := h
      exact absurd hn (Nat.not_lt_zero _)
  | n + 1, f, fd, F, T, TC, TK => by
    have kEq : CalM P w K mg base Ck "__eq__" 3 ["self", "other"] (spKEq K Ck) := (TK.m_eq.cal fun f fd F => ok_keq F T TK).mono (by decide)
    have kKnd : CalP P w K mg base C "kind" 2 (spTKind K C) := (TC.p_kind.cal fun f fd F => ok_tkind F TC).mono (by decide)
    have cT : CalM P w K mg base C "__eq__" (3 * n + 9) ["self", "other"] (spTEq K C Ck n) := TC.m_eq.cal fun f fd F => ok_teq n F T TC TK
    refine F.ok sc_Tree_eq (fun vs H Q E h => ?_) (fun cdv A outer s H vs Q E hr h => ?_)
    · obtain ⟨x, y, kx, md, t, u, leaf, z, z', M, ns, r, rfl, _⟩ := h
      rfl
    · obtain ⟨x, y, kx, md, t, u, leaf, z, z', M, ns, r, rfl, ht, hu, hK, hV, g1, g2, hn, q⟩ := h
      refine ⟨_, pss_cons (ps_if (PW.pt (pw_or (pt_not (pt_val (pe_callB call_isi (by rfl) T.b_isinstance (by decide +kernel) (pa_cons (pv 1) (pa_cons (pe_glob (v := .ref C) (by rfl) TC.gC rfl) pa_nil)))))
            (pw_or1 (pt_cmpR (op_neM kEq TK.ne TK.ob (show Room 4 _ from hr.mono (by omega))) (pe_fld (pv 0) rfl) (pe_fld (pv 1) rfl) (by rfl))))) (pss_one (ps_ret pe_bl)) pss_nil)
        (pss_one (ps_ret (pe_and (pe_cmpR op_eq (pe_fld (pv 0) rfl) (pe_fld (pv 1) rfl) (by rfl)) (pe_and (pe_cmpR op_eq (pe_propC (pv 0) TC.cl kKnd (show Room 3 _ from hr.mono (by omega)) rfl) (pe_propC (pv 1) TC.cl kKnd (show Room 3 _ from hr.mono (by omega)) rfl) (by rfl))
            (pe_one (pe_cmpR (op_eqT cT hr) (pe_fld (pv 0) rfl) (pe_fld (pv 1) rfl) (by rfl))))))), ?_⟩
      obtain ⟨dx, wl, cl, das, m, hx, hw, hc, hds⟩ := treeAt_ins ht
      obtain ⟨dy, wl2, cl2, das2, m2, hy, hw2, hc2, hds2⟩ := treeAt_ins hu
      obtain ⟨dk, nt, kvs, hkx, _⟩ := id hK
      have f1 := grown_facts hV g1
      have f2 := grown_facts hV g2
      refine ⟨_, rfl, _, _, .ref C, .ref C, true, rfl, .own C, .base (.ins hy TC.cl TC.ca TC.cg TC.ct TC.ob), TC.kit, true, rfl, ?_⟩
      show (if (!true) = true then _ else _)
      rw [if_neg (by decide)]
      refine ⟨_, rfl, x, C, dx, _, _, rfl, hx, TC.cl, TC.n_kinds, tf_kinds _ _ _ _ _, _, rfl, y, C, dy, _, _, rfl, hy, TC.cl, TC.n_kinds, tf_kinds _ _ _ _ _, kx, dk, _, _, rfl, hkx, .ins hkx, kx, md, leaf, M, ns, .ref kx, rfl, hK, hV, .inl ⟨kx, md, leaf, M, ns, rfl, hK, hV, _, rfl, ?_⟩⟩
      rw [eqB_self hV.nd, decide_eq_true rfl]
      refine ⟨_, rfl, ?_⟩
      show (if (!true) = true then _ else _)
      rw [if_neg (by decide)]
      refine ⟨_, rfl, x, C, dx, _, _, rfl, hx, TC.cl, TC.n_key, tf_key _ _ _ _ _, _, rfl, y, C, dy, _, _, rfl, hy, TC.cl, TC.n_key, tf_key _ _ _ _ _, rfl, _, rfl, ?_⟩
      have eqq := grown_eq hV g1 g2
      have q0 := q H (Same.refl H)
      by_cases e1 : t.key = u.key
      · rw [decide_eq_true (show V.int t.key = V.int u.key by rw [e1]), if_pos rfl]
        refine ⟨_, rfl, x, dx, _, rfl, hx, x, kx, t, rfl, ht, f1.ne, _, rfl, y, dy, _, rfl, hy, y, kx, u, rfl, hu, f2.ne, rfl, _, rfl, ?_⟩
        by_cases e2 : t.kind = u.kind
        · rw [decide_eq_true (show V.str t.kind = V.str u.kind by rw [e2]), if_pos rfl]
          refine ⟨_, rfl, x, C, dx, _, _, rfl, hx, TC.cl, TC.n_children, tf_children _ _ _ _ _, _, rfl, y, C, dy, _, _, rfl, hy, TC.cl, TC.n_children, tf_children _ _ _ _ _, ?_⟩
          refine ⟨cl, cl2, kx, md, das, das2, t.kids, u.kids, leaf, M, ns, rfl, rfl, hc, hc2, hds, hds2, hK, hV, ?_, ?_, fun H' s1 => ?_⟩
          · intro i d e v hv
            have h1 := grown_kidsG hV g1 i d e v hv
            exact ⟨by omega, h1.2⟩
          · intro i d e v hv
            have h1 := grown_kidsG hV g2 i d e v hv
            exact ⟨by omega, h1.2⟩
          · rw [eqP_congr (show t.kids = u.kids ↔ t = u from ⟨fun h => eqq.mpr ⟨e1, e2, h⟩, fun h => (eqq.mp h).2.2⟩)]
            exact q H' s1
        · rw [decide_eq_false (fun h : V.str t.kind = V.str u.kind => e2 (V.str.inj h)), if_neg (by decide)]
          rw [eqP_f (fun h => e2 (eqq.mp h).2.1)] at q0
          exact q0
      · rw [decide_eq_false (fun h : V.int t.key = V.int u.key => e1 (V.int.inj h)), if_neg (by decide)]
        rw [eqP_f (fun h => e1 (eqq.mp h).1)] at q0
        exact q0
end
end Kl

set_option maxRecDepth 100000
set_option maxHeartbeats 4000000
/-! a list comprehension of three clauses -/
namespace Gx
open PySem PySem.Spec PyProof.Rows L2
abbrev cp3 (elt : Expr) (a b c : Expr × Expr × List Expr) (scope : Scope) (pos : Pos) : Expr := .ListComp elt [⟨a.1, a.2.1, a.2.2, 0⟩, ⟨b.1, b.2.1, b.2.2, 0⟩, ⟨c.1, c.2.1, c.2.2, 0⟩] scope pos
section
variable (elt : Expr) (a b c : Expr × Expr × List Expr) (scope : Scope) (pos : Pos) (it acc : Value) (env : Env)
/-- a clause's tests -/
abbrev testsOf (fs : List Expr) (env : Env) : Sem Bool := forIn fs true fun q r => if r = true then do let ok ← isTrue q env (eval q env); pure (ForInStep.yield ok) else pure (ForInStep.yield r)
/-- a turn of a clause whose work is y -/
abbrev turnOf (t : Expr) (fs : List Expr) (at_ : Pos) (y : Sem Unit) (again_ : Code) (it : Value) (env : Env) : Sem PySem.Fin := do
  standAt at_
  match ← pyNext it with
  | none => pure (.done .next)
  | some v =>
    letOwnedTupleGo t it v
    assign t env v
    let mut ok := true
    for q in fs do
      if ok then ok ← isTrue q env (eval q env)
    if ok then
      y
    again again_
/-- a clause's own loop is begun within another's turn -/
abbrev innerOf (i : Expr) (k : Nat) (cp : Expr) (acc : Value) (env : Env) : Sem Unit := do
  let x ← eval i env
  standAt i.pos
  let x ← foldedSetIterable i env x
  let _ ← runOwn (.compStart cp k (← holding [x] (pyIter x)) acc env) env
theorem turn3_0 : compTurn (cp3 elt a b c scope pos) 0 it acc env = (do
      standAt a.2.1.pos
      match ← pyNext it with
      | none => pure (.done .next)
      | some v =>
        letOwnedTupleGo a.1 it v
        assign a.1 env v
        let mut ok := true
        for q in a.2.2 do
          if ok then ok ← isTrue q env (eval q env)
        if ok then
          let x ← eval b.2.1 env
          standAt b.2.1.pos
          let x ← foldedSetIterable b.2.1 env x
          let _ ← runOwn (.compStart (cp3 elt a b c scope pos) 1 (← holding [x] (pyIter x)) acc env) env
        again (.compLoop (cp3 elt a b c scope pos) 0 it acc env)) := by rfl
theorem turn3_1 : compTurn (cp3 elt a b c scope pos) 1 it acc env = (do
      standAt b.2.1.pos
      match ← pyNext it with
      | none => pure (.done .next)
      | some v =>
        letOwnedTupleGo b.1 it v
        assign b.1 env v
        let mut ok := true
        for q in b.2.2 do
          if ok then ok ← isTrue q env (eval q env)
        if ok then
          let x ← eval c.2.1 env
          standAt c.2.1.pos
          let x ← foldedSetIterable c.2.1 env x
          let _ ← runOwn (.compStart (cp3 elt a b c scope pos) 2 (← holding [x] (pyIter x)) acc env) env
        again (.compLoop (cp3 elt a b c scope pos) 1 it acc env)) := by rfl
theorem turn3_2 : compTurn (cp3 elt a b c scope pos) 2 it acc env = (do
      standAt c.2.1.pos
      match ← pyNext it with
      | none => pure (.done .next)
      | some v =>
        letOwnedTupleGo c.1 it v
        assign c.1 env v
        let mut ok := true
        for q in c.2.2 do
          if ok then ok ← isTrue q env (eval q env)
        if ok then
          (do let _ ← call (.builtin "list.append") [acc, ← eval elt env])
        again (.compLoop (cp3 elt a b c scope pos) 2 it acc env)) := by rfl
end
/-- what a turn of a clause comes to: yes behind its tests, no where one fails -/
def TurnW (P : Program) (w : World) (A : Around) (R : Result → Shared → Prop) (env : Env) (t : Expr) (fs : List Expr) (it : Value) (yes no : Shared → Prop) (s : Shared) : Prop :=
  wpAny (model P w) A (pyNext it) (fun r s1 => match r with
    | none => R (.ok .next) s1
    | some v => wpAny (model P w) A (letOwnedTupleGo t it v) (fun _ s2 => wpAny (model P w) A (assign t env v) (fun _ s3 => wpAny (model P w) A (testsOf fs env) (fun ok s4 => if ok = true then yes s4 else no s4) (fun _ _ => False) s3) (fun _ _ => False) s2) (fun _ _ => False) s1) (fun _ _ => False) s
/-- the work of a clause in which another one's loop runs -/
def InnW (P : Program) (w : World) (A : Around) (env : Env) (i : Expr) (k : Nat) (cp : Expr) (acc : Value) (Q : Shared → Prop) (s : Shared) : Prop :=
  wpAny (model P w) A (eval i env) (fun x s1 => wpAny (model P w) A (pyIter x) (fun u s2 => codeAny (model P w) A (.compStart cp k u acc env) (fun r s' => match r with
    | .ok _ => Q s'
    | .error _ => False) s2) (fun _ _ => False) s1) (fun _ _ => False) s
/-- the work of the last clause -/
def AppW (P : Program) (w : World) (A : Around) (env : Env) (elt : Expr) (acc : Value) (Q : Shared → Prop) (s : Shared) : Prop :=
  wpAny (model P w) A (eval elt env) (fun x s1 => wpAny (model P w) A (call (.builtin "list.append") [acc, x]) (fun _ s2 => Q s2) (fun _ _ => False) s1) (fun _ _ => False) s
section
variable {P : Program} {w : World} {A : Around} {R : Result → Shared → Prop} {s : Shared} {elt : Expr} {a b c : Expr × Expr × List Expr} {scope : Scope} {pos : Pos} {it acc : Value} {env : Env}
theorem noF {α : Type} {t : Sem α} {Q : α → Shared → Prop} {M : Model} {A : Around} {E : Value → Shared → Prop} {s : Shared} (h : wpAny M A t Q (fun _ _ => False) s) : wpAny M A t Q E s := wpAny_mono h (fun _ _ x => x) fun _ _ z => z.elim
theorem loop3_0 (hs : ∀ x, foldedSetIterable b.2.1 env x = pure x) (I : Nat → Shared → Prop)
    (hI : ∀ n s, I n s → TurnW P w A R env a.1 a.2.2 it (InnW P w A env b.2.1 1 (cp3 elt a b c scope pos) acc fun s' => ∃ m, m < n ∧ I m s') (fun s' => ∃ m, m < n ∧ I m s') s) (n : Nat) (h0 : I n s) :
    codeAny (model P w) A (.compLoop (cp3 elt a b c scope pos) 0 it acc env) R s := by
  refine codeAny_loop rfl I (fun n s hn => ?_) n h0
  have ht := hI n s hn
  show wpAny _ A ((compTurn (cp3 elt a b c scope pos) 0 it acc env).onRaise (fun x => do noteFrame x env; theTreesLotGoes x)) _ _ s
  refine wpAny_noted ?_
  rw [turn3_0]
  refine wpAny_bind (wpAny_standAt (wpAny_bind (noF (thnF ht fun r s1 h1 => ?_))))
  cases r with
  | none => exact wpAny_pure h1
  | some v =>
    refine wpAny_bind (noF (thnF h1 fun _ s2 h2 => wpAny_bind (noF (thnF h2 fun _ s3 h3 => wpAny_bind (noF (thnF h3 fun ok s4 h4 => ?_))))))
    cases ok with
    | false => exact wpAny_pure ⟨rfl, h4⟩
    | true =>
      have h4 : InnW P w A env b.2.1 1 (cp3 elt a b c scope pos) acc (fun s' => ∃ m, m < n ∧ I m s') s4 := h4
      refine wpAny_bind (noF (thnF h4 fun x s5 h5 => ?_))
      refine wpAny_bind (wpAny_standAt (wpAny_bind (wpAny_of_eq (hs x) (wpAny_bind (wpAny_holding (noF (thnF h5 fun u s6 h6 => ?_)))))))
      refine wpAny_bind (wpAny_runOwn ?_)
      rw [Around.mark_none]
      refine codeAny_mono h6 fun r s' hr => ?_
      cases r with
      | ok f =>
        first
          | exact wpAny_pure ⟨rfl, hr⟩
          | exact wpAny_bind (wpAny_pure (wpAny_pure ⟨rfl, hr⟩))
      | error e => exact hr.elim
theorem loop3_1 (hs : ∀ x, foldedSetIterable c.2.1 env x = pure x) (I : Nat → Shared → Prop)
    (hI : ∀ n s, I n s → TurnW P w A R env b.1 b.2.2 it (InnW P w A env c.2.1 2 (cp3 elt a b c scope pos) acc fun s' => ∃ m, m < n ∧ I m s') (fun s' => ∃ m, m < n ∧ I m s') s) (n : Nat) (h0 : I n s) :
    codeAny (model P w) A (.compLoop (cp3 elt a b c scope pos) 1 it acc env) R s := by
  refine codeAny_loop rfl I (fun n s hn => ?_) n h0
  have ht := hI n s hn
  show wpAny _ A ((compTurn (cp3 elt a b c scope pos) 1 it acc env).onRaise (fun x => do noteFrame x env; theTreesLotGoes x)) _ _ s
  refine wpAny_noted ?_
  rw [turn3_1]
  refine wpAny_bind (wpAny_standAt (wpAny_bind (noF (thnF ht fun r s1 h1 => ?_))))
  cases r with
  | none => exact wpAny_pure h1
  | some v =>
    refine wpAny_bind (noF (thnF h1 fun _ s2 h2 => wpAny_bind (noF (thnF h2 fun _ s3 h3 => wpAny_bind (noF (thnF h3 fun ok s4 h4 => ?_))))))
    cases ok with
    | false => exact wpAny_pure ⟨rfl, h4⟩
    | true =>
      have h4 : InnW P w A env c.2.1 2 (cp3 elt a b c scope pos) acc (fun s' => ∃ m, m < n ∧ I m s') s4 := h4
      refine wpAny_bind (noF (thnF h4 fun x s5 h5 => ?_))
      refine wpAny_bind (wpAny_standAt (wpAny_bind (wpAny_of_eq (hs x) (wpAny_bind (wpAny_holding (noF (thnF h5 fun u s6 h6 => ?_)))))))
      refine wpAny_bind (wpAny_runOwn ?_)
      rw [Around.mark_none]
      refine codeAny_mono h6 fun r s' hr => ?_
      cases r with
      | ok f =>
        first
          | exact wpAny_pure ⟨rfl, hr⟩
          | exact wpAny_bind (wpAny_pure (wpAny_pure ⟨rfl, hr⟩))
      | error e => exact hr.elim
theorem loop3_2 (I : Nat → Shared → Prop)
    (hI : ∀ n s, I n s → TurnW P w A R env c.1 c.2.2 it (AppW P w A env elt acc fun s' => ∃ m, m < n ∧ I m s') (fun s' => ∃ m, m < n ∧ I m s') s) (n : Nat) (h0 : I n s) :
    codeAny (model P w) A (.compLoop (cp3 elt a b c scope pos) 2 it acc env) R s := by
  refine codeAny_loop rfl I (fun n s hn => ?_) n h0
  have ht := hI n s hn
  show wpAny _ A ((compTurn (cp3 elt a b c scope pos) 2 it acc env).onRaise (fun x => do noteFrame x env; theTreesLotGoes x)) _ _ s
  refine wpAny_noted ?_
  rw [turn3_2]
  refine wpAny_bind (wpAny_standAt (wpAny_bind (noF (thnF ht fun r s1 h1 => ?_))))
  cases r with
  | none => exact wpAny_pure h1
  | some v =>
    refine wpAny_bind (noF (thnF h1 fun _ s2 h2 => wpAny_bind (noF (thnF h2 fun _ s3 h3 => wpAny_bind (noF (thnF h3 fun ok s4 h4 => ?_))))))
    cases ok with
    | false => exact wpAny_pure ⟨rfl, h4⟩
    | true =>
      have h4 : AppW P w A env elt acc (fun s' => ∃ m, m < n ∧ I m s') s4 := h4
      exact wpAny_bind (wpAny_bind (noF (thnF h4 fun x s5 h5 => wpAny_bind (noF (thnF h5 fun _ s6 h6 => wpAny_pure (wpAny_pure ⟨rfl, h6⟩))))))
theorem start3_1 (h0 : codeAny (model P w) A (.compLoop (cp3 elt a b c scope pos) 1 it acc env) R s) (h : wpAny (model P w) A (pyIter it) (fun u s' => codeAny (model P w) A (.compLoop (cp3 elt a b c scope pos) 1 u acc env) R s') (fun _ _ => False) s) :
    codeAny (model P w) A (.compStart (cp3 elt a b c scope pos) 1 it acc env) R s := by
  refine codeAny_of_tree ?_
  show wpAny _ _ ((compStart (cp3 elt a b c scope pos) 1 it acc env).onRaise (fun x => do noteFrame x env; standAt theWindowsPlace)) _ _ s
  refine wpAny_notedAt ?_
  unfold compStart
  show wpAny _ _ (ask >>= _) _ _ s
  refine wpAny_bind (wpAny_askSetting (wpAny_ite ?_))
  split
  · first
      | exact wpAny_bind (wpAny_pure (wpAny_pure (And.intro rfl h0)))
      | exact wpAny_pure (And.intro rfl h0)
  · first
      | exact wpAny_bind (wpAny_rule (wpAny_bind (wpAny_standAt (wpAny_bind (noF (thnF h fun u s' h' => wpAny_pure (And.intro rfl h')))))))
      | (refine wpAny_bind (wpAny_rule ?_); show wpAny _ _ (standAt b.2.1.pos >>= _) _ _ s; exact wpAny_bind (wpAny_standAt (wpAny_bind (noF (thnF h fun u s' h' => wpAny_pure (And.intro rfl h'))))))
theorem start3_2 (h0 : codeAny (model P w) A (.compLoop (cp3 elt a b c scope pos) 2 it acc env) R s) (h : wpAny (model P w) A (pyIter it) (fun u s' => codeAny (model P w) A (.compLoop (cp3 elt a b c scope pos) 2 u acc env) R s') (fun _ _ => False) s) :
    codeAny (model P w) A (.compStart (cp3 elt a b c scope pos) 2 it acc env) R s := by
  refine codeAny_of_tree ?_
  show wpAny _ _ ((compStart (cp3 elt a b c scope pos) 2 it acc env).onRaise (fun x => do noteFrame x env; standAt theWindowsPlace)) _ _ s
  refine wpAny_notedAt ?_
  unfold compStart
  show wpAny _ _ (ask >>= _) _ _ s
  refine wpAny_bind (wpAny_askSetting (wpAny_ite ?_))
  split
  · first
      | exact wpAny_bind (wpAny_pure (wpAny_pure (And.intro rfl h0)))
      | exact wpAny_pure (And.intro rfl h0)
  · first
      | exact wpAny_bind (wpAny_rule (wpAny_bind (wpAny_standAt (wpAny_bind (noF (thnF h fun u s' h' => wpAny_pure (And.intro rfl h')))))))
      | (refine wpAny_bind (wpAny_rule ?_); show wpAny _ _ (standAt c.2.1.pos >>= _) _ _ s; exact wpAny_bind (wpAny_standAt (wpAny_bind (noF (thnF h fun u s' h' => wpAny_pure (And.intro rfl h'))))))
end
/-! ### the reading -/
/-- a clause's loop: behind each store and the tests its work bd, at the end N -/
def tClause (wi : TI) (g : TG) (tt : TT) (bd : L2.St → Hp → (Hp → Prop) → Prop) (vs : List Nat) (σ : L2.St) (H : Hp) (N : Hp → Prop) : Prop := wi σ H fun J H1 => ∃ W : Nat → Nat → Hp → Prop, (∃ m, W 0 m H1) ∧ ∀ i m H2, W i m H2 →
  (J.stop i H2 ∧ N H2) ∨ (J.go i H2 ∧ ∃ N1 : Hp → Prop, (∀ H', N1 H' → ∃ m', m' < m ∧ W (i + 1) m' H') ∧ ∀ x H', J.yld i H2 x H' → g x (wipe σ vs) H' fun σ3 H3 => wipe σ3 vs = wipe σ vs ∧ tt σ3 H3 fun ok H4 => if ok = true then bd σ3 H4 N1 else N1 H4)
def tPush (D : Addr) (te : TE) (σ : L2.St) (H : Hp) (N : Hp → Prop) : Prop := te σ H fun y H1 => ∃ ys, H1 D = some (.lst ys) ∧ ys.length < sizeLine ∧ N (upd H1 D (.lst (ys ++ [y])))
section
variable {Y : Cx}
/-- the work W of a clause does what bd says -/
def Works (Y : Cx) (W : (Shared → Prop) → Shared → Prop) (bd : L2.St → Hp → (Hp → Prop) → Prop) (va : List Nat) : Prop :=
  ∀ (pl : List (Addr × Obj)) (σ : L2.St) (H : Hp) (s : Shared) (N : Hp → Prop) (Q : Shared → Prop), Inv Y pl σ H s → bd σ H N → (∀ σ' H' s', Inv Y pl σ' H' s' → σ'.length = σ.length → (∀ (i : Nat) v, (wipe σ va)[i]? = some (some v) → σ'[i]? = some (some v)) → N H' → Q s') → W Q s
theorem works_push {elt : Expr} {D : Addr} {te : TE} (hp : PE Y elt te) (nx : ∀ e s, Y.xe e s → False) : Works Y (AppW Y.prog Y.w Y.A Y.env elt (.ref D)) (tPush D te) [] := fun pl σ H s N Q I h k => by
  unfold AppW
  refine wpAny_mono (hp.run pl s σ H _ I h) (fun z s1 hz => ?_) nx
  obtain ⟨y, H1, I1, r1, ys, e1, l1, n1⟩ := hz
  exact app_ok (X := Y) I1 e1 l1 r1 fun s2 I2 => k _ _ _ I2 rfl (fun _ _ e => e) n1
/-- a clause within another one -/
theorem works_clause {t i : Expr} {fs : List Expr} {cp : Expr} {k : Nat} {D : Addr} {W : (Shared → Prop) → Shared → Prop} {bd : L2.St → Hp → (Hp → Prop) → Prop} {wi : TI} {g : TG} {tt : TT} {vs vw : List Nat} (hsub : ∀ q ∈ vw, q ∈ vs) (hc : Y.calm = true) (nx : ∀ e s, Y.xe e s → False)
    (hloop : ∀ (it : Value) (R : Result → Shared → Prop) (s : Shared) (I : Nat → Shared → Prop), (∀ n s, I n s → TurnW Y.prog Y.w Y.A R Y.env t fs it (W fun s' => ∃ m, m < n ∧ I m s') (fun s' => ∃ m, m < n ∧ I m s') s) → ∀ n, I n s → codeAny (model Y.prog Y.w) Y.A (.compLoop cp k it (.ref D) Y.env) R s)
    (hstart : ∀ (it : Value) (R : Result → Shared → Prop) (s : Shared), codeAny (model Y.prog Y.w) Y.A (.compLoop cp k it (.ref D) Y.env) R s → wpAny (model Y.prog Y.w) Y.A (pyIter it) (fun u s' => codeAny (model Y.prog Y.w) Y.A (.compLoop cp k u (.ref D) Y.env) R s') (fun _ _ => False) s → codeAny (model Y.prog Y.w) Y.A (.compStart cp k it (.ref D) Y.env) R s)
    (hi : PI Y t i wi) (hg : PG Y t g) (ht : PTs Y fs tt) (hW : Works Y W bd vw) : Works Y (InnW Y.prog Y.w Y.A Y.env i k cp (.ref D)) (tClause wi g tt bd vs) vs := fun pl σ H s N Q I h kk => by
  unfold InnW
  refine wpAny_mono (hi.run pl s σ H _ I h) (fun xv s1 h1 => wpAny_mono h1 (fun itv s2 h2 => ?_) nx) nx
  obtain ⟨it, fp, tn, J, H2, rfl, I2, T, st2, f2, W1, ⟨m2, w2⟩, turn⟩ := h2
  have okfp : ∀ {H' : Hp}, (∀ q ∈ fp, H' q = none) → ∀ q ∈ fp, FpOk Y pl H' q := fun hn q hq => ⟨hn q hq, (f2 q hq).2⟩
  have lp : codeAny (model Y.prog Y.w) Y.A (.compLoop cp k (.ref it) (.ref D) Y.env) (fun r s' => match r with
      | .ok _ => Q s'
      | .error _ => False) s2 := by
    refine hloop (.ref it) _ s2 (fun n s' => ∃ j H', Inv Y pl (wipe σ vs) H' s' ∧ tn j s'.heap ∧ (∀ q ∈ fp, H' q = none) ∧ W1 j n H') ?_ m2 ⟨0, H2, I2.weak (wipe_length _ _) (fun j v e => (wipe_some e).1), st2, fun q hq => (f2 q hq).1, w2⟩
    rintro n s3 ⟨j, H3, I3, st3, n3, w3⟩
    unfold TurnW
    rcases turn j n H3 w3 with ⟨stp, hN⟩ | ⟨go, N1, hN1, stepf⟩
    · refine thnF (T.done Y rfl rfl rfl hc j pl s3 (wipe σ vs) H3 (fun _ _ => False) I3 (okfp n3) st3 stp) fun r s4 ⟨hr, I4⟩ => ?_
      subst hr
      exact kk _ _ _ I4 (wipe_length _ _) (fun _ _ e => e) hN
    · refine thnF (T.item Y rfl rfl rfl hc j pl s3 (wipe σ vs) H3 (fun _ _ => False) I3 (okfp n3) st3 go) fun r s4 ⟨u, hr, h4⟩ => ?_
      subst hr
      refine thnF h4 fun _ s5 ⟨x, H5, I5, r5, y5, st5, n5⟩ => ?_
      have I5p := I5.pinned (okfp n5) (T.obj _ _ st5)
      refine wpAny_mono (hg.run _ s5 (wipe σ vs) H5 x u _ I5p r5 (stepf x H5 y5)) (fun _ s6 ⟨σ6, H6, I6, hw6, q6⟩ => ?_) nx
      refine wpAny_mono (ht.run _ s6 σ6 H6 _ I6 q6) (fun ok s7 ⟨H7, I7, q7⟩ => ?_) nx
      have l6 : (wipe σ vs).length = σ6.length := by rw [← hw6, wipe_length]
      have back : ∀ {σ' : L2.St} {H' : Hp} {s' : Shared}, Inv Y (pl ++ pinsAt fp s5.heap) σ' H' s' → σ'.length = σ6.length → (∀ (i : Nat) v, (wipe σ6 vw)[i]? = some (some v) → σ'[i]? = some (some v)) → N1 H' → ∃ m, m < n ∧ ∃ j H', Inv Y pl (wipe σ vs) H' s' ∧ tn j s'.heap ∧ (∀ q ∈ fp, H' q = none) ∧ W1 j m H' := fun {σ' H' s'} I' hl hk hn => by
        obtain ⟨m', hm, w'⟩ := hN1 H' hn
        have pin' : ∀ q ∈ fp, ∀ o, s5.heap.get? q = some o → s'.heap.get? q = some o ∧ H' q = none := fun q hq o e =>
          let z := I'.pin (q, o) (List.mem_append_right _ (List.mem_append_right _ (mem_pinsAt hq e)))
          ⟨z.1, z.2.1⟩
        refine ⟨m', hm, j + 1, H', I'.unpinned.weak (l6.trans hl.symm) (fun i v e => ?_), T.keep _ _ _ st5 fun q hq o e => (pin' q hq o e).1, fun q hq => ?_, w'⟩
        · rw [← hw6] at e
          obtain ⟨e1, e2⟩ := wipe_some e
          refine hk i v ?_
          rw [wipe_out fun z => e2 (hsub i z)]
          exact e1
        · obtain ⟨o, e, _⟩ := T.obj _ _ st5 q hq
          exact (pin' q hq o e).2
      cases ok with
      | false => exact back I7 rfl (fun i v e => (wipe_some e).1) q7
      | true => exact hW _ σ6 H7 s7 N1 _ I7 q7 fun σ' H' s' I' hl hk hn => back I' hl hk hn
  exact hstart _ _ _ lp (T.self Y.A 0 _ _ _ st2 lp)
end
/-- [elt for .. in .. for .. in .. for .. in ..] -/
def tLc3 (wi : TI) (g : TG) (tt : TT) (wi1 : TI) (g1 : TG) (tt1 : TT) (wi2 : TI) (g2 : TG) (tt2 : TT) (te : TE) (vs vs1 vs2 : List Nat) : TE := fun σ H Q => wi σ H fun J H1 => ∀ D, H1 D = none → ∃ W : Nat → Nat → Hp → Prop, (∃ m, W 0 m (upd H1 D (.lst []))) ∧ ∀ i m H2, W i m H2 →
  (J.stop i H2 ∧ Q (.ref D) H2) ∨ (J.go i H2 ∧ ∃ N1 : Hp → Prop, (∀ H', N1 H' → ∃ m', m' < m ∧ W (i + 1) m' H') ∧ ∀ x H', J.yld i H2 x H' → g x (wipe σ vs) H' fun σ3 H3 => wipe σ3 vs = wipe σ vs ∧ tt σ3 H3 fun ok H4 =>
    if ok = true then tClause wi1 g1 tt1 (tClause wi2 g2 tt2 (tPush D te) vs2) vs1 σ3 H4 N1 else N1 H4)
section
variable {X : Cx} {elt : Expr} {a b c : Expr × Expr × List Expr} {scope : Scope} {pos : Pos} {own : List (Str × Nat)} {vs1 vs2 : List Nat} {wi wi1 wi2 : TI} {g g1 g2 : TG} {tt tt1 tt2 : TT} {te : TE}
theorem lc3_core {pl : List (Addr × Obj)} {s : Shared} {σ : L2.St} {H : Hp} {Q : VK} {pos' : Pos} {use : Option (Value → Sem Unit)} {Qf : Value → Shared → Prop}
    (calm : X.calm = true) (nd : X.N.Nodup) (I : Inv X pl σ H s) (hi : PI X a.1 a.2.1 wi) (ok : BlkOk X.N X.env.scope scope own) (v1 : ∀ q ∈ vs1, q ∈ own.map (·.2)) (v2 : ∀ q ∈ vs2, q ∈ vs1)
    (hg : ∀ (r : Shared) (G : Hp) (L : Addr) (cl : List (Str × Addr)) (fp : List Addr), PG (X.blk r G scope (compEnvC scope cl L X.env) fp) a.1 g) (ht : ∀ (r : Shared) (G : Hp) (L : Addr) (cl : List (Str × Addr)) (fp : List Addr), PTs (X.blk r G scope (compEnvC scope cl L X.env) fp) a.2.2 tt)
    (hi1 : ∀ (r : Shared) (G : Hp) (L : Addr) (cl : List (Str × Addr)) (fp : List Addr), PI (X.blk r G scope (compEnvC scope cl L X.env) fp) b.1 b.2.1 wi1) (hg1 : ∀ (r : Shared) (G : Hp) (L : Addr) (cl : List (Str × Addr)) (fp : List Addr), PG (X.blk r G scope (compEnvC scope cl L X.env) fp) b.1 g1) (ht1 : ∀ (r : Shared) (G : Hp) (L : Addr) (cl : List (Str × Addr)) (fp : List Addr), PTs (X.blk r G scope (compEnvC scope cl L X.env) fp) b.2.2 tt1)
    (hi2 : ∀ (r : Shared) (G : Hp) (L : Addr) (cl : List (Str × Addr)) (fp : List Addr), PI (X.blk r G scope (compEnvC scope cl L X.env) fp) c.1 c.2.1 wi2) (hg2 : ∀ (r : Shared) (G : Hp) (L : Addr) (cl : List (Str × Addr)) (fp : List Addr), PG (X.blk r G scope (compEnvC scope cl L X.env) fp) c.1 g2) (ht2 : ∀ (r : Shared) (G : Hp) (L : Addr) (cl : List (Str × Addr)) (fp : List Addr), PTs (X.blk r G scope (compEnvC scope cl L X.env) fp) c.2.2 tt2)
    (he : ∀ (r : Shared) (G : Hp) (L : Addr) (cl : List (Str × Addr)) (fp : List Addr), PE (X.blk r G scope (compEnvC scope cl L X.env) fp) elt te)
    (hs : ∀ x, foldedSetIterable a.2.1 X.env x = pure x) (hs1 : ∀ en x, foldedSetIterable b.2.1 en x = pure x) (hs2 : ∀ en x, foldedSetIterable c.2.1 en x = pure x)
    (h : tLc3 wi g tt wi1 g1 tt1 wi2 g2 tt2 te (own.map (·.2)) vs1 vs2 σ H Q)
    (fin : ∀ D L s' m H', Inv X pl σ H' s' → Q (.ref D) H' → s'.heap.Ns L m → FpOk X pl H' L → compPost (model X.prog X.w) X.A X.xe use Qf (.ref D) L (.ok .next) s') :
    wpAny (model X.prog X.w) X.A (comprehension (cp3 elt a b c scope pos) scope X.env pos' (newList []) false (eval a.2.1 X.env) use) Qf X.xe s := by
  have fr : ∀ y ∈ scope.names, y.2 = .free → ∃ q, X.env.cells.lookup y.1 = some q := fun y hy e => (ok.free y hy e).elim (fun k => I.ok.has _ (.inl k)) fun k => I.ok.has _ (.inr k)
  refine wpAny_comprehension_free (use := use) rfl hs (closure_ok fr) ok.kind (fun y hy e => by rw [ok.uniq y hy, e]) (thn (hi.run pl s σ H _ I h) fun xv s1 hx => thn hx fun itv s2 h2 => ?_)
  obtain ⟨it, fp, tn, J, H2, e, I2, T, st2, f2, q⟩ := h2
  subst e
  refine wpAny_newObj_type (newEnv_comp ?_) (by show 0 ≤ sizeLine; decide)
  generalize hD : s2.heap.objs.size = D
  have nD : H2 D = none := I2.hok.fresh (Nat.le_of_eq hD)
  obtain ⟨W, ⟨m0, w0⟩, turn⟩ := q D nD
  -- the list that is filled
  generalize hs3 : ({ s2 with heap := s2.heap.push { cls := .type "list", data := .seq ([] : List Value).toArray } } : Shared) = s3
  have h3 : s3.heap = s2.heap.push { cls := .type "list", data := .seq ([] : List Value).toArray } := by rw [← hs3]
  have I3 : Inv X pl σ (upd H2 D (.lst [])) s3 := by
    rw [← hs3]
    refine I2.laid (t' := s2.toks) (fun y o e => Heap.get?_push_of_some _ e) (Nat.le_of_eq hD) ⟨Nat.zero_le _, [], 0, .nil, ?_⟩
    rw [← hD]
    exact Heap.get?_push_size _ rfl
  have f3 : ∀ y ∈ fp, FpOk X pl (upd H2 D (.lst [])) y ∧ y < s3.heap.objs.size := fun y hy => by
    obtain ⟨o, e, _⟩ := T.obj _ _ st2 y hy
    have lt := Heap.lt_size e
    refine ⟨⟨?_, (f2 y hy).2⟩, by rw [h3, Heap.size_push]; exact Nat.lt_succ_of_lt lt⟩
    rw [upd_ne (by rw [← hD]; exact Nat.ne_of_lt lt)]
    exact (f2 y hy).1
  have st3 : tn 0 s3.heap := T.keep _ _ _ st2 fun y _ o e => by rw [h3]; exact Heap.get?_push_of_some _ e
  have I4 := block_start I3 ok nd f3
  have PG0 := hg s3 (upd H2 D (.lst [])) s3.heap.objs.size (cellsFrom (s3.heap.objs.size + 1) scope.names (cloFrom X.env.cells scope.names [])) fp
  have PT0 := ht s3 (upd H2 D (.lst [])) s3.heap.objs.size (cellsFrom (s3.heap.objs.size + 1) scope.names (cloFrom X.env.cells scope.names [])) fp
  have PI1 := hi1 s3 (upd H2 D (.lst [])) s3.heap.objs.size (cellsFrom (s3.heap.objs.size + 1) scope.names (cloFrom X.env.cells scope.names [])) fp
  have PG1 := hg1 s3 (upd H2 D (.lst [])) s3.heap.objs.size (cellsFrom (s3.heap.objs.size + 1) scope.names (cloFrom X.env.cells scope.names [])) fp
  have PT1 := ht1 s3 (upd H2 D (.lst [])) s3.heap.objs.size (cellsFrom (s3.heap.objs.size + 1) scope.names (cloFrom X.env.cells scope.names [])) fp
  have PI2 := hi2 s3 (upd H2 D (.lst [])) s3.heap.objs.size (cellsFrom (s3.heap.objs.size + 1) scope.names (cloFrom X.env.cells scope.names [])) fp
  have PG2 := hg2 s3 (upd H2 D (.lst [])) s3.heap.objs.size (cellsFrom (s3.heap.objs.size + 1) scope.names (cloFrom X.env.cells scope.names [])) fp
  have PT2 := ht2 s3 (upd H2 D (.lst [])) s3.heap.objs.size (cellsFrom (s3.heap.objs.size + 1) scope.names (cloFrom X.env.cells scope.names [])) fp
  have PE2 := he s3 (upd H2 D (.lst [])) s3.heap.objs.size (cellsFrom (s3.heap.objs.size + 1) scope.names (cloFrom X.env.cells scope.names [])) fp
  show codeAny _ _ (.compStart (cp3 elt a b c scope pos) 0 (.ref it) (.ref D) (compEnvC scope (cellsFrom (s3.heap.objs.size + 1) scope.names (cloFrom X.env.cells scope.names [])) s3.heap.objs.size X.env)) (compPost (model X.prog X.w) X.A X.xe use Qf (.ref D) s3.heap.objs.size) { s3 with heap := pushCells (s3.heap.push { cls := .type "dict", data := .dict #[] }) scope.names }
  have nfp : ∀ y ∈ fp, (upd H2 D (.lst [])) y = none := fun y hy => (f3 y hy).1.1
  generalize hce : compEnvC scope (cellsFrom (s3.heap.objs.size + 1) scope.names (cloFrom X.env.cells scope.names [])) s3.heap.objs.size X.env = ce at I4 PG0 PT0 PI1 PG1 PT1 PI2 PG2 PT2 PE2 ⊢
  have cL : ce.locals = s3.heap.objs.size := by subst hce; rfl
  generalize hH3 : upd H2 D (.lst []) = H3 at I3 I4 PG0 PT0 PI1 PG1 PT1 PI2 PG2 PT2 PE2 w0 nfp f3
  generalize hs4 : ({ s3 with heap := pushCells (s3.heap.push { cls := .type "dict", data := .dict #[] }) scope.names } : Shared) = s4 at I4 ⊢
  have st4 : tn 0 s4.heap := T.keep _ _ _ st3 fun y _ o e => by rw [← hs4]; exact pushCells_keeps _ _ _ _ (Heap.get?_push_of_some _ e)
  -- the inner clauses
  have hW2 : Works (X.blk s3 H3 scope ce fp) (AppW X.prog X.w X.A ce elt (.ref D)) (tPush D te) [] := works_push (Y := X.blk s3 H3 scope ce fp) PE2 fun _ _ z => z
  have hW1 : Works (X.blk s3 H3 scope ce fp) (InnW X.prog X.w X.A ce c.2.1 2 (cp3 elt a b c scope pos) (.ref D)) (tClause wi2 g2 tt2 (tPush D te) vs2) vs2 :=
    works_clause (Y := X.blk s3 H3 scope ce fp) (fun _ z => absurd z List.not_mem_nil) calm (fun _ _ z => z) (fun u R s I hI n h0 => loop3_2 I hI n h0) (fun u R s h0 h1 => start3_2 h0 h1) PI2 PG2 PT2 hW2
  have hW0 : Works (X.blk s3 H3 scope ce fp) (InnW X.prog X.w X.A ce b.2.1 1 (cp3 elt a b c scope pos) (.ref D)) (tClause wi1 g1 tt1 (tClause wi2 g2 tt2 (tPush D te) vs2) vs1) vs1 :=
    works_clause (Y := X.blk s3 H3 scope ce fp) v2 calm (fun _ _ z => z) (fun u R s I hI n h0 => loop3_1 (hs2 ce) I hI n h0) (fun u R s h0 h1 => start3_1 h0 h1) PI1 PG1 PT1 hW1
  have okfp : ∀ {σ' : L2.St} {H' : Hp} {s' : Shared}, Inv (X.blk s3 H3 scope ce fp) [] σ' H' s' → (∀ y ∈ fp, H' y = none) → ∀ y ∈ fp, FpOk (X.blk s3 H3 scope ce fp) [] H' y := fun {σ' H' s'} I' hn y hy =>
    ⟨hn y hy, (I'.ok.exf y hy).1, I'.ok.exfs y hy, .inl hy, fun x q e => (I'.ok.exf y hy).2 x q e, fun p hp => absurd (show p ∈ ([] : List (Addr × Obj)) ++ [] from hp) (by simp)⟩
  have lp : codeAny (model X.prog X.w) X.A (.compLoop (cp3 elt a b c scope pos) 0 (.ref it) (.ref D) ce) (compPost (model X.prog X.w) X.A X.xe use Qf (.ref D) s3.heap.objs.size) s4 := by
    refine loop3_0 (hs1 ce) (fun n s' => ∃ i H', Inv (X.blk s3 H3 scope ce fp) [] (wipe σ (own.map (·.2))) H' s' ∧ tn i s'.heap ∧ (∀ y ∈ fp, H' y = none) ∧ W i n H') ?_ m0 ⟨0, H3, I4, st4, nfp, w0⟩
    rintro n s5 ⟨i, H5, I5, st5, n5, w5⟩
    unfold TurnW
    rcases turn i n H5 w5 with ⟨stp, qq⟩ | ⟨go, N1, hN1, stepf⟩
    · refine thnF (T.done (X.blk s3 H3 scope ce fp) rfl rfl rfl calm i [] s5 _ H5 (fun _ _ => False) I5 (okfp I5 n5) st5 stp) fun r s6 ⟨hr, I6⟩ => ?_
      subst hr
      have I7 : Inv X pl σ H5 s6 := I3.call' (ch := fp) I6.os I6.base I6.hok I6.bare fun y hy => ⟨(f3 y hy).1.2.2.2.1, (f3 y hy).1.2.1, (f3 y hy).1.2.2.2.2.1, (f3 y hy).1.2.2.2.2.2⟩
      have nL : H5 s3.heap.objs.size = none := by
        have z : H5 ce.locals = none := I6.free
        rwa [cL] at z
      obtain ⟨m, hn, _⟩ := I6.loc
      have hn : s6.heap.Ns ce.locals m := hn
      rw [cL] at hn
      exact fin D s3.heap.objs.size s6 m H5 I7 qq hn (I3.fpOk (Nat.le_refl _) nL)
    · refine thnF (T.item (X.blk s3 H3 scope ce fp) rfl rfl rfl calm i [] s5 _ H5 (fun _ _ => False) I5 (okfp I5 n5) st5 go) fun r s6 ⟨u, hr, h6⟩ => ?_
      subst hr
      refine thnF h6 fun _ s7 ⟨x, H7, I7, r7, y7, st7, n7⟩ => ?_
      have I7p := I7.pinned (okfp I7 n7) (T.obj _ _ st7)
      refine thnF (PG0.run _ s7 _ H7 x u _ I7p r7 (stepf x H7 y7)) fun _ s8 ⟨σ8, H8, I8, hw8, q8⟩ => ?_
      refine thnF (PT0.run _ s8 σ8 H8 _ I8 q8) fun ok9 s9 ⟨H9, I9, q9⟩ => ?_
      have l8 : (wipe σ (own.map (·.2))).length = σ8.length := by rw [← hw8, wipe_length]
      have back : ∀ {σ' : L2.St} {H' : Hp} {s' : Shared}, Inv (X.blk s3 H3 scope ce fp) ([] ++ pinsAt fp s7.heap) σ' H' s' → σ'.length = σ8.length → (∀ (i : Nat) v, (wipe σ8 vs1)[i]? = some (some v) → σ'[i]? = some (some v)) → N1 H' →
          ∃ m, m < n ∧ ∃ i H', Inv (X.blk s3 H3 scope ce fp) [] (wipe σ (own.map (·.2))) H' s' ∧ tn i s'.heap ∧ (∀ y ∈ fp, H' y = none) ∧ W i m H' := fun {σ' H' s'} I' hl hk hn => by
        obtain ⟨m', hm, w'⟩ := hN1 H' hn
        have pin' : ∀ y ∈ fp, ∀ o, s7.heap.get? y = some o → s'.heap.get? y = some o ∧ H' y = none := fun y hy o e =>
          let z := I'.pin (y, o) (List.mem_append_right _ (List.mem_append_right _ (mem_pinsAt hy e)))
          ⟨z.1, z.2.1⟩
        refine ⟨m', hm, i + 1, H', (I'.unpinned (pins := [])).weak (l8.trans hl.symm) (fun j v e => ?_), T.keep _ _ _ st7 fun y hy o e => (pin' y hy o e).1, fun y hy => ?_, w'⟩
        · rw [← hw8] at e
          obtain ⟨e1, e2⟩ := wipe_some e
          refine hk j v ?_
          rw [wipe_out fun z => e2 (v1 j z)]
          exact e1
        · obtain ⟨o, e, _⟩ := T.obj _ _ st7 y hy
          exact (pin' y hy o e).2
      cases ok9 with
      | false =>
        simp only [Bool.false_eq_true, if_false] at q9 ⊢
        exact back I9 rfl (fun i v e => (wipe_some e).1) q9
      | true =>
        simp only [if_true] at q9 ⊢
        exact hW0 _ σ8 H9 s9 N1 _ I9 q9 fun σ' H' s' I' hl hk hn => back I' hl hk hn
  exact codeAny_compStart_list lp (T.self X.A 0 _ _ _ st4 lp)
theorem pe_lc3 (own : List (Str × Nat)) (calm : X.calm = true) (nd : X.N.Nodup) (hi : PI X a.1 a.2.1 wi) (ok : BlkOk X.N X.env.scope scope own) (v1 : ∀ q ∈ vs1, q ∈ own.map (·.2)) (v2 : ∀ q ∈ vs2, q ∈ vs1)
    (hg : ∀ (r : Shared) (G : Hp) (L : Addr) (cl : List (Str × Addr)) (fp : List Addr), PG (X.blk r G scope (compEnvC scope cl L X.env) fp) a.1 g) (ht : ∀ (r : Shared) (G : Hp) (L : Addr) (cl : List (Str × Addr)) (fp : List Addr), PTs (X.blk r G scope (compEnvC scope cl L X.env) fp) a.2.2 tt)
    (hi1 : ∀ (r : Shared) (G : Hp) (L : Addr) (cl : List (Str × Addr)) (fp : List Addr), PI (X.blk r G scope (compEnvC scope cl L X.env) fp) b.1 b.2.1 wi1) (hg1 : ∀ (r : Shared) (G : Hp) (L : Addr) (cl : List (Str × Addr)) (fp : List Addr), PG (X.blk r G scope (compEnvC scope cl L X.env) fp) b.1 g1) (ht1 : ∀ (r : Shared) (G : Hp) (L : Addr) (cl : List (Str × Addr)) (fp : List Addr), PTs (X.blk r G scope (compEnvC scope cl L X.env) fp) b.2.2 tt1)
    (hi2 : ∀ (r : Shared) (G : Hp) (L : Addr) (cl : List (Str × Addr)) (fp : List Addr), PI (X.blk r G scope (compEnvC scope cl L X.env) fp) c.1 c.2.1 wi2) (hg2 : ∀ (r : Shared) (G : Hp) (L : Addr) (cl : List (Str × Addr)) (fp : List Addr), PG (X.blk r G scope (compEnvC scope cl L X.env) fp) c.1 g2) (ht2 : ∀ (r : Shared) (G : Hp) (L : Addr) (cl : List (Str × Addr)) (fp : List Addr), PTs (X.blk r G scope (compEnvC scope cl L X.env) fp) c.2.2 tt2)
    (he : ∀ (r : Shared) (G : Hp) (L : Addr) (cl : List (Str × Addr)) (fp : List Addr), PE (X.blk r G scope (compEnvC scope cl L X.env) fp) elt te)
    (hs : ∀ x, foldedSetIterable a.2.1 X.env x = pure x := by intro _; rfl) (hs1 : ∀ en x, foldedSetIterable b.2.1 en x = pure x := by intro _ _; rfl) (hs2 : ∀ en x, foldedSetIterable c.2.1 en x = pure x := by intro _ _; rfl) :
    PE X (cp3 elt a b c scope pos) (tLc3 wi g tt wi1 g1 tt1 wi2 g2 tt2 te (own.map (·.2)) vs1 vs2) := by
  refine ⟨fun pl s σ H Q I h => ?_⟩
  rw [eval_ListComp]
  refine lc3_core calm nd I hi ok v1 v2 hg ht hi1 hg1 ht1 hi2 hg2 ht2 he hs hs1 hs2 h fun D L s' m H' I' q hn f => ⟨m, hn, fun g' sb => ?_⟩
  obtain ⟨f0, f1, f2, f3, f4, f5⟩ := f
  exact ⟨.ref D, H', I'.turned (t' := s'.toks) (fun y o hy e => (sb.2 y hy).trans e) f0 f1 f3 f4 f5, rfl, q⟩
/-- stored under a local name on its own line -/
theorem ps_setLc3 {i : Nat} {y : Str} {py spos : Pos} (own : List (Str × Nat)) (calm : X.calm = true) (nd : X.N.Nodup) (hy : X.N[i]? = some y) (hyl : X.env.scope.names.lookup y = some .local) (hsw : swapsWith (cp3 elt a b c scope pos) (some (.Name y py)) spos.line X.env = pure true)
    (hi : PI X a.1 a.2.1 wi) (ok : BlkOk X.N X.env.scope scope own) (v1 : ∀ q ∈ vs1, q ∈ own.map (·.2)) (v2 : ∀ q ∈ vs2, q ∈ vs1)
    (hg : ∀ (r : Shared) (G : Hp) (L : Addr) (cl : List (Str × Addr)) (fp : List Addr), PG (X.blk r G scope (compEnvC scope cl L X.env) fp) a.1 g) (ht : ∀ (r : Shared) (G : Hp) (L : Addr) (cl : List (Str × Addr)) (fp : List Addr), PTs (X.blk r G scope (compEnvC scope cl L X.env) fp) a.2.2 tt)
    (hi1 : ∀ (r : Shared) (G : Hp) (L : Addr) (cl : List (Str × Addr)) (fp : List Addr), PI (X.blk r G scope (compEnvC scope cl L X.env) fp) b.1 b.2.1 wi1) (hg1 : ∀ (r : Shared) (G : Hp) (L : Addr) (cl : List (Str × Addr)) (fp : List Addr), PG (X.blk r G scope (compEnvC scope cl L X.env) fp) b.1 g1) (ht1 : ∀ (r : Shared) (G : Hp) (L : Addr) (cl : List (Str × Addr)) (fp : List Addr), PTs (X.blk r G scope (compEnvC scope cl L X.env) fp) b.2.2 tt1)
    (hi2 : ∀ (r : Shared) (G : Hp) (L : Addr) (cl : List (Str × Addr)) (fp : List Addr), PI (X.blk r G scope (compEnvC scope cl L X.env) fp) c.1 c.2.1 wi2) (hg2 : ∀ (r : Shared) (G : Hp) (L : Addr) (cl : List (Str × Addr)) (fp : List Addr), PG (X.blk r G scope (compEnvC scope cl L X.env) fp) c.1 g2) (ht2 : ∀ (r : Shared) (G : Hp) (L : Addr) (cl : List (Str × Addr)) (fp : List Addr), PTs (X.blk r G scope (compEnvC scope cl L X.env) fp) c.2.2 tt2)
    (he : ∀ (r : Shared) (G : Hp) (L : Addr) (cl : List (Str × Addr)) (fp : List Addr), PE (X.blk r G scope (compEnvC scope cl L X.env) fp) elt te)
    (hs : ∀ x, foldedSetIterable a.2.1 X.env x = pure x := by intro _; rfl) (hs1 : ∀ en x, foldedSetIterable b.2.1 en x = pure x := by intro _ _; rfl) (hs2 : ∀ en x, foldedSetIterable c.2.1 en x = pure x := by intro _ _; rfl) :
    PS X (.Assign [.Name y py] (cp3 elt a b c scope pos) spos) (tAsg (tLc3 wi g tt wi1 g1 tt1 wi2 g2 tt2 te (own.map (·.2)) vs1 vs2) (gName i)) := by
  refine ⟨fun pl s σ H D I h => ?_⟩
  rw [exec_Assign_Name_used _ _ _ _ hsw]
  refine wpAny_bind (wpAny_standAt (wpAny_bind ?_))
  show wpAny _ X.A (do let _ ← comprehension (cp3 elt a b c scope pos) scope X.env (firstIterPos [⟨a.1, a.2.1, a.2.2, 0⟩, ⟨b.1, b.2.1, b.2.2, 0⟩, ⟨c.1, c.2.1, c.2.2, 0⟩] pos) (newList []) false (eval a.2.1 X.env) (some (assign (.Name y py) X.env))) _ _ s
  have h : tLc3 wi g tt wi1 g1 tt1 wi2 g2 tt2 te (own.map (·.2)) vs1 vs2 σ H (fun x H1 => gName i x σ H1 D.nx) := h
  refine wpAny_bind (thn (lc3_core (Qf := fun _ s' => SP X pl D .next s') calm nd I hi ok v1 v2 hg ht hi1 hg1 ht1 hi2 hg2 ht2 he hs hs1 hs2 h fun F L s' m H' I' q hn f => ?_) fun _ s' hq => wpAny_pure (wpAny_pure hq))
  show wpAny _ _ (assign (.Name y py) X.env (.ref F)) _ _ _
  refine wpAny_assign_Name (store_ok2 (v := V.ref F) I' nd hy (.inl hyl) rfl (fun s2 I2 ⟨w2, sb, hw⟩ => ?_) (.inr hyl))
  obtain ⟨f0, f1, f2, f3, f4, f5⟩ := f
  have hne : L ≠ w2 := by
    rcases hw with z | z
    · rw [z]; exact f1
    · exact fun e => f4 y w2 z e.symm
  refine ⟨m, hn.sameBut sb hne, fun h3 sb3 => ?_⟩
  exact ⟨_, H', I2.turned (t' := s2.toks) (fun y o hy e => (sb3.2 y hy).trans e) f0 f1 f3 f4 f5, q⟩
theorem ps_asgLc3 {i : Nat} {y : Str} {py spos : Pos} {t0 i0 t1 i1 t2 i2 : Expr} {f0 f1 f2 : List Expr} (own : List (Str × Nat)) (calm : X.calm = true) (nd : X.N.Nodup) (hy : X.N[i]? = some y) (hyl : X.env.scope.names.lookup y = some .local) (hsw : swapsWith (.ListComp elt [⟨t0, i0, f0, 0⟩, ⟨t1, i1, f1, 0⟩, ⟨t2, i2, f2, 0⟩] scope pos) (some (.Name y py)) spos.line X.env = pure true)
    (hi : PI X t0 i0 wi) (ok : BlkOk X.N X.env.scope scope own) (v1 : ∀ q ∈ vs1, q ∈ own.map (·.2)) (v2 : ∀ q ∈ vs2, q ∈ vs1)
    (hg : ∀ (r : Shared) (G : Hp) (L : Addr) (cl : List (Str × Addr)) (fp : List Addr), PG (X.blk r G scope (compEnvC scope cl L X.env) fp) t0 g) (ht : ∀ (r : Shared) (G : Hp) (L : Addr) (cl : List (Str × Addr)) (fp : List Addr), PTs (X.blk r G scope (compEnvC scope cl L X.env) fp) f0 tt)
    (hi1 : ∀ (r : Shared) (G : Hp) (L : Addr) (cl : List (Str × Addr)) (fp : List Addr), PI (X.blk r G scope (compEnvC scope cl L X.env) fp) t1 i1 wi1) (hg1 : ∀ (r : Shared) (G : Hp) (L : Addr) (cl : List (Str × Addr)) (fp : List Addr), PG (X.blk r G scope (compEnvC scope cl L X.env) fp) t1 g1) (ht1 : ∀ (r : Shared) (G : Hp) (L : Addr) (cl : List (Str × Addr)) (fp : List Addr), PTs (X.blk r G scope (compEnvC scope cl L X.env) fp) f1 tt1)
    (hi2 : ∀ (r : Shared) (G : Hp) (L : Addr) (cl : List (Str × Addr)) (fp : List Addr), PI (X.blk r G scope (compEnvC scope cl L X.env) fp) t2 i2 wi2) (hg2 : ∀ (r : Shared) (G : Hp) (L : Addr) (cl : List (Str × Addr)) (fp : List Addr), PG (X.blk r G scope (compEnvC scope cl L X.env) fp) t2 g2) (ht2 : ∀ (r : Shared) (G : Hp) (L : Addr) (cl : List (Str × Addr)) (fp : List Addr), PTs (X.blk r G scope (compEnvC scope cl L X.env) fp) f2 tt2)
    (he : ∀ (r : Shared) (G : Hp) (L : Addr) (cl : List (Str × Addr)) (fp : List Addr), PE (X.blk r G scope (compEnvC scope cl L X.env) fp) elt te)
    (hs : ∀ x, foldedSetIterable i0 X.env x = pure x := by intro _; rfl) (hs1 : ∀ en x, foldedSetIterable i1 en x = pure x := by intro _ _; rfl) (hs2 : ∀ en x, foldedSetIterable i2 en x = pure x := by intro _ _; rfl) :
    PS X (.Assign [.Name y py] (.ListComp elt [⟨t0, i0, f0, 0⟩, ⟨t1, i1, f1, 0⟩, ⟨t2, i2, f2, 0⟩] scope pos) spos) (tAsg (tLc3 wi g tt wi1 g1 tt1 wi2 g2 tt2 te (own.map (·.2)) vs1 vs2) (gName i)) :=
  ps_setLc3 (a := (t0, i0, f0)) (b := (t1, i1, f1)) (c := (t2, i2, f2)) own calm nd hy hyl hsw hi ok v1 v2 hg ht hi1 hg1 ht1 hi2 hg2 ht2 he hs hs1 hs2
end
end Gx

set_option maxRecDepth 100000
set_option maxHeartbeats 4000000
namespace Kl
open PySem PySem.Spec PyProof.Rows L2 Gx Mx
section
variable {P : Program} {w : World} {K : PySem.W.Frag} {mg : Str → Option Value} {base : Heap}
/-! ### _keys_in of a single node -/
abbrev NKI : List Str := ["tree", "keys", "level", "each", "digit", "child"]
def spKIn (K : PySem.W.Frag) (C : Addr) : Sp := fun vs H Q _ => ∃ (x kx : Addr) (way : List Str) (key : Int), vs = [.ref x] ∧ TreeAt K C kx H (.mk way key .nil) x ∧ ∀ l H', Same H H' → H' l = some (.lst [.int key]) → Q (.ref l) H'
theorem ok_kin {C f : Addr} {fd : FuncData} (F : Fun K "_keys_in" "_keys_in" s_keys_in f fd) (T : Top K mg) (TC : Cl_Tree K mg C) : FnOk P w K mg base CX0 3 f fd ["tree"] (spKIn K C) := by
  have kKey : CalP P w K mg base C "key" 1 (spTKey K C) := TC.p_key.cal fun f fd F => ok_tkey F TC
  have kKid : CalP P w K mg base C "children" 1 (spTKids K C) := TC.p_children.cal fun f fd F => ok_tkids F TC
  refine F.ok sc_keys_in (fun vs H Q E h => ?_) (fun cdv A outer s H vs Q E hr h => ?_)
  · obtain ⟨x, kx, way, key, rfl, _⟩ := h
    rfl
  · obtain ⟨x, kx, way, key, rfl, ht, q⟩ := h
    refine ⟨_, pss_cut (ps_set (i := 1) sc_keys_in.nd rfl (.inl rfl) (pe_lst pa_nil))
      (pss_cut (ps_set (i := 2) sc_keys_in.nd rfl (.inl rfl) (pe_lst (pa_cons (pv 0) pa_nil)))
      (pss_cut (ps_while PassesOwn.never (pt_truth (pv 2) (fun _ => rfl))
        (pss_cut (ps_set (i := 1) sc_keys_in.nd rfl (.inl rfl) (pe_op op_cat (pv 1) (pe_lc (own := [("each", 3)]) (g := gName 3) (tt := tYes) rfl sc_keys_in.nd (pi_list (pv 2)) (blkOk_by (N := NKI) (sc := defScope s_keys_in) (by decide +kernel)) (fun _ _ _ _ _ => pg_name (i := 3) sc_keys_in.nd rfl (.inl rfl)) (fun _ _ _ _ _ => pts_nil) (fun _ _ _ _ _ => pe_propC (pv 3) TC.cl kKey hr rfl))))
        (pss_one (ps_asgLc3 (i := 2) (vs1 := [4, 5]) (vs2 := [5]) (g := gName 3) (g1 := gName 4) (g2 := gName 5) (tt := tYes) (tt1 := tYes) (tt2 := tYes) [("each", 3), ("digit", 4), ("child", 5)] (by rfl) sc_keys_in.nd rfl rfl (sw_true rfl rfl rfl (by decide +kernel)) (pi_list (pv 2)) (blkOk_by (N := NKI) (sc := defScope s_keys_in) (by decide +kernel)) (by decide) (by decide)
          (fun _ _ _ _ _ => pg_name (i := 3) sc_keys_in.nd rfl (.inl rfl)) (fun _ _ _ _ _ => pts_nil)
          (fun _ _ _ _ _ => pi_tupK (K := K) (by exact rfl) (pe_propC (pv 3) TC.cl kKid hr rfl)) (fun _ _ _ _ _ => pg_name (i := 4) sc_keys_in.nd rfl (.inl rfl)) (fun _ _ _ _ _ => pts_nil)
          (fun _ _ _ _ _ => pi_tupK (K := K) (by exact rfl) (pv 4)) (fun _ _ _ _ _ => pg_name (i := 5) sc_keys_in.nd rfl (.inl rfl)) (fun _ _ _ _ _ => pts_nil) (fun _ _ _ _ _ => pv 5)))))
      (pss_one (ps_ret (pv 1))))), ?_⟩
    have big : 100000 ≤ sizeLine := by decide
    refine ⟨fun σ' G => ∃ kl : Addr, σ' = [some (.ref x), some (.ref kl), none, none, none, none] ∧ G kl = some (.lst []) ∧ Same H G, ?_, ?_⟩
    · exact ⟨Nat.zero_le _, fun kl nkl => ⟨kl, rfl, upd_same, same_new (Same.refl H) nkl⟩⟩
    rintro σ' G ⟨kl, rfl, ekl, s1⟩
    refine ⟨fun σ' G' => ∃ ll : Addr, σ' = [some (.ref x), some (.ref kl), some (.ref ll), none, none, none] ∧ G' ll = some (.lst [.ref x]) ∧ Same G G', ?_, ?_⟩
    · exact ⟨_, rfl, by show 1 ≤ sizeLine; omega, fun ll nll => ⟨ll, rfl, upd_same, same_new (Same.refl G) nll⟩⟩
    rintro σ' G1 ⟨ll, rfl, ell, s2⟩
    refine ⟨fun σ' G' => ∃ (kl ll : Addr), σ' = [some (.ref x), some (.ref kl), some (.ref ll), none, none, none] ∧ G' kl = some (.lst [.int key]) ∧ Same H G', ?_, ?_⟩
    · refine ⟨fun m σ' G' => ∃ (kl ll : Addr), σ' = [some (.ref x), some (.ref kl), some (.ref ll), none, none, none] ∧ Same H G' ∧ ((m = 1 ∧ G' kl = some (.lst []) ∧ G' ll = some (.lst [.ref x])) ∨ (m = 0 ∧ G' kl = some (.lst [.int key]) ∧ G' ll = some (.lst []))), ⟨1, kl, ll, rfl, fun b o e => s2 _ _ (s1 _ _ e), .inl ⟨rfl, s2 _ _ ekl, ell⟩⟩, fun m σ' G' h => ?_⟩
      obtain ⟨kl, ll, rfl, sm, h⟩ := h
      rcases h with ⟨rfl, e1, e2⟩ | ⟨rfl, e1, e2⟩
      · refine ⟨_, rfl, true, .inl ⟨_, .inl (.inl e2), rfl⟩, ?_⟩
        show (if true = true then _ else _)
        rw [if_pos rfl]
        refine ⟨fun σ' G' => ∃ (kl ll : Addr), σ' = [some (.ref x), some (.ref kl), some (.ref ll), none, none, none] ∧ Same H G' ∧ G' kl = some (.lst [.int key]) ∧ G' ll = some (.lst []), fun σ' G' ⟨kl, ll, e, s, a, b⟩ => ⟨0, by decide, kl, ll, e, s, .inr ⟨rfl, a, b⟩⟩, ?_⟩
        have insT : ∀ {G : Hp}, TreeAt K C kx G (.mk way key .nil) x → ∃ dx fs, G x = some (.ins C dx fs) := fun {G} hT => by
          obtain ⟨dx, wl, cl, das, n, hx, _⟩ := treeAt_ins hT
          exact ⟨dx, _, hx⟩
        refine ⟨fun σ' G2 => ∃ kl2 : Addr, σ' = [some (.ref x), some (.ref kl2), some (.ref ll), none, none, none] ∧ G2 kl2 = some (.lst [.int key]) ∧ Same G' G2, ?_, ?_⟩
        · refine ⟨_, rfl, _, rfl, ll, rfl, ⟨_, .inl (.inl e2)⟩, fun D hD => ?_⟩
          refine lc_it (g := gName 3) (tt := tYes) (vs := [3]) (walk_list (K := K) (a := ll) (xs := [.ref x])) (fun j G2 => G2 D = some (.lst (([V.int key]).take j)) ∧ Same G' G2)
            ⟨upd_same, same_new (Same.refl G') hD⟩ (fun j G2 _ h => .inl (.inl (h.2 _ _ e2))) (fun j u Gx G2 hj h hy => ?_) (fun G2 h => ?_)
          · obtain ⟨eD, s3⟩ := h
            obtain ⟨rfl, hu⟩ := hy
            have hj0 : j = 0 := by
              have : j < 1 := hj
              omega
            subst hj0
            cases hu
            have hT := ht.same fun b o e => s3 _ _ (sm _ _ e)
            obtain ⟨dx, fs, hx⟩ := insT hT
            refine ⟨rfl, _, rfl, x, dx, fs, rfl, hx, x, kx, _, rfl, hT, _, eD, by show 0 < sizeLine; omega, ?_, fun b o e => by rw [upd_ne (ne_of_none e hD)]; exact s3 b o e⟩
            rw [upd_same]
            rfl
          · obtain ⟨eD, s3⟩ := h
            refine ⟨kl, D, _, _, rfl, rfl, s3 _ _ e1, eD, by show 0 + 1 ≤ sizeLine; omega, fun p np => ?_⟩
            exact ⟨p, rfl, upd_same, same_new s3 np⟩
        rintro σ' G2 ⟨kl2, rfl, ek2, s3⟩
        refine ⟨_, rfl, ll, rfl, ⟨_, .inl (.inl (s3 _ _ e2))⟩, fun D hD => ?_⟩
        have hT2 := ht.same fun b o e => s3 _ _ (sm _ _ e)
        refine lc2_it (g := gName 3) (tt := tYes) (vs := [3, 4, 5]) (walk_list (K := K) (a := ll) (xs := [.ref x])) (fun j G3 => G3 D = some (.lst []) ∧ Same G2 G3)
          ⟨upd_same, same_new (Same.refl G2) hD⟩ (fun j G3 _ h => .inl (.inl (h.2 _ _ (s3 _ _ e2)))) (fun j u Gx G3 hj h hy => ?_) (fun G3 h => ⟨kl2, D, rfl, fun b o e => h.2 _ _ (s3 _ _ (sm _ _ e)), h.2 _ _ ek2, h.1⟩)
        obtain ⟨eD, s4⟩ := h
        obtain ⟨rfl, hu⟩ := hy
        have hj0 : j = 0 := by
          have : j < 1 := hj
          omega
        subst hj0
        cases hu
        have hT := hT2.same s4
        obtain ⟨dx, fs, hx⟩ := insT hT
        refine ⟨rfl, _, rfl, x, dx, fs, rfl, hx, x, kx, _, rfl, hT, fun cl das hcl hds => ⟨cl, rfl, ⟨_, hcl⟩, ?_⟩⟩
        have hds : DgsAt K C kx G3 .nil das := hds
        unfold DgsAt at hds
        subst hds
        exact in_it (walk_tup (K := K) (a := cl) (xs := [])) (fun _ G4 => G4 D = some (.lst []) ∧ Same G2 G4 ∧ SqT K G4 cl []) ⟨eD, s4, hcl⟩ (fun _ _ _ h => h.2.2) (fun i u G5 G6 hi _ _ => absurd hi (Nat.not_lt_zero _)) (fun G4 h => ⟨h.1, h.2.1⟩)
      · refine ⟨_, rfl, false, .inl ⟨_, .inl (.inl e2), rfl⟩, ?_⟩
        show (if false = true then _ else _)
        rw [if_neg (by decide)]
        exact ⟨kl, ll, rfl, e1, sm⟩
    rintro σ' G' ⟨kl, ll, rfl, e1, sm⟩
    exact ⟨_, rfl, q kl G' sm e1⟩
end
end Kl

set_option maxRecDepth 100000
set_option maxHeartbeats 4000000
namespace Kl
open PySem PySem.Spec PyProof.Rows L2 Gx Mx
/-- the keys of the children -/
def kbL (ds : Dgs) : List (List Int) := ds.list.map fun d => d.list.map Tr.key
def kb (ds : Dgs) : List Int := (kbL ds).flatten
theorem kbl_len : ∀ d : Trs, (d.list.map Tr.key).length ≤ d.size
  | .nil => Nat.zero_le _
  | .cons t r => by
    have ih := kbl_len r
    have := Tr.size_pos t
    rw [Trs.size]
    show (r.list.map Tr.key).length + 1 ≤ _
    omega
theorem kb_len : ∀ ds : Dgs, (kb ds).length ≤ ds.size
  | .nil => Nat.zero_le _
  | .cons d r => by
    have ih := kb_len r
    have := kbl_len d
    rw [Dgs.size]
    show (d.list.map Tr.key ++ kb r).length ≤ _
    rw [List.length_append]
    omega
end Kl

set_option maxRecDepth 100000
set_option maxHeartbeats 4000000
namespace Kl
open PySem PySem.Spec PyProof.Rows L2 Gx Mx
theorem pt_nev {X : Cx} {e : Expr} : PT X e (fun _ _ _ => False) := ⟨fun _ _ _ _ _ _ h => h.elim⟩
section
variable {P : Program} {w : World} {K : PySem.W.Frag} {mg : Str → Option Value} {base : Heap}
/-! ### Tree.__eq__ of what is no such tree -/
def spTEqW (K : PySem.W.Frag) (C Ck : Addr) : Sp := fun vs H Q _ => ∃ (x y kx ky md md' : Addr) (t u : Tr) (leaf leaf' : Str) (M N : Mak) (ns ns' : List Str), vs = [.ref x, .ref y] ∧ TreeAt K C kx H t x ∧ TreeAt K C ky H u y ∧ KindsAt Ck H kx md leaf M ns ∧ KindsAt Ck H ky md' leaf' N ns' ∧ Vld leaf M ∧ Vld leaf' N ∧ (decide (leaf = leaf') && eqB M N) = false ∧ Q (.bl false) H
def spTEqO (K : PySem.W.Frag) (C : Addr) : Sp := fun vs H Q _ => ∃ (x kx : Addr) (t : Tr) (y : V) (ty : Value), vs = [.ref x, y] ∧ TreeAt K C kx H t x ∧ TyX K H y ty ∧ PySem.W.kitOne K ty (.ref C) = some false ∧ Q (.bl false) H
def spTEqA (K : PySem.W.Frag) (C Ck : Addr) (n : Nat) : Sp := fun vs H Q E => spTEq K C Ck n vs H Q E ∨ (spTEqW K C Ck vs H Q E ∨ spTEqO K C vs H Q E)
theorem ok_teqW {C Ck f : Addr} {fd : FuncData} (F : Fun K "__eq__" "Tree.__eq__" s_Tree_eq f fd) (T : Top K mg) (TC : Cl_Tree K mg C) (TK : Cl_Kinds K mg Ck) : FnOk P w K mg base CX0 5 f fd ["self", "other"] (spTEqW K C Ck) := by
  have kEq : CalM P w K mg base Ck "__eq__" 3 ["self", "other"] (spKEq K Ck) := (TK.m_eq.cal fun f fd F => ok_keq F T TK).mono (by decide)
  refine F.ok sc_Tree_eq (fun vs H Q E h => ?_) (fun cdv A outer s H vs Q E hr h => ?_)
  · obtain ⟨x, y, kx, ky, md, md', t, u, leaf, leaf', M, N, ns, ns', rfl, _⟩ := h
    rfl
  · obtain ⟨x, y, kx, ky, md, md', t, u, leaf, leaf', M, N, ns, ns', rfl, ht, hu, hK, hK', hV, hV', hne, q⟩ := h
    refine ⟨_, pss_cons (ps_if (PW.pt (pw_or (pt_not (pt_val (pe_callB call_isi (by rfl) T.b_isinstance (by decide +kernel) (pa_cons (pv 1) (pa_cons (pe_glob (v := .ref C) (by rfl) TC.gC rfl) pa_nil)))))
          (pw_or1 (pt_cmpR (op_neM kEq TK.ne TK.ob hr) (pe_fld (pv 0) rfl) (pe_fld (pv 1) rfl) (by rfl))))) (pss_one (ps_ret pe_bl)) pss_nil)
      (pss_one ps_never), ?_⟩
    obtain ⟨dx, wl, cl, das, m, hx, hw, hc, hds⟩ := treeAt_ins ht
    obtain ⟨dy, wl2, cl2, das2, m2, hy, hw2, hc2, hds2⟩ := treeAt_ins hu
    obtain ⟨dk, nt, kvs, hkx, _⟩ := id hK
    obtain ⟨dk', nt', kvs', hky, _⟩ := id hK'
    refine ⟨_, rfl, _, _, .ref C, .ref C, true, rfl, .own C, .base (.ins hy TC.cl TC.ca TC.cg TC.ct TC.ob), TC.kit, true, rfl, ?_⟩
    show (if (!true) = true then _ else _)
    rw [if_neg (by decide)]
    refine ⟨_, rfl, x, C, dx, _, _, rfl, hx, TC.cl, TC.n_kinds, tf_kinds _ _ _ _ _, _, rfl, y, C, dy, _, _, rfl, hy, TC.cl, TC.n_kinds, tf_kinds _ _ _ _ _, kx, dk, _, _, rfl, hkx, .ins hky, kx, md, leaf, M, ns, .ref ky, rfl, hK, hV, .inl ⟨ky, md', leaf', N, ns', rfl, hK', hV', _, rfl, ?_⟩⟩
    rw [hne]
    refine ⟨_, rfl, ?_⟩
    show (if (!false) = true then _ else _)
    rw [if_pos (by decide)]
    exact q
theorem ok_teqO {C f : Addr} {fd : FuncData} (F : Fun K "__eq__" "Tree.__eq__" s_Tree_eq f fd) (T : Top K mg) (TC : Cl_Tree K mg C) : FnOk P w K mg base CX0 5 f fd ["self", "other"] (spTEqO K C) := by
  refine F.ok sc_Tree_eq (fun vs H Q E h => ?_) (fun cdv A outer s H vs Q E hr h => ?_)
  · obtain ⟨x, kx, t, y, ty, rfl, _⟩ := h
    rfl
  · obtain ⟨x, kx, t, y, ty, rfl, ht, hy, hk, q⟩ := h
    refine ⟨_, pss_cons (ps_if (PW.pt (pw_or (pt_not (pt_val (pe_callB call_isi (by rfl) T.b_isinstance (by decide +kernel) (pa_cons (pv 1) (pa_cons (pe_glob (v := .ref C) (by rfl) TC.gC rfl) pa_nil)))))
          (pw_or1 pt_nev))) (pss_one (ps_ret pe_bl)) pss_nil)
      (pss_one ps_never), ?_⟩
    refine ⟨_, rfl, _, _, ty, .ref C, false, rfl, .own C, hy, hk, false, rfl, ?_⟩
    show (if (!false) = true then _ else _)
    rw [if_pos (by decide)]
    exact q
theorem ok_teqA {C Ck f : Addr} {fd : FuncData} {n : Nat} (F : Fun K "__eq__" "Tree.__eq__" s_Tree_eq f fd) (T : Top K mg) (TC : Cl_Tree K mg C) (TK : Cl_Kinds K mg Ck) : FnOk P w K mg base CX0 (3 * n + 9) f fd ["self", "other"] (spTEqA K C Ck n) :=
  fnOk_or (ok_teq n F T TC TK) (fnOk_or ((ok_teqW F T TC TK).mono (by omega)) ((ok_teqO F T TC).mono (by omega)))
/-! ### Tree.__contains__ of a single node -/
def spTIn (K : PySem.W.Frag) (C : Addr) : Sp := fun vs H Q _ => ∃ (x kx : Addr) (way : List Str) (key : Int) (v : V), vs = [.ref x, v] ∧ TreeAt K C kx H (.mk way key .nil) x ∧ IntArg K H v ∧ v ≠ .int key ∧ ∀ H', Same H H' → Q (.bl false) H'
theorem ok_tin {C f : Addr} {fd : FuncData} (F : Fun K "__contains__" "Tree.__contains__" s_Tree_contains f fd) (T : Top K mg) (TC : Cl_Tree K mg C) : FnOk P w K mg base CX0 4 f fd ["self", "value"] (spTIn K C) := by
  have ci : Cal P w K mg base 3 "is_integer" ["value"] (spInt K) := (T.d_is_integer.cal fun f fd F => ok_int F T).mono (by decide)
  have ck : Cal P w K mg base 3 "_keys_in" ["tree"] (spKIn K C) := T.d_keys_in.cal fun f fd F => ok_kin F T TC
  refine F.ok sc_Tree_contains (fun vs H Q E h => ?_) (fun cdv A outer s H vs Q E hr h => ?_)
  · obtain ⟨x, kx, way, key, v, rfl, _⟩ := h
    rfl
  · obtain ⟨x, kx, way, key, v, rfl, ht, hi, hne, q⟩ := h
    refine ⟨_, pss_one (ps_ret (pe_and (pe_cal ci hr (by rfl) (pa_cons (pv 1) pa_nil)) (pe_one (pe_cmpR op_in_seq (pv 1) (pe_cal ck hr (by rfl) (pa_cons (pv 0) pa_nil)) (by rfl))))), ?_⟩
    refine ⟨_, rfl, v, rfl, hi, _, rfl, ?_⟩
    cases hv : intV v with
    | false =>
      show (if false = true then _ else _)
      rw [if_neg (by decide)]
      exact q H (Same.refl H)
    | true =>
      show (if true = true then _ else _)
      rw [if_pos rfl]
      obtain ⟨i, rfl⟩ : ∃ i, v = .int i := by
        cases v with
        | int i => exact ⟨i, rfl⟩
        | _ => cases hv
      refine ⟨_, rfl, _, rfl, x, kx, way, key, rfl, ht, fun l H1 s1 el => ⟨l, _, rfl, .inl (.inl (.inl el)), rfl, rfl, ?_⟩⟩
      have e : inV (V.int i) [V.int key] = false := by
        show (([V.int key] : List V).any fun y => eqV y (V.int i)) = false
        show ((key == i) || false) = false
        rw [Bool.or_false]
        exact beq_false_of_ne fun h => hne (by rw [h])
      rw [e]
      exact q H1 s1
end
end Kl

set_option maxRecDepth 100000
set_option maxHeartbeats 4000000
namespace Kl
open PySem PySem.Spec PyProof.Rows L2 Gx Mx
section
variable {K : PySem.W.Frag}
/-! ### data of whole numbers -/
def iD (ns : List Int) : List PyData := ns.map PyData.int
theorem eqv_ints : ∀ xs ys : List Int, PyData.eqvAll (iD xs) (iD ys) = decide (xs = ys)
  | [], [] => by simp [iD, PyData.eqvAll]
  | [], y :: ys => by simp [iD, PyData.eqvAll]
  | x :: xs, [] => by simp [iD, PyData.eqvAll]
  | x :: xs, y :: ys => by
    have ih := eqv_ints xs ys
    unfold iD at ih ⊢
    rw [List.map_cons, List.map_cons, PyData.eqvAll, ih, PyData.eqv]
    by_cases h : x = y
    · subst h
      by_cases h2 : xs = ys
      · subst h2
        simp
      · rw [decide_eq_false h2, Bool.and_false, decide_eq_false fun q => h2 (List.cons.inj q).2]
    · rw [decide_eq_false fun q => h (List.cons.inj q).1, beq_eq_false_iff_ne.mpr h, Bool.false_and]
theorem dp_ints {H : Hp} : ∀ xs : List Int, DpAll K H (xs.map V.int) (iD xs)
  | [] => .nil
  | x :: xs => .cons (.int x) (dp_ints xs)
theorem canLay_ints : ∀ xs : List Int, PyData.canLayAll0 (iD xs) = true
  | [] => by simp [iD, PyData.canLayAll0]
  | x :: xs => by
    have ih := canLay_ints xs
    unfold iD at ih ⊢
    rw [List.map_cons, PyData.canLayAll0, ih, PyData.canLay0]
    rfl
theorem depth_ints : ∀ xs : List Int, PyData.depthAll (iD xs) ≤ 1
  | [] => by simp [iD, PyData.depthAll]
  | x :: xs => by
    have ih := depth_ints xs
    unfold iD at ih ⊢
    rw [List.map_cons, PyData.depthAll]
    simp only [PyData.depth]
    omega
theorem shaped_ints (xs : List Int) : SeqAt.shaped (.list (iD xs)) = true := by
  unfold SeqAt.shaped
  rw [Bool.and_eq_true]
  refine ⟨by simp only [PyData.canLay0]; exact canLay_ints xs, decide_eq_true ?_⟩
  have := depth_ints xs
  simp only [PyData.depth]
  omega
end
end Kl

set_option maxRecDepth 100000
set_option maxHeartbeats 4000000
namespace Gx
open PySem PySem.Spec PyProof.Rows L2 RZ
theorem walk_zipT {K : PySem.W.Frag} {a b : Addr} {xs ys : List V} {n : Nat} (hn : n = min xs.length ys.length) : Walk (ItzT K a b) n (fun H => SqT K H a xs ∧ SqT K H b ys) (YPair (fun i => xs[i]?) (fun i => ys[i]?)) := by
  subst hn
  refine ⟨fun i _ hi q => ?_, fun _ q => ⟨xs, ys, q.1, q.2, ?_⟩, fun i H v H' _ q y => ?_⟩
  · exact ⟨xs, ys, xs[i]'(by omega), ys[i]'(by omega), q.1, q.2, List.getElem?_eq_getElem (by omega), List.getElem?_eq_getElem (by omega)⟩
  · omega
  · obtain ⟨T, u, z, e1, e2, e3, e4, e5⟩ := y
    exact ⟨T, u, z, e1, e2, e3, e4 _ q.1, e5 _ q.2⟩
end Gx
namespace Kl
open PySem PySem.Spec PyProof.Rows L2 Gx Mx RZ
theorem call_lenK {X : Cx} {K : PySem.W.Frag} (hk : X.K = K) : CallR X (.builtin "len") (fun xs H Q => ∃ p ys, xs = [V.ref p] ∧ (SqL K H p ys ∨ SqT K H p ys) ∧ Q (V.int (ys.length : Nat)) H) := by
  subst hk
  exact call_len_seq
theorem plAt_parts {K : PySem.W.Frag} {G : Hp} {t : Tr} {x : Addr} (h : PlAt K G t x) : ∃ wl cl das, SqT K G x [.ref wl, .int t.key, .ref cl] ∧ SqT K G wl (t.way.map V.str) ∧ SqT K G cl (das.map V.ref) ∧ PdAt K G t.kids das := by
  cases t with
  | mk way key ds =>
    unfold PlAt at h
    exact h
theorem grown_names {leaf : Str} {M : Mak} (v : Vld leaf M) : ∀ {r : Nat} {z : Str} {t : Tr}, Grown leaf M r z t → ∀ y ∈ t.way, y ∈ POOL
  | 0, z, t, h, y, hy => by
    obtain ⟨_, _, rfl, _⟩ := h
    rw [List.mem_singleton.mp hy]
    exact v.lf
  | r + 1, z, t, h, y, hy => by
    obtain ⟨ps, ts, j, t0, hl, hp, hg, hw, rfl⟩ := h
    rw [link_way] at hy
    rcases List.mem_append.mp hy with h | h
    · exact grown_names v (hg t0 ((win_perm hw).mem_iff.mp List.mem_cons_self)) y h
    · rw [List.mem_singleton.mp h]
      exact v.keys z (List.mem_map.mpr ⟨_, lookM_some hl, rfl⟩)
/-- a tree whose children are grown -/
structure Lik (leaf : Str) (M : Mak) (r : Nat) (t : Tr) : Prop where
  ne : t.way ≠ []
  wl : t.way.length ≤ 1000
  nm : ∀ y ∈ t.way, y ∈ POOL
  kg : KidsG leaf M r t.kids
  kl : t.kids.list.length ≤ r
  sz : t.size ≤ 5000
theorem grown_lik {leaf : Str} {M : Mak} (v : Vld leaf M) {r : Nat} {z : Str} {t : Tr} (h : Grown leaf M r z t) (hr : r ≤ 4) : Lik leaf M r t := by
  have f := grown_facts v h
  refine ⟨f.ne, by rw [f.way]; omega, grown_names v h, grown_kidsG v h, ?_, ?_⟩
  · have h2 : t.kids.len = r := f.rank
    rw [Dgs.len_list] at h2
    omega
  · rw [f.size]
    have h2 := siz_le v r z
    have h3 : 3 ^ r ≤ 3 ^ 4 := Nat.pow_le_pow_right (by decide) hr
    omega
theorem ds_size_get : ∀ {ds : Dgs} {j : Nat} {d : Trs}, ds.list[j]? = some d → d.size ≤ ds.size
  | .nil, j, d, h => by cases h
  | .cons e r, 0, d, h => by
    cases h
    rw [Dgs.size]
    omega
  | .cons e r, j + 1, d, h => by
    have := ds_size_get (ds := r) (j := j) h
    rw [Dgs.size]
    omega
theorem trs_len_size : ∀ d : Trs, d.list.length ≤ d.size
  | .nil => Nat.zero_le _
  | .cons t r => by
    have ih := trs_len_size r
    have := Tr.size_pos t
    rw [Trs.size]
    show r.list.length + 1 ≤ _
    omega
theorem kids_size (t : Tr) : t.kids.size < t.size := by
  cases t with
  | mk w k ds =>
    rw [Tr.size]
    show ds.size < _
    omega
section
variable {P : Program} {w : World} {K : PySem.W.Frag} {mg : Str → Option Value} {base : Heap}
/-! ### _law_is_tree_like, of one tree -/
abbrev NTL : List Str := ["_law_made", "_law_tree", "_law_sizes_here", "_law_trees", "_law_some", "_law_one", "_law_other"]
def spTL (K : PySem.W.Frag) (C : Addr) (n : Nat) : Sp := fun vs H Q _ => ∃ (x y kx : Addr) (t : Tr) (leaf : Str) (M : Mak) (r : Nat), vs = [.ref x, .ref y] ∧ TreeAt K C kx H t x ∧ PlAt K H t y ∧ Vld leaf M ∧ Lik leaf M r t ∧ r < n ∧ r ≤ 4 ∧ ∀ H', Same H H' → Q (.bl true) H'
theorem ok_tl {C : Addr} : ∀ (n : Nat) {f : Addr} {fd : FuncData} (F : Fun K "_law_is_tree_like" "_law_is_tree_like" s_law_is_tree_like f fd) (T : Top K mg) (TC : Cl_Tree K mg C), FnOk P w K mg base CX0 (n + 3) f fd ["_law_made", "_law_tree"] (spTL K C n)
  | 0, f, fd, F, T, TC => by
    refine F.ok sc_law_is_tree_like (fun vs H Q E h => ?_) (fun cdv A outer s H vs Q E hr h => ?_)
    · obtain ⟨x, y, kx, t, leaf, M, r, rfl, _⟩ := h
      rfl
    · obtain ⟨x, y, kx, t, leaf, M, r, rfl, _, _, _, _, hn, _⟩ := h
      exact absurd hn (Nat.not_lt_zero _)
  | n + 1, f, fd, F, T, TC => by
    have kKid : CalP P w K mg base C "children" (n + 2) (spTKids K C) := (TC.p_children.cal fun f fd F => ok_tkids F TC).mono (by omega)
    have kKey : CalP P w K mg base C "key" (n + 2) (spTKey K C) := (TC.p_key.cal fun f fd F => ok_tkey F TC).mono (by omega)
    have kWay : CalP P w K mg base C "way" (n + 2) (spTWay K C) := (TC.p_way.cal fun f fd F => ok_tway F TC).mono (by omega)
    have kKnd : CalP P w K mg base C "kind" (n + 2) (spTKind K C) := (TC.p_kind.cal fun f fd F => ok_tkind F TC).mono (by omega)
    have kRnk : CalP P w K mg base C "rank" (n + 2) (spTRank K C) := (TC.p_rank.cal fun f fd F => ok_trank F T TC).mono (by omega)
    have co : Cal P w K mg base (n + 3) "_law_is_tree_like" ["_law_made", "_law_tree"] (spTL K C n) := T.d_law_is_tree_like.cal fun f fd F => ok_tl n F T TC
    refine F.ok sc_law_is_tree_like (fun vs H Q E h => ?_) (fun cdv A outer s H vs Q E hr h => ?_)
    · obtain ⟨x, y, kx, t, leaf, M, r, rfl, _⟩ := h
      rfl
    · obtain ⟨x, y, kx, t, leaf, M, r, rfl, hT, hP, hV, hL, hn, hr4, q⟩ := h
      refine ⟨_, pss_cons (ps_if (PW.pt (pw_or (pt_cmpR op_ne (pe_propC (pv 0) TC.cl kKey hr rfl) (pe_ix ix_tup (pv 1) pe_int (fun _ _ => rfl)) (by rfl))
            (pw_or (pt_cmpR (op_neD hr.units) (pe_propC (pv 0) TC.cl kWay hr rfl) (pe_ix ix_tup (pv 1) pe_int (fun _ _ => rfl)) (by rfl))
            (pw_or (pt_cmpR op_ne (pe_propC (pv 0) TC.cl kKnd hr rfl) (pe_ix ix_tup (pe_ix ix_tup (pv 1) pe_int (fun _ _ => rfl)) (pe_un un_neg pe_int) (fun _ _ => rfl)) (by rfl))
            (pw_or1 (pt_cmpR op_ne (pe_propC (pv 0) TC.cl kRnk hr rfl) (pe_callB call_len_seq (by rfl) T.b_len PySem.boot_len (pa_cons (pe_ix ix_tup (pv 1) pe_int (fun _ _ => rfl)) pa_nil)) (by rfl))))))) (pss_one (ps_ret pe_bl)) pss_nil)
        (pss_cut (ps_setLc (i := 2) (own := [("_law_some", 4)]) (g := gName 4) (tt := tYes) (by rfl) sc_law_is_tree_like.nd rfl rfl (sw_true rfl rfl rfl (by decide +kernel)) (pi_tup (pe_ix ix_tup (pv 1) pe_int (fun _ _ => rfl))) (blkOk_by (N := NTL) (sc := defScope s_law_is_tree_like) (by decide +kernel)) (fun _ _ _ _ _ => pg_name (i := 4) sc_law_is_tree_like.nd rfl (.inl rfl)) (fun _ _ _ _ _ => pts_nil)
            (fun _ _ _ _ _ => pe_callB (call_lenK (K := K) (by exact rfl)) (by rfl) T.b_len PySem.boot_len (pa_cons (pv 4) pa_nil)))
        (pss_cut (ps_if (PW.pt (pw_or (pt_not (pt_val (pe_callB call_isi (by rfl) T.b_isinstance (by decide +kernel) (pa_cons (pe_propC (pv 0) TC.cl kKid hr rfl) (pa_cons (pe_bltn (v := .ty "tuple") (by rfl) T.b_tuple (by decide +kernel) rfl) pa_nil)))))
            (pw_or1 (pt_cmpR (op_neD hr.units) (pe_lc (own := [("_law_trees", 3)]) (g := gName 3) (tt := tYes) rfl sc_law_is_tree_like.nd (pi_tup (pe_propC (pv 0) TC.cl kKid hr rfl)) (blkOk_by (N := NTL) (sc := defScope s_law_is_tree_like) (by decide +kernel)) (fun _ _ _ _ _ => pg_name (i := 3) sc_law_is_tree_like.nd rfl (.inl rfl)) (fun _ _ _ _ _ => pts_nil)
              (fun _ _ _ _ _ => pe_callB (call_lenK (K := K) (by exact rfl)) (by rfl) T.b_len PySem.boot_len (pa_cons (pv 3) pa_nil))) (pv 2) (by rfl))))) (pss_one (ps_ret pe_bl)) pss_nil)
        (pss_cut (ps_for PassesOwn.never rfl (pi_zipA (by rfl) T.b_zip (pa_cons (pe_propC (pv 0) TC.cl kKid hr rfl) (pa_cons (pe_ix ix_tup (pv 1) pe_int (fun _ _ => rfl)) pa_nil))) (pg_tup rfl (pgs_cons (pg_name (i := 3) sc_law_is_tree_like.nd rfl (.inl rfl)) (pgs_cons (pg_name (i := 4) sc_law_is_tree_like.nd rfl (.inl rfl)) pgs_nil)))
          (pss_cons (ps_if (pt_not (pt_val (pe_callB call_isi (by rfl) T.b_isinstance (by decide +kernel) (pa_cons (pv 3) (pa_cons (pe_bltn (v := .ty "tuple") (by rfl) T.b_tuple (by decide +kernel) rfl) pa_nil))))) (pss_one (ps_ret pe_bl)) pss_nil)
          (pss_one (ps_if (pt_cmpR op_in_seq pe_bl (pe_lc (own := [("_law_one", 5), ("_law_other", 6)]) (g := gTup K 2 (gCons (gName 5) (gCons (gName 6) gNil))) (tt := tYes) rfl sc_law_is_tree_like.nd (pi_zipA (by rfl) T.b_zip (pa_cons (pv 3) (pa_cons (pv 4) pa_nil))) (blkOk_by (N := NTL) (sc := defScope s_law_is_tree_like) (by decide +kernel))
              (fun _ _ _ _ _ => pg_tup rfl (pgs_cons (pg_name (i := 5) sc_law_is_tree_like.nd rfl (.inl rfl)) (pgs_cons (pg_name (i := 6) sc_law_is_tree_like.nd rfl (.inl rfl)) pgs_nil))) (fun _ _ _ _ _ => pts_nil)
              (fun _ _ _ _ _ => pe_cal co hr (by rfl) (pa_cons (pv 5) (pa_cons (pv 6) pa_nil)))) (by rfl)) (pss_one (ps_ret pe_bl)) pss_nil))))
        (pss_one (ps_ret pe_bl))))), ?_⟩
      have big : 100000 ≤ sizeLine := by decide
      obtain ⟨dx, wl, cl, das, m, hx, hw, hc, hds⟩ := treeAt_ins hT
      obtain ⟨wl2, cl2, das2, ey, hw2, hc2, hds2⟩ := plAt_parts hP
      have hty : ∀ {G : Hp} {a : Addr} {zs : List V}, SqT K G a zs → TyX K G (.ref a) (.type "tuple") := fun {G a zs} hp => by
        rcases id hp with (h | ⟨o, h⟩) | ⟨o, its, m, h, c, _⟩
        · exact .base (.tup h)
        · exact .fTuple h
        · exact .kTuple h c
      refine ⟨_, rfl, x, dx, _, rfl, hx, x, kx, t, rfl, hT, _, rfl, y, _, _, .int t.key, rfl, rfl, ey, atI_nat (j := 1) rfl, rfl, _, rfl, ?_⟩
      have negk : ∀ {α : Type} [DecidableEq α] (a : α), (!decide (a = a)) = false := fun a => by rw [decide_eq_true rfl]; rfl
      show (if (!decide (V.int t.key = V.int t.key)) = true then _ else _)
      rw [decide_eq_true rfl, if_neg (by decide)]
      have hsh : SeqAt.shaped (.tuple (tD t.way)) = true := shaped_textsT fun z hz => pool_ok (hL.nm z hz)
      have eqv_refl : PyData.eqv (.tuple (tD t.way)) (.tuple (tD t.way)) = true := PySem.SeqAt.eqv_refl _ (PySem.SeqAt.canLay_of_shaped hsh)
      -- the ways
      refine ⟨_, rfl, x, dx, _, rfl, hx, x, kx, t, rfl, hT, fun wl' hw' => ⟨_, rfl, y, _, _, .ref wl2, rfl, rfl, ey, atI_nat (j := 0) rfl, _, _, .tup hw' (dp_texts _), .tup hw2 (dp_texts _), hsh, hsh, ?_⟩⟩
      rw [eqv_refl]
      refine ⟨_, rfl, ?_⟩
      show (if (!true) = true then _ else _)
      rw [if_neg (by decide)]
      -- the kinds
      refine ⟨_, rfl, x, dx, _, rfl, hx, x, kx, t, rfl, hT, hL.ne, _, rfl, y, _, _, .ref wl2, rfl, rfl, ey, atI_nat (j := 0) rfl, _, rfl, wl2, _, _, .str t.kind, rfl, rfl, hw2, last_at hL.ne, rfl, _, rfl, ?_⟩
      show (if (!decide (V.str t.kind = V.str t.kind)) = true then _ else _)
      rw [decide_eq_true rfl, if_neg (by decide)]
      -- the ranks
      refine ⟨_, rfl, x, dx, _, rfl, hx, x, kx, t, rfl, hT, _, rfl, y, _, _, .ref cl2, rfl, rfl, ey, atI_nat (j := 2) rfl, cl2, _, rfl, .inr hc2, rfl, _, rfl, ?_⟩
      have l1 := DgsAt.len _ _ hds
      have l2 := PdAt.len _ _ hds2
      have er : V.int ((t.rank : Nat) : Int) = V.int (((das2.map V.ref).length : Nat) : Int) := by
        rw [List.length_map, l2]
        rfl
      show (if (!decide (V.int ((t.rank : Nat) : Int) = V.int (((das2.map V.ref).length : Nat) : Int))) = true then _ else _)
      rw [decide_eq_true er, if_neg (by decide)]
      have szk := kids_size t
      have ksz := hL.sz
      let zs : List Int := t.kids.list.map fun d => ((d.list.length : Nat) : Int)
      have lzs : zs.length = t.kids.list.length := List.length_map _
      have lkids := hL.kl
      rw [Dgs.len_list] at l1 l2
      -- the sizes of the plain one
      refine ⟨fun σ' G => ∃ D : Addr, σ' = [some (.ref x), some (.ref y), some (.ref D), none, none, none, none] ∧ G D = some (.lst (zs.map V.int)) ∧ Same H G, ?_, ?_⟩
      · refine ⟨_, rfl, y, _, _, .ref cl2, rfl, rfl, ey, atI_nat (j := 2) rfl, cl2, rfl, ⟨_, hc2⟩, fun D hD => ?_⟩
        refine lc_it (g := gName 4) (tt := tYes) (vs := [4]) (walk_tup (K := K) (a := cl2) (xs := das2.map V.ref)) (fun j G => G D = some (.lst ((zs.take j).map V.int)) ∧ Same H G)
          ⟨upd_same, same_new (Same.refl H) hD⟩ (fun j G _ h => sqT_st h.2 hc2) (fun j u Gx G hj h hy => ?_) (fun G h => ?_)
        · obtain ⟨eD, sm⟩ := h
          obtain ⟨rfl, hu⟩ := hy
          obtain ⟨da, hda, rfl⟩ := refs_at' hu
          obtain ⟨d, xs, hdl, hxs, hps⟩ := PdAt.get hds2 hda
          have hz : zs[j]? = some (((xs.map V.ref).length : Nat) : Int) := by
            show (t.kids.list.map _)[j]? = _
            rw [List.getElem?_map, hdl, List.length_map, PsAt.len d xs hps]
            rfl
          refine ⟨rfl, _, rfl, da, _, rfl, .inr (sqT_st sm hxs), _, eD, ?_, ?_, fun b o e => by rw [upd_ne (ne_of_none e hD)]; exact sm b o e⟩
          · rw [List.length_map, List.length_take]
            omega
          · rw [upd_same, take_snoc' hz, List.map_append]
            rfl
        · obtain ⟨eD, sm⟩ := h
          rw [show (das2.map V.ref).length = zs.length by rw [List.length_map, lzs]; exact l2, List.take_length] at eD
          exact ⟨D, rfl, eD, sm⟩
      rintro σ' G ⟨D, rfl, eD, s1⟩
      -- the sizes of the other one
      refine ⟨fun σ' G' => σ' = [some (.ref x), some (.ref y), some (.ref D), none, none, none, none] ∧ Same G G', ?_, ?_⟩
      · have hx1 := s1 _ _ hx
        have hT1 := hT.same s1
        refine ⟨_, rfl, x, dx, _, rfl, hx1, x, kx, t, rfl, hT1, fun cl' das' hc' hds' => ⟨_, .ty "tuple", .type "tuple", .type "tuple", true, rfl, .ty _, hty hc', kit_ty (by decide +kernel), true, rfl, ?_⟩⟩
        show (if (!true) = true then _ else _)
        rw [if_neg (by decide)]
        refine ⟨_, rfl, x, dx, _, rfl, hx1, x, kx, t, rfl, hT1, fun cl3 das3 hc3 hds3 => ⟨cl3, rfl, ⟨_, hc3⟩, fun D2 hD2 => ?_⟩⟩
        refine lc_it (g := gName 3) (tt := tYes) (vs := [3]) (walk_tup (K := K) (a := cl3) (xs := das3.map V.ref)) (fun j G' => G' D2 = some (.lst ((zs.take j).map V.int)) ∧ Same G G')
          ⟨upd_same, same_new (Same.refl G) hD2⟩ (fun j G' _ h => sqT_st h.2 hc3) (fun j u Gx G' hj h hy => ?_) (fun G' h => ?_)
        · obtain ⟨eD2, sm⟩ := h
          obtain ⟨rfl, hu⟩ := hy
          obtain ⟨da, hda, rfl⟩ := refs_at' hu
          obtain ⟨d, xs, hdl, hxs, htr⟩ := DgsAt.get hds3 hda
          have hz : zs[j]? = some (((xs.map V.ref).length : Nat) : Int) := by
            show (t.kids.list.map _)[j]? = _
            rw [List.getElem?_map, hdl, List.length_map, TrsAt.len d xs htr]
            rfl
          refine ⟨rfl, _, rfl, da, _, rfl, .inr (sqT_st sm hxs), _, eD2, ?_, ?_, fun b o e => by rw [upd_ne (ne_of_none e hD2)]; exact sm b o e⟩
          · rw [List.length_map, List.length_take]
            omega
          · rw [upd_same, take_snoc' hz, List.map_append]
            rfl
        · obtain ⟨eD2, sm⟩ := h
          have l3 := DgsAt.len _ _ hds3
          rw [Dgs.len_list] at l3
          rw [show (das3.map V.ref).length = zs.length by rw [List.length_map, lzs]; exact l3, List.take_length] at eD2
          have hshI : SeqAt.shaped (.list (iD zs)) = true := shaped_ints zs
          refine ⟨_, rfl, _, _, .lst (.inl (.inl eD2)) (dp_ints _), .lst (.inl (.inl (sm _ _ eD))) (dp_ints _), hshI, hshI, ?_⟩
          rw [PySem.SeqAt.eqv_refl _ (PySem.SeqAt.canLay_of_shaped hshI)]
          refine ⟨_, rfl, ?_⟩
          show (if (!true) = true then _ else _)
          rw [if_neg (by decide)]
          exact ⟨rfl, sm⟩
      rintro σ' G1 ⟨rfl, s2⟩
      have s02 : Same H G1 := fun b o e => s2 _ _ (s1 _ _ e)
      have hx2 := s02 _ _ hx
      have hT2 := hT.same s02
      -- side by side
      refine ⟨fun σ' G' => (∃ y3 y4, σ' = [some (.ref x), some (.ref y), some (.ref D), y3, y4, none, none]) ∧ Same H G', ?_, ?_⟩
      · refine ⟨_, rfl, x, dx, _, rfl, hx2, x, kx, t, rfl, hT2, fun cl3 das3 hc3 hds3 => ⟨_, rfl, y, _, _, .ref cl2, rfl, rfl, sqT_st s02 ey, atI_nat (j := 2) rfl, cl3, cl2, _, _, rfl, .inr ⟨hc3, sqT_st s02 hc2, ?_⟩⟩⟩
        have l3 := DgsAt.len _ _ hds3
        rw [Dgs.len_list] at l3
        refine for_it (walk_zipT (K := K) (a := cl3) (b := cl2) (xs := das3.map V.ref) (ys := das2.map V.ref) (n := t.kids.list.length) (by rw [List.length_map, List.length_map]; omega)) (fun j σ' G' => (∃ y3 y4, σ' = [some (.ref x), some (.ref y), some (.ref D), y3, y4, none, none]) ∧ Same G1 G') ⟨⟨_, _, rfl⟩, Same.refl G1⟩ (fun j σ' G' _ h => ⟨sqT_st h.2 hc3, sqT_st h.2 (sqT_st s02 hc2)⟩) (fun j u σ' Gx G' hj h hy => ?_) (fun σ' G' h => ⟨h.1, fun b o e => h.2 _ _ (s02 _ _ e)⟩)
        obtain ⟨⟨y3, y4, rfl⟩, sm⟩ := h
        obtain ⟨T0, u1, u2, rfl, nT0, rfl, e1, e2⟩ := hy
        obtain ⟨da, hda, rfl⟩ := refs_at' e1
        obtain ⟨db, hdb, rfl⟩ := refs_at' e2
        have s3 := same_new (o := .tup [.ref da, .ref db]) (Same.refl Gx) nT0
        have eT0 : (upd Gx T0 (.tup [.ref da, .ref db])) T0 = some (.tup [.ref da, .ref db]) := upd_same
        generalize upd Gx T0 (.tup [.ref da, .ref db]) = G3 at s3 eT0
        have s13 : Same G1 G3 := fun b o e => s3 _ _ (sm _ _ e)
        have s03 : Same H G3 := fun b o e => s13 _ _ (s02 _ _ e)
        obtain ⟨d, xs, hdl, hxs, htr⟩ := DgsAt.get hds3 hda
        obtain ⟨d', ys, hdl', hys, hps⟩ := PdAt.get hds2 hdb
        rw [hdl] at hdl'
        cases hdl'
        have l4 := TrsAt.len d xs htr
        have l5 := PsAt.len d ys hps
        have ld := trs_len_size d
        have ld2 := ds_size_get hdl
        refine ⟨T0, _, rfl, .inl (.inl eT0), rfl, _, _, rfl, _, _, rfl, rfl, ?_⟩
        refine ⟨_, rfl, _, .ty "tuple", .type "tuple", .type "tuple", true, rfl, .ty _, hty (sqT_st s13 hxs), kit_ty (by decide +kernel), true, rfl, ?_⟩
        show (if (!true) = true then _ else _)
        rw [if_neg (by decide)]
        refine ⟨_, rfl, _, rfl, da, db, _, _, rfl, .inr ⟨sqT_st s13 hxs, sqT_st s03 hys, fun D3 hD3 => ?_⟩⟩
        refine lc_it (g := gTup K 2 (gCons (gName 5) (gCons (gName 6) gNil))) (tt := tYes) (vs := [5, 6]) (walk_zipT (K := K) (a := da) (b := db) (xs := xs.map V.ref) (ys := ys.map V.ref) (n := d.list.length) (by rw [List.length_map, List.length_map]; omega)) (fun k G4 => G4 D3 = some (.lst ((List.replicate k true).map V.bl)) ∧ Same G3 G4)
          ⟨upd_same, same_new (Same.refl G3) hD3⟩ (fun k G4 _ h => ⟨sqT_st h.2 (sqT_st s13 hxs), sqT_st h.2 (sqT_st s03 hys)⟩) (fun k u Gy G4 hk h hy => ?_) (fun G4 h => ?_)
        · obtain ⟨eD3, s4⟩ := h
          obtain ⟨T1, v1, v2, rfl, nT1, rfl, f1, f2⟩ := hy
          obtain ⟨cx, hcx, rfl⟩ := refs_at' f1
          obtain ⟨cy, hcy, rfl⟩ := refs_at' f2
          have s5 := same_new (o := .tup [.ref cx, .ref cy]) (Same.refl Gy) nT1
          have eT1 : (upd Gy T1 (.tup [.ref cx, .ref cy])) T1 = some (.tup [.ref cx, .ref cy]) := upd_same
          generalize upd Gy T1 (.tup [.ref cx, .ref cy]) = G5 at s5 eT1
          have s15 : Same G1 G5 := fun b o e => s5 _ _ (s4 _ _ (s13 _ _ e))
          have s05 : Same H G5 := fun b o e => s15 _ _ (s02 _ _ e)
          obtain ⟨c, hcl3, hcT⟩ := TrsAt.get (TrsAt.mono (fun _ _ q => sqT_st s15 q) (fun _ _ _ _ e => s15 _ _ e) d xs htr) hcx
          obtain ⟨c', hcl4, hcP⟩ := PsAt.get (PsAt.mono (fun _ _ q => sqT_st s05 q) d ys hps) hcy
          rw [hcl3] at hcl4
          cases hcl4
          obtain ⟨kj, kg⟩ := hL.kg j d hdl c (List.mem_of_getElem? hcl3)
          refine ⟨T1, _, rfl, .inl (.inl eT1), rfl, _, _, rfl, _, _, rfl, rfl, rfl, _, rfl, _, rfl, cx, cy, kx, c, leaf, M, j, rfl, hcT, hcP, hV, grown_lik hV kg (by omega), by omega, by omega, fun G6 s6 => ⟨_, s6 _ _ (s5 _ _ eD3), ?_, ?_, fun b o e => by rw [upd_ne (ne_of_none e hD3)]; exact s6 _ _ (s5 _ _ (s4 b o e))⟩⟩
          · rw [List.length_map, List.length_replicate]
            omega
          · rw [upd_same, reps_snoc]
        · obtain ⟨eD3, s4⟩ := h
          have hfl : ((List.replicate d.list.length true).map V.bl).all flatV = true := by
            rw [List.all_map]
            exact List.all_eq_true.mpr fun _ _ => rfl
          refine ⟨D3, _, rfl, .inl (.inl (.inl eD3)), rfl, hfl, _, rfl, ?_⟩
          have e0 : inV (V.bl false) ((List.replicate d.list.length true).map V.bl) = false := by
            unfold inV
            rw [List.any_map, List.any_eq_false]
            intro b hb
            rw [List.eq_of_mem_replicate hb]
            show ¬ (eqV (V.bl true) (V.bl false) = true)
            decide
          rw [show (if false = true then !inV (V.bl false) ((List.replicate d.list.length true).map V.bl) else inV (V.bl false) ((List.replicate d.list.length true).map V.bl)) = inV (V.bl false) ((List.replicate d.list.length true).map V.bl) from rfl, e0]
          show (if false = true then _ else _)
          rw [if_neg (by decide)]
          exact ⟨⟨_, _, rfl⟩, fun b o e => s4 _ _ (s13 _ _ e)⟩
      rintro σ' G2 ⟨⟨y3, y4, rfl⟩, s3⟩
      exact q G2 s3
end
end Kl

set_option maxRecDepth 100000
set_option maxHeartbeats 4000000
namespace Kl
open PySem PySem.Spec PyProof.Rows L2 Gx Mx
/-! ### all keys of a tree, level by level -/
mutual
theorem Tr.nodes_key : ∀ (t : Tr) (n m : Int), (t.nodes n).map (·.1) = (t.nodes m).map (·.1)
  | .mk w k ds, n, m => by
    rw [Tr.nodes, Tr.nodes, List.map_cons, List.map_cons, Dgs.nodes_key ds (n + 1) (m + 1)]
theorem Dgs.nodes_key : ∀ (ds : Dgs) (n m : Int), (ds.nodes n).map (·.1) = (ds.nodes m).map (·.1)
  | .nil, n, m => by rw [Dgs.nodes, Dgs.nodes]
  | .cons d r, n, m => by rw [Dgs.nodes, Dgs.nodes, List.map_append, List.map_append, Trs.nodes_key d n m, Dgs.nodes_key r n m]
theorem Trs.nodes_key : ∀ (d : Trs) (n m : Int), (d.nodes n).map (·.1) = (d.nodes m).map (·.1)
  | .nil, n, m => by rw [Trs.nodes, Trs.nodes]
  | .cons t r, n, m => by rw [Trs.nodes, Trs.nodes, List.map_append, List.map_append, Tr.nodes_key t n m, Trs.nodes_key r n m]
end
/-- the keys -/
def Tr.ks (t : Tr) : List Int := (t.nodes 0).map (·.1)
/-- the children of every rank -/
def Tr.sons (t : Tr) : List Tr := (t.kids.list.map Trs.list).flatten
def keysL (L : List Tr) : List Int := (L.map Tr.ks).flatten
def sizeL (L : List Tr) : Nat := (L.map Tr.size).sum
theorem Trs.ks (d : Trs) (n : Int) : (d.nodes n).map (·.1) = keysL d.list := by
  rw [Trs.nodes_flat, List.map_flatten, List.map_map]
  unfold keysL
  exact congrArg List.flatten (List.map_congr_left fun t _ => Tr.nodes_key t n 0)
theorem keysL_app (a b : List Tr) : keysL (a ++ b) = keysL a ++ keysL b := by
  unfold keysL
  rw [List.map_append, List.flatten_append]
theorem sizeL_app (a b : List Tr) : sizeL (a ++ b) = sizeL a + sizeL b := by
  unfold sizeL
  rw [List.map_append, List.sum_append]
theorem Dgs.ks : ∀ (ds : Dgs) (n : Int), (ds.nodes n).map (·.1) = keysL ((ds.list.map Trs.list).flatten)
  | .nil, n => by rw [Dgs.nodes]; rfl
  | .cons d r, n => by
    rw [Dgs.nodes, List.map_append, Trs.ks, Dgs.ks r n, ← keysL_app]
    rfl
theorem Dgs.sz : ∀ ds : Dgs, ds.size = sizeL ((ds.list.map Trs.list).flatten)
  | .nil => rfl
  | .cons d r => by
    rw [Dgs.size, Dgs.sz r, Trs.size_sum]
    show sizeL d.list + _ = sizeL (d.list ++ _)
    rw [sizeL_app]
theorem Tr.ks_eq (t : Tr) : t.ks = t.key :: keysL t.sons := by
  cases t with
  | mk w k ds =>
    show ((Tr.mk w k ds).nodes 0).map (·.1) = _
    rw [Tr.nodes, List.map_cons, Dgs.ks]
    rfl
theorem Tr.sz_eq (t : Tr) : t.size = 1 + sizeL t.sons := by
  cases t with
  | mk w k ds =>
    rw [Tr.size, Dgs.sz]
    rfl
theorem level_keys : ∀ L : List Tr, (keysL L).Perm (L.map Tr.key ++ keysL (L.map Tr.sons).flatten)
  | [] => .refl _
  | t :: L => by
    have ih := level_keys L
    show (t.ks ++ keysL L).Perm (t.key :: (L.map Tr.key ++ keysL (t.sons ++ (L.map Tr.sons).flatten)))
    rw [Tr.ks_eq, keysL_app, List.cons_append]
    refine List.Perm.cons _ ?_
    refine ((List.Perm.refl _).append ih).trans ?_
    rw [← List.append_assoc, ← List.append_assoc]
    exact List.perm_append_comm.append (.refl _)
theorem level_size : ∀ L : List Tr, sizeL L = L.length + sizeL (L.map Tr.sons).flatten
  | [] => rfl
  | t :: L => by
    have ih := level_size L
    show t.size + sizeL L = L.length + 1 + sizeL (t.sons ++ (L.map Tr.sons).flatten)
    rw [Tr.sz_eq, sizeL_app, ih]
    omega
theorem keysL_len : ∀ L : List Tr, L.length ≤ sizeL L := fun L => by
  rw [level_size]
  omega
theorem flat_snoc {L : List Tr} {i : Nat} {t : Tr} (h : L[i]? = some t) : (((L.take (i + 1)).map Tr.sons).flatten : List Tr) = ((L.take i).map Tr.sons).flatten ++ t.sons := by
  rw [take_snoc' h, List.map_append, List.flatten_append]
  simp
theorem kids_snoc {t : Tr} {i : Nat} {d : Trs} (h : t.kids.list[i]? = some d) : (((t.kids.list.take (i + 1)).map Trs.list).flatten : List Tr) = ((t.kids.list.take i).map Trs.list).flatten ++ d.list := by
  rw [take_snoc' h, List.map_append, List.flatten_append]
  simp
theorem pref_len {α : Type} (f : α → List Tr) (L : List α) (i : Nat) : (((L.take i).map f).flatten).length ≤ ((L.map f).flatten).length := by
  have e : ((L.map f).flatten) = ((L.take i).map f).flatten ++ ((L.drop i).map f).flatten := by
    rw [← List.flatten_append, ← List.map_append, List.take_append_drop]
  rw [e, List.length_append]
  omega
section
variable {P : Program} {w : World} {K : PySem.W.Frag} {mg : Str → Option Value} {base : Heap}
theorem DgsAt.atl {K : PySem.W.Frag} {C kx : Addr} {G : Hp} {ds : Dgs} {as : List Addr} {l : Addr} {ys : List V} {o : HO} (h : DgsAt K C kx G ds as) (e : G l = some (.lst ys)) : DgsAt K C kx (upd G l o) ds as :=
  DgsAt.mono (fun _ _ q => sqT_atl e q) (fun _ _ _ _ q => by rw [upd_ne (fun z => by rw [z, e] at q; cases q)]; exact q) _ _ h
theorem TrsAt.atl {K : PySem.W.Frag} {C kx : Addr} {G : Hp} {d : Trs} {as : List Addr} {l : Addr} {ys : List V} {o : HO} (h : TrsAt K C kx G d as) (e : G l = some (.lst ys)) : TrsAt K C kx (upd G l o) d as :=
  TrsAt.mono (fun _ _ q => sqT_atl e q) (fun _ _ _ _ q => by rw [upd_ne (fun z => by rw [z, e] at q; cases q)]; exact q) _ _ h
abbrev TrsOn (K : PySem.W.Frag) (C kx : Addr) (G : Hp) (ys : List Addr) (L : List Tr) : Prop := Paired (fun y t => TreeAt K C kx G t y) ys L
/-! ### _keys_in -/
def spKI (K : PySem.W.Frag) (C : Addr) : Sp := fun vs H Q _ => ∃ (x kx : Addr) (t : Tr), vs = [.ref x] ∧ TreeAt K C kx H t x ∧ t.size ≤ 5000 ∧ ∀ (l : Addr) (H' : Hp) (ks : List Int), Same H H' → H' l = some (.lst (ks.map V.int)) → ks.Perm t.ks → Q (.ref l) H'
theorem ok_ki {C f : Addr} {fd : FuncData} (F : Fun K "_keys_in" "_keys_in" s_keys_in f fd) (T : Top K mg) (TC : Cl_Tree K mg C) : FnOk P w K mg base CX0 3 f fd ["tree"] (spKI K C) := by
  have kKey : CalP P w K mg base C "key" 1 (spTKey K C) := TC.p_key.cal fun f fd F => ok_tkey F TC
  have kKid : CalP P w K mg base C "children" 1 (spTKids K C) := TC.p_children.cal fun f fd F => ok_tkids F TC
  refine F.ok sc_keys_in (fun vs H Q E h => ?_) (fun cdv A outer s H vs Q E hr h => ?_)
  · obtain ⟨x, kx, t, rfl, _⟩ := h
    rfl
  · obtain ⟨x, kx, t, rfl, ht, hz, q⟩ := h
    refine ⟨_, pss_cut (ps_set (i := 1) sc_keys_in.nd rfl (.inl rfl) (pe_lst pa_nil))
      (pss_cut (ps_set (i := 2) sc_keys_in.nd rfl (.inl rfl) (pe_lst (pa_cons (pv 0) pa_nil)))
      (pss_cut (ps_while PassesOwn.never (pt_truth (pv 2) (fun _ => rfl))
        (pss_cut (ps_set (i := 1) sc_keys_in.nd rfl (.inl rfl) (pe_op op_cat (pv 1) (pe_lc (own := [("each", 3)]) (g := gName 3) (tt := tYes) rfl sc_keys_in.nd (pi_list (pv 2)) (blkOk_by (N := NKI) (sc := defScope s_keys_in) (by decide +kernel)) (fun _ _ _ _ _ => pg_name (i := 3) sc_keys_in.nd rfl (.inl rfl)) (fun _ _ _ _ _ => pts_nil) (fun _ _ _ _ _ => pe_propC (pv 3) TC.cl kKey hr rfl))))
        (pss_one (ps_asgLc3 (i := 2) (vs1 := [4, 5]) (vs2 := [5]) (g := gName 3) (g1 := gName 4) (g2 := gName 5) (tt := tYes) (tt1 := tYes) (tt2 := tYes) [("each", 3), ("digit", 4), ("child", 5)] (by rfl) sc_keys_in.nd rfl rfl (sw_true rfl rfl rfl (by decide +kernel)) (pi_list (pv 2)) (blkOk_by (N := NKI) (sc := defScope s_keys_in) (by decide +kernel)) (by decide) (by decide)
          (fun _ _ _ _ _ => pg_name (i := 3) sc_keys_in.nd rfl (.inl rfl)) (fun _ _ _ _ _ => pts_nil)
          (fun _ _ _ _ _ => pi_tupK (K := K) (by exact rfl) (pe_propC (pv 3) TC.cl kKid hr rfl)) (fun _ _ _ _ _ => pg_name (i := 4) sc_keys_in.nd rfl (.inl rfl)) (fun _ _ _ _ _ => pts_nil)
          (fun _ _ _ _ _ => pi_tupK (K := K) (by exact rfl) (pv 4)) (fun _ _ _ _ _ => pg_name (i := 5) sc_keys_in.nd rfl (.inl rfl)) (fun _ _ _ _ _ => pts_nil) (fun _ _ _ _ _ => pv 5)))))
      (pss_one (ps_ret (pv 1))))), ?_⟩
    have big : 100000 ≤ sizeLine := by decide
    refine ⟨fun σ' G => ∃ kl : Addr, σ' = [some (.ref x), some (.ref kl), none, none, none, none] ∧ G kl = some (.lst []) ∧ Same H G, ?_, ?_⟩
    · exact ⟨Nat.zero_le _, fun kl nkl => ⟨kl, rfl, upd_same, same_new (Same.refl H) nkl⟩⟩
    rintro σ' G ⟨kl, rfl, ekl, s1⟩
    refine ⟨fun σ' G' => ∃ ll : Addr, σ' = [some (.ref x), some (.ref kl), some (.ref ll), none, none, none] ∧ G' ll = some (.lst [.ref x]) ∧ Same G G', ?_, ?_⟩
    · exact ⟨_, rfl, by show 1 ≤ sizeLine; omega, fun ll nll => ⟨ll, rfl, upd_same, same_new (Same.refl G) nll⟩⟩
    rintro σ' G1 ⟨ll, rfl, ell, s2⟩
    refine ⟨fun σ' G' => ∃ (kl ll : Addr) (ks : List Int), σ' = [some (.ref x), some (.ref kl), some (.ref ll), none, none, none] ∧ G' kl = some (.lst (ks.map V.int)) ∧ ks.Perm t.ks ∧ Same H G', ?_, ?_⟩
    · refine ⟨fun m σ' G' => ∃ (kl ll : Addr) (ks : List Int) (xs : List Addr) (L : List Tr), σ' = [some (.ref x), some (.ref kl), some (.ref ll), none, none, none] ∧ Same H G' ∧ G' kl = some (.lst (ks.map V.int)) ∧ G' ll = some (.lst (xs.map V.ref)) ∧ TrsOn K C kx G' xs L ∧ (ks ++ keysL L).Perm t.ks ∧ ks.length + sizeL L = t.size ∧ m = sizeL L,
        ⟨t.size, kl, ll, [], [x], [t], rfl, fun b o e => s2 _ _ (s1 _ _ e), s2 _ _ ekl, ell, .cons (ht.same fun b o e => s2 _ _ (s1 _ _ e)) .nil, by simp [keysL], by simp [sizeL], by simp [sizeL]⟩, fun m σ' G' h => ?_⟩
      obtain ⟨kl, ll, ks, xs, L, rfl, sm, e1, e2, hP, hper, hsz, rfl⟩ := h
      cases hP with
      | nil =>
        refine ⟨_, rfl, false, .inl ⟨_, .inl (.inl e2), rfl⟩, ?_⟩
        show (if false = true then _ else _)
        rw [if_neg (by decide)]
        refine ⟨kl, ll, ks, rfl, e1, ?_, sm⟩
        have : keysL ([] : List Tr) = [] := rfl
        rw [this, List.append_nil] at hper
        exact hper
      | @cons x0 t0 xr Lr hT0 hPr =>
        have hP : TrsOn K C kx G' (x0 :: xr) (t0 :: Lr) := .cons hT0 hPr
        clear hT0 hPr
        generalize eL : t0 :: Lr = L at hP hper hsz
        generalize eX : x0 :: xr = xs at hP e2
        have neL : 0 < L.length := by rw [← eL]; exact Nat.succ_pos _
        have lxs := Paired.length hP
        have hlev := level_size L
        refine ⟨_, rfl, true, .inl ⟨_, .inl (.inl e2), by rw [← eX]; rfl⟩, ?_⟩
        show (if true = true then _ else _)
        rw [if_pos rfl]
        refine ⟨fun σ' G' => ∃ (kl ll : Addr) (ks' : List Int) (xs' : List Addr), σ' = [some (.ref x), some (.ref kl), some (.ref ll), none, none, none] ∧ Same H G' ∧ G' kl = some (.lst ((ks ++ L.map Tr.key).map V.int)) ∧ G' ll = some (.lst (xs'.map V.ref)) ∧ TrsOn K C kx G' xs' (L.map Tr.sons).flatten,
          fun σ' G' ⟨kl, ll, _, xs', e, s, a, b, c⟩ => ⟨sizeL (L.map Tr.sons).flatten, by omega, kl, ll, _, xs', _, e, s, a, b, c, ?_, ?_, rfl⟩, ?_⟩
        · rw [List.append_assoc]
          exact ((List.Perm.refl ks).append (level_keys L).symm).trans hper
        · rw [List.length_append, List.length_map]
          omega
        refine ⟨fun σ' G2 => ∃ kl2 : Addr, σ' = [some (.ref x), some (.ref kl2), some (.ref ll), none, none, none] ∧ G2 kl2 = some (.lst ((ks ++ L.map Tr.key).map V.int)) ∧ Same G' G2, ?_, ?_⟩
        · refine ⟨_, rfl, _, rfl, ll, rfl, ⟨_, .inl (.inl e2)⟩, fun D hD => ?_⟩
          refine lc_it (g := gName 3) (tt := tYes) (vs := [3]) (walk_list (K := K) (a := ll) (xs := xs.map V.ref)) (fun j G2 => G2 D = some (.lst (((L.map Tr.key).take j).map V.int)) ∧ Same G' G2)
            ⟨upd_same, same_new (Same.refl G') hD⟩ (fun j G2 _ h => .inl (.inl (h.2 _ _ e2))) (fun j u Gx G2 hj h hy => ?_) (fun G2 h => ?_)
          · obtain ⟨eD, s3⟩ := h
            obtain ⟨rfl, hu⟩ := hy
            obtain ⟨y, hy, rfl⟩ := refs_at' hu
            obtain ⟨v, hv, hT⟩ := paired_at hP hy
            have hT := hT.same s3
            obtain ⟨dx, _, _, _, _, hx, _⟩ := treeAt_ins hT
            have hk : (L.map Tr.key)[j]? = some v.key := by rw [List.getElem?_map, hv]; rfl
            refine ⟨rfl, _, rfl, y, dx, _, rfl, hx, y, kx, v, rfl, hT, _, eD, ?_, ?_, fun b o e => by rw [upd_ne (ne_of_none e hD)]; exact s3 b o e⟩
            · rw [List.length_map, List.length_take, List.length_map]
              omega
            · rw [upd_same, take_snoc' hk, List.map_append]
              rfl
          · obtain ⟨eD, s3⟩ := h
            rw [show (xs.map V.ref).length = (L.map Tr.key).length by rw [List.length_map, List.length_map, lxs], List.take_length] at eD
            refine ⟨kl, D, _, _, rfl, rfl, s3 _ _ e1, eD, by rw [List.length_map, List.length_map, List.length_map]; omega, fun p np => ⟨p, rfl, ?_, same_new s3 np⟩⟩
            rw [upd_same, List.map_append]
        rintro σ' G2 ⟨kl2, rfl, ek2, s3⟩
        have hP2 : TrsOn K C kx G2 xs L := L2.Paired.mapP hP fun _ _ q => q.same s3
        have e22 := s3 _ _ e2
        have lall : ((L.map Tr.sons).flatten).length ≤ 5000 := by
          have := keysL_len (L.map Tr.sons).flatten
          omega
        refine ⟨_, rfl, ll, rfl, ⟨_, .inl (.inl e22)⟩, fun D hD => ?_⟩
        refine lc2_it (g := gName 3) (tt := tYes) (vs := [3, 4, 5]) (walk_list (K := K) (a := ll) (xs := xs.map V.ref)) (fun j G3 => ∃ ys : List Addr, G3 D = some (.lst (ys.map V.ref)) ∧ TrsOn K C kx G3 ys ((L.take j).map Tr.sons).flatten ∧ Same G2 G3)
          ⟨[], upd_same, .nil, same_new (Same.refl G2) hD⟩ (fun j G3 _ h => by obtain ⟨_, _, _, s4⟩ := h; exact .inl (.inl (s4 _ _ e22))) (fun j u Gx G3 hj h hy => ?_) (fun G3 h => ?_)
        rotate_left
        · obtain ⟨ys, eD, hY, s4⟩ := h
          rw [show (xs.map V.ref).length = L.length by rw [List.length_map, lxs], List.take_length] at hY
          exact ⟨kl2, D, [], ys, rfl, fun b o e => s4 _ _ (s3 _ _ (sm _ _ e)), s4 _ _ ek2, eD, hY⟩
        obtain ⟨ys, eD, hY, s4⟩ := h
        obtain ⟨rfl, hu⟩ := hy
        obtain ⟨y, hy, rfl⟩ := refs_at' hu
        obtain ⟨v, hv, hT⟩ := paired_at hP2 hy
        have hT := hT.same s4
        obtain ⟨dx, _, _, _, _, hx, _⟩ := treeAt_ins hT
        have fsn := flat_snoc hv
        have pj := pref_len Tr.sons L (j + 1)
        rw [fsn, List.length_append] at pj
        refine ⟨rfl, _, rfl, y, dx, _, rfl, hx, y, kx, v, rfl, hT, fun cl das hcl hds => ⟨cl, rfl, ⟨_, hcl⟩, ?_⟩⟩
        have l1 := DgsAt.len _ _ hds
        rw [Dgs.len_list] at l1
        refine in_it (g := gName 4) (vs := [4, 5]) (walk_tup (K := K) (a := cl) (xs := das.map V.ref)) (fun i G4 => ∃ ys : List Addr, G4 D = some (.lst (ys.map V.ref)) ∧ TrsOn K C kx G4 ys (((L.take j).map Tr.sons).flatten ++ ((v.kids.list.take i).map Trs.list).flatten) ∧ Same G2 G4 ∧ SqT K G4 cl (das.map V.ref) ∧ DgsAt K C kx G4 v.kids das)
          ⟨ys, eD, by simpa using hY, s4, hcl, hds⟩ (fun i G4 _ h => by obtain ⟨_, _, _, _, q, _⟩ := h; exact q) (fun i u Gy G4 hi h hy2 => ?_) (fun G4 h => ?_)
        rotate_left
        · obtain ⟨ys, eD, hY, s5, _, _⟩ := h
          rw [show (das.map V.ref).length = v.kids.list.length by rw [List.length_map, l1], List.take_length] at hY
          refine ⟨ys, eD, ?_, s5⟩
          rw [fsn]
          exact hY
        clear eD hY s4 hcl hds hT hx
        obtain ⟨ys, eD, hY, s5, hcl, hds⟩ := h
        obtain ⟨rfl, hu2⟩ := hy2
        obtain ⟨da, hda, rfl⟩ := refs_at' hu2
        obtain ⟨dg, zs, hdl, hzs, htr⟩ := DgsAt.get hds hda
        have ksn := kids_snoc hdl
        have pi := pref_len Trs.list v.kids.list (i + 1)
        rw [ksn, List.length_append] at pi
        have l2 := TrsAt.len _ _ htr
        refine ⟨rfl, _, rfl, da, rfl, ⟨_, hzs⟩, ?_⟩
        refine in_it (g := gName 5) (vs := [5]) (walk_tup (K := K) (a := da) (xs := zs.map V.ref)) (fun k G5 => ∃ ys : List Addr, G5 D = some (.lst (ys.map V.ref)) ∧ TrsOn K C kx G5 ys (((L.take j).map Tr.sons).flatten ++ ((v.kids.list.take i).map Trs.list).flatten ++ dg.list.take k) ∧ Same G2 G5 ∧ SqT K G5 cl (das.map V.ref) ∧ DgsAt K C kx G5 v.kids das ∧ SqT K G5 da (zs.map V.ref) ∧ TrsAt K C kx G5 dg zs)
          ⟨ys, eD, by simpa using hY, s5, hcl, hds, hzs, htr⟩ (fun k G5 _ h => by obtain ⟨_, _, _, _, _, _, q, _⟩ := h; exact q) (fun k u Gz G5 hk h hy3 => ?_) (fun G5 h => ?_)
        rotate_left
        · obtain ⟨ys, eD, hY, s6, h1, h2, _, _⟩ := h
          rw [show (zs.map V.ref).length = dg.list.length by rw [List.length_map, l2], List.take_length] at hY
          refine ⟨ys, eD, ?_, s6, h1, h2⟩
          rw [ksn, ← List.append_assoc]
          exact hY
        clear eD hY s5 hcl hds hzs htr
        obtain ⟨ys, eD, hY, s6, hcl, hds, hzs, htr⟩ := h
        obtain ⟨rfl, hu3⟩ := hy3
        obtain ⟨z, hz3, rfl⟩ := refs_at' hu3
        obtain ⟨c, hcl3, hcT⟩ := TrsAt.get htr hz3
        refine ⟨rfl, _, rfl, _, eD, ?_, ys ++ [z], ?_, ?_, fun b o e => by rw [upd_ne (ne_of_none e hD)]; exact s6 b o e, sqT_atl eD hcl, hds.atl eD, sqT_atl eD hzs, htr.atl eD⟩
        · have := Paired.length hY
          rw [List.length_append, List.length_append, List.length_take] at this
          rw [List.length_map]
          have hpi2 : ((v.kids.list.map Trs.list).flatten).length = v.sons.length := rfl
          omega
        · rw [upd_same, List.map_append]
          rfl
        · rw [take_snoc' hcl3, ← List.append_assoc]
          exact paired_snoc (L2.Paired.mapP hY fun a b q => q.atl eD) (hcT.atl eD)
    rintro σ' G' ⟨kl, ll, ks, rfl, e1, hper, sm⟩
    exact ⟨_, rfl, q kl G' ks sm e1 hper⟩
end
end Kl

set_option maxRecDepth 100000
set_option maxHeartbeats 4000000
namespace Gx
open PySem PySem.Spec PyProof.Rows L2
/-! ### range(n) as a value, list(range(n)) -/
section
variable {X : Cx}
theorem cr_range1 : CallR X (.type "range") (fun vs H Q => ∃ j, vs = [V.int j] ∧ ∀ p, H p = none → Q (.ref p) (upd H p (.rng 0 j))) := by
  intro pins s σ H vs us Q I r h
  obtain ⟨j, rfl, q⟩ := h
  obtain ⟨u, rfl, rx⟩ := vals1 r
  obtain ⟨t, rfl⟩ := rx
  refine call_range_1 ⟨.ref s.heap.objs.size, upd H s.heap.objs.size (.rng 0 j), I.laid (t' := s.toks + 1 + 1) (fun b o e => Heap.get?_push_of_some _ e) (Nat.le_refl _) ?_, rfl, q _ (I.hok.fresh (Nat.le_refl _))⟩
  exact ⟨s.toks, t, s.toks + 1, Heap.get?_push_size _ rfl⟩
theorem vals_by : ∀ (xs : List V) (us : List Value), xs.length = us.length → (∀ (j : Nat) (x : V) (u : Value), xs[j]? = some x → us[j]? = some u → RelV x u) → Vals xs us
  | [], [], _, _ => .nil
  | [], _ :: _, h, _ => by cases h
  | _ :: _, [], h, _ => by cases h
  | x :: xs, u :: us, h, r => .cons (r 0 x u rfl rfl) (vals_by xs us (Nat.succ.inj h) fun j y v hy hv => r (j + 1) y v hy hv)
theorem call_listRng (hc : X.calm = true) : CallR X (.type "list") (fun vs H Q => ∃ (a : Addr) (n : Nat), vs = [V.ref a] ∧ H a = some (.rng 0 (n : Int)) ∧ n ≤ 100000 ∧ ∀ p, H p = none → Q (.ref p) (upd H p (.lst ((List.range n).map fun i => V.int (i : Nat))))) := by
  intro pins s σ H vs us Q I r h
  obtain ⟨a, n, rfl, ha, hn, q⟩ := h
  rw [Vals.ref1 r]
  obtain ⟨t1, t2, t3, ho⟩ := I.hok a _ ha
  refine PySem.call_list_range (a := 0) (b := (n : Int)) (c := 1) (n := n) (I.ok.hd hc) (show IsRange s.heap a 0 (n : Int) 1 t1 t2 t3 from ho) ?_ ?_ (Nat.le_trans hn (by decide)) fun h' tk acc c hk hS hacc => ?_
  · exact small_one (by decide) (by decide) (by omega) (by omega)
  · rw [rangeSize_one]
    by_cases c : (0 : Int) < (n : Int)
    · rw [if_pos c]
      omega
    · rw [if_neg c]
      omega
  · have len : acc.size = n := hacc.1
    refine ⟨.ref s.heap.objs.size, _, I.laid (t' := tk) hk (Nat.le_refl _) (show ObjOk X.prog X.w _ h' _ (.lst ((List.range n).map fun i => V.int (i : Nat))) from ⟨?_, acc.toList, c, ?_, ?_⟩), rfl, q _ (I.hok.fresh (Nat.le_refl _))⟩
    · rw [List.length_map, List.length_range]
      exact Nat.le_trans hn (by decide)
    · refine vals_by _ _ (by rw [List.length_map, List.length_range, Array.length_toList, len]) fun j x u hx hu => ?_
      rw [List.getElem?_map] at hx
      obtain ⟨i, hi, rfl⟩ := Option.map_eq_some_iff.mp hx
      obtain ⟨h1, h2⟩ := List.getElem?_eq_some_iff.mp hi
      rw [List.getElem_range] at h2
      subst h2
      have hu' : acc[j]? = some u := by rw [← Array.getElem?_toList]; exact hu
      obtain ⟨tk', rfl⟩ := hacc.2 j u hu'
      exact ⟨tk', by rw [Int.zero_add, Int.mul_one]⟩
    · simpa using hS
end
end Gx

set_option maxRecDepth 100000
set_option maxHeartbeats 4000000
/-! ### own rules: range(n) as a value, and its len -/
namespace Gx
open PySem PySem.Spec PySem.Calls PyProof.Rows L2
theorem m_lenR (r : Addr) (a b : Int) (t u v : Tok) (h2 : ¬ Builtin.Range.rangeSize a b 1 ≥ 2 ^ 63) :
    Meets (Builtin.«range.__len__» ⟨[.ref r], []⟩) (fun _ R s => s.heap.get? r = some { cls := .type "range", dict := none, data := .fields #[.int a t, .int b u, .int 1 v], slots := #[] } ∧ R (.ok (.ret (.int (Builtin.Range.rangeSize a b 1) s.toks))) { s with toks := s.toks + 1 }) :=
  .of_wp fun prog w A R s h => by
    obtain ⟨hp, g, d, tk, os⟩ := s
    obtain ⟨hl, h⟩ := h
    wp_walk
    simp only [if_neg h2]
    wp_walk
    exact ⟨_, rfl, h⟩
section
variable {X : Cx}
theorem call_lenR : CallR X (.builtin "len") (fun xs H Q => ∃ (p : Addr) (n : Nat), xs = [.ref p] ∧ H p = some (.rng 0 (n : Nat)) ∧ n ≤ 1000000 ∧ Q (.int (n : Nat)) H) := by
  intro pins s σ H xs us Q I r h
  obtain ⟨p, n, rfl, hp, hn, q⟩ := h
  obtain ⟨u, rfl, rx⟩ := vals1 r
  obtain rfl : u = .ref p := rx
  obtain ⟨t1, t2, t3, ho⟩ := I.hok p _ hp
  have e : Builtin.Range.rangeSize 0 ((n : Nat) : Int) 1 = ((n : Nat) : Int) := by
    unfold Builtin.Range.rangeSize
    rw [if_pos (by decide)]
    by_cases c : (0 : Int) < ((n : Nat) : Int)
    · rw [if_pos c]
      omega
    · rw [if_neg c]
      omega
  refine call_function_entry kind_len plain_len entry_len (args_len1 _) ?_
  unfold Builtin.«len»
  refine wpAny_bind (m := oneArg "len" _) (wpAny_pure ?_)
  refine wpAny_bind (m := callSpecial? (.ref p) (Str.ofString "__len__")) (wpAny_callSpecial?_slot (name := Str.ofString "__len__") ⟨_, ho, rfl⟩ F.slot_range_len
    (call_meets F.slot_range_len ⟨_, ho, rfl⟩ F.entry_range_len (F.args_range_len_1 _) (m_lenR p 0 n t1 t2 t3 (by rw [e]; omega)) ⟨ho, ?_⟩))
  rw [e]
  show wpAny _ _ _ _ _ { s with toks := s.toks + 1 }
  refine wpAny_bind (wpAny_holding (wpAny_pure ?_))
  refine wpAny_bind (wpAny_letGo ?_)
  show wpAny _ _ (if ((n : Nat) : Int) < 0 then _ else _) _ _ _
  rw [if_neg (by omega)]
  show wpAny _ _ (if ((n : Nat) : Int) ≥ 2 ^ 63 then _ else _) _ _ _
  rw [if_neg (by omega)]
  exact wpAny_bind (wpAny_mkInt (wpAny_pure ⟨_, rfl, ⟨.int _, H, (I.tok _).tok _, ⟨_, rfl⟩, q⟩⟩))
end
end Gx

set_option maxRecDepth 100000
set_option maxHeartbeats 4000000
namespace Kl
open PySem PySem.Spec PyProof.Rows L2 Gx Mx
theorem tos_len {n : Int} (h : intV (.int n) = true) : (Str.ofString (toString n)).length ≤ 61 := by
  have et : TEN60 = ((10 ^ 60 : Nat) : Int) := by decide +kernel
  have h : (decide (-TEN60 < n) && decide (n < TEN60)) = true := h
  rw [Bool.and_eq_true, decide_eq_true_eq, decide_eq_true_eq, et] at h
  rw [PySem.ofString_length]
  cases n with
  | ofNat m =>
    show (Nat.repr m).length ≤ 61
    have := (Nat.length_repr_le_iff (n := m) (k := 60) (by decide)).mpr (by have := h.2; simp only [Int.ofNat_eq_natCast] at this; omega)
    omega
  | negSucc m =>
    show ("-" ++ Nat.repr (m + 1)).length ≤ 61
    rw [String.length_append]
    have := (Nat.length_repr_le_iff (n := m + 1) (k := 60) (by decide)).mpr (by have := h.1; omega)
    have e : ("-" : String).length = 1 := rfl
    omega
theorem tos_log {n : Int} (h : intV (.int n) = true) : n.natAbs.log2 < 1920 := by
  have et : TEN60 = ((10 ^ 60 : Nat) : Int) := by decide +kernel
  have h : (decide (-TEN60 < n) && decide (n < TEN60)) = true := h
  rw [Bool.and_eq_true, decide_eq_true_eq, decide_eq_true_eq, et] at h
  by_cases c : n.natAbs = 0
  · rw [c]
    decide
  · refine (Nat.log2_lt c).mpr (Nat.lt_of_lt_of_le (show n.natAbs < 10 ^ 60 by omega) ?_)
    exact Nat.le_trans (show 10 ^ 60 ≤ 2 ^ 200 by decide +kernel) (Nat.pow_le_pow_right (by decide) (by decide))
theorem nat_intV {n : Nat} (h : n ≤ 1000000) : intV (.int (n : Nat)) = true := by
  have et : TEN60 = ((10 ^ 60 : Nat) : Int) := by decide +kernel
  show (decide (-TEN60 < (n : Int)) && decide ((n : Int) < TEN60)) = true
  rw [Bool.and_eq_true, decide_eq_true_eq, decide_eq_true_eq, et]
  have : (1000000 : Nat) < 10 ^ 60 := by decide +kernel
  omega
/-- what str of a tree gives -/
def strT (kind : Str) (rank size : Nat) (key : Int) : Str := ((((((kind ++ " of rank ") ++ Str.ofString (toString (rank : Int))) ++ " with ") ++ Str.ofString (toString (size : Int))) ++ " keys from ") ++ Str.ofString (toString key)) ++ " on"
section
variable {P : Program} {w : World} {K : PySem.W.Frag} {mg : Str → Option Value} {base : Heap}
/-! ### content -/
def spTCon (K : PySem.W.Frag) (C : Addr) : Sp := fun vs H Q _ => ∃ (x kx : Addr) (t : Tr), vs = [.ref x] ∧ TreeAt K C kx H t x ∧ t.size ≤ 5000 ∧ ∀ (p : Addr) (H' : Hp) (ks : List Int), Same H H' → SqT K H' p (ks.map V.int) → ks.Perm t.ks → ks.Pairwise (· ≤ ·) → Q (.ref p) H'
theorem ks_len (t : Tr) : t.ks.length = t.size := by
  have h1 : ∀ L : List Tr, (∀ u ∈ L, u.ks.length = u.size) → (keysL L).length = sizeL L := fun L => by
    induction L with
    | nil => exact fun _ => rfl
    | cons u L ih =>
      intro h
      show (u.ks ++ keysL L).length = u.size + sizeL L
      rw [List.length_append, h u List.mem_cons_self, ih fun v hv => h v (List.mem_cons_of_mem _ hv)]
  have h2 : ∀ (n : Nat) (t : Tr), t.size ≤ n → t.ks.length = t.size := fun n => by
    induction n with
    | zero => exact fun t ht => absurd (Tr.size_pos t) (by omega)
    | succ n ih =>
      intro t ht
      rw [Tr.ks_eq, Tr.sz_eq, List.length_cons, h1 t.sons fun u hu => ih u ?_]
      · omega
      · have e := Tr.sz_eq t
        have hle : u.size ≤ sizeL t.sons := by
          obtain ⟨a, b, e2⟩ := List.append_of_mem hu
          rw [e2, sizeL_app]
          show u.size ≤ _ + (u.size + sizeL b)
          omega
        omega
  exact h2 _ t (Nat.le_refl _)
theorem ok_tcon {C f : Addr} {fd : FuncData} (F : Fun K "content" "Tree.content" s_Tree_content f fd) (T : Top K mg) (TC : Cl_Tree K mg C) : FnOk P w K mg base CX0 4 f fd ["self"] (spTCon K C) := by
  have ck : Cal P w K mg base 3 "_keys_in" ["tree"] (spKI K C) := T.d_keys_in.cal fun f fd F => ok_ki F T TC
  refine F.ok sc_Tree_content (fun vs H Q E h => ?_) (fun cdv A outer s H vs Q E hr h => ?_)
  · obtain ⟨x, kx, t, rfl, _⟩ := h
    rfl
  · obtain ⟨x, kx, t, rfl, ht, hz, q⟩ := h
    refine ⟨_, pss_one (ps_ret (pe_callTy call_tuple_of (by rfl) T.b_tuple (by decide +kernel) (pa_cons (pe_callB cr_sortedI (by rfl) T.b_sorted (by decide +kernel) (pa_cons (pe_cal ck hr (by rfl) (pa_cons (pv 0) pa_nil)) pa_nil)) pa_nil))), ?_⟩
    have lk := ks_len t
    refine ⟨_, rfl, x, kx, t, rfl, ht, hz, fun l H1 ks s1 el hper => ⟨l, ks, rfl, .inl (.inl el), by rw [hper.length_eq, lk]; omega, fun ks' p hper' hsort np => ⟨p, _, rfl, .inl ⟨.inl (.inl upd_same), fun tl ntl => ?_⟩⟩⟩⟩
    have s2 := same_new (o := .lst (ks'.map V.int)) (Same.refl H1) np
    exact q tl _ ks' (fun b o e => (same_new (Same.refl _) ntl) _ _ (s2 _ _ (s1 _ _ e))) (.inl (.inl upd_same)) (hper'.trans hper) hsort
/-! ### in -/
def spTInA (K : PySem.W.Frag) (C : Addr) : Sp := fun vs H Q _ => ∃ (x kx : Addr) (t : Tr) (v : V), vs = [.ref x, v] ∧ TreeAt K C kx H t x ∧ t.size ≤ 5000 ∧ IntArg K H v ∧ ∀ H', Same H H' → Q (.bl (intV v && inV v (t.ks.map V.int))) H'
theorem inV_perm {v : V} {a b : List V} (h : a.Perm b) : inV v a = inV v b := by
  unfold inV
  rw [Bool.eq_iff_iff, List.any_eq_true, List.any_eq_true]
  exact ⟨fun ⟨x, hx, e⟩ => ⟨x, h.mem_iff.mp hx, e⟩, fun ⟨x, hx, e⟩ => ⟨x, h.mem_iff.mpr hx, e⟩⟩
theorem ok_tina {C f : Addr} {fd : FuncData} (F : Fun K "__contains__" "Tree.__contains__" s_Tree_contains f fd) (T : Top K mg) (TC : Cl_Tree K mg C) : FnOk P w K mg base CX0 4 f fd ["self", "value"] (spTInA K C) := by
  have ci : Cal P w K mg base 3 "is_integer" ["value"] (spInt K) := (T.d_is_integer.cal fun f fd F => ok_int F T).mono (by decide)
  have ck : Cal P w K mg base 3 "_keys_in" ["tree"] (spKI K C) := T.d_keys_in.cal fun f fd F => ok_ki F T TC
  refine F.ok sc_Tree_contains (fun vs H Q E h => ?_) (fun cdv A outer s H vs Q E hr h => ?_)
  · obtain ⟨x, kx, t, v, rfl, _⟩ := h
    rfl
  · obtain ⟨x, kx, t, v, rfl, ht, hz, hi, q⟩ := h
    refine ⟨_, pss_one (ps_ret (pe_and (pe_cal ci hr (by rfl) (pa_cons (pv 1) pa_nil)) (pe_one (pe_cmpR op_in_seq (pv 1) (pe_cal ck hr (by rfl) (pa_cons (pv 0) pa_nil)) (by rfl))))), ?_⟩
    refine ⟨_, rfl, v, rfl, hi, _, rfl, ?_⟩
    cases hv : intV v with
    | false =>
      show (if false = true then _ else _)
      rw [if_neg (by decide)]
      have := q H (Same.refl H)
      rw [hv, Bool.false_and] at this
      exact this
    | true =>
      show (if true = true then _ else _)
      rw [if_pos rfl]
      obtain ⟨i, rfl⟩ : ∃ i, v = .int i := by
        cases v with
        | int i => exact ⟨i, rfl⟩
        | _ => cases hv
      have hfl : ∀ ks : List Int, (ks.map V.int).all flatV = true := fun ks => by
        rw [List.all_map]
        exact List.all_eq_true.mpr fun _ _ => rfl
      refine ⟨_, rfl, _, rfl, x, kx, t, rfl, ht, hz, fun l H1 ks s1 el hper => ⟨l, _, rfl, .inl (.inl (.inl el)), rfl, hfl ks, ?_⟩⟩
      have := q H1 s1
      rw [hv, Bool.true_and, ← inV_perm (hper.map V.int)] at this
      exact this
/-! ### len -/
def spTLen (K : PySem.W.Frag) (C : Addr) : Sp := fun vs H Q _ => ∃ (x kx : Addr) (t : Tr), vs = [.ref x] ∧ TreeAt K C kx H t x ∧ t.size ≤ 5000 ∧ ∀ H', Same H H' → Q (.int (t.size : Nat)) H'
theorem ok_tlen {C f : Addr} {fd : FuncData} (F : Fun K "__len__" "Tree.__len__" s_Tree_len f fd) (T : Top K mg) (TC : Cl_Tree K mg C) : FnOk P w K mg base CX0 1 f fd ["self"] (spTLen K C) := by
  refine F.ok sc_Tree_len (fun vs H Q E h => ?_) (fun cdv A outer s H vs Q E hr h => ?_)
  · obtain ⟨x, kx, t, rfl, _⟩ := h
    rfl
  · obtain ⟨x, kx, t, rfl, ht, hz, q⟩ := h
    refine ⟨_, pss_one (ps_ret (pe_callB call_lenR (by rfl) T.b_len PySem.boot_len (pa_cons (pe_callTy cr_range1 (by rfl) T.b_range (by decide +kernel) (pa_cons (pe_fld (pv 0) rfl) pa_nil)) pa_nil))), ?_⟩
    cases t with
    | mk way key ds =>
      have hz2 : 1 + ds.size ≤ 5000 := by rw [Tr.size] at hz; exact hz
      unfold TreeAt at ht
      obtain ⟨dx, wl, cl, das, hx, _⟩ := ht
      refine ⟨_, rfl, x, C, dx, _, _, rfl, hx, TC.cl, TC.n_size, tf_size _ _ _ _ _, _, rfl, fun p np => ⟨p, _, rfl, upd_same, by omega, ?_⟩⟩
      exact q _ (same_new (Same.refl H) np)
/-! ### str -/
def spTStr (K : PySem.W.Frag) (C : Addr) : Sp := fun vs H Q _ => ∃ (x kx : Addr) (t : Tr), vs = [.ref x] ∧ TreeAt K C kx H t x ∧ t.size ≤ 5000 ∧ t.way ≠ [] ∧ t.kind.length ≤ 1000 ∧ t.rank ≤ 1000 ∧ intV (.int t.key) = true ∧ Q (.str (strT t.kind t.rank t.size t.key)) H
theorem ok_tstr {C f : Addr} {fd : FuncData} (F : Fun K "__str__" "Tree.__str__" s_Tree_str f fd) (T : Top K mg) (TC : Cl_Tree K mg C) : FnOk P w K mg base CX0 3 f fd ["self"] (spTStr K C) := by
  have kKind : CalP P w K mg base C "kind" 1 (spTKind K C) := TC.p_kind.cal fun f fd F => ok_tkind F TC
  have kRank : CalP P w K mg base C "rank" 1 (spTRank K C) := TC.p_rank.cal fun f fd F => ok_trank F T TC
  refine F.ok sc_Tree_str (fun vs H Q E h => ?_) (fun cdv A outer s H vs Q E hr h => ?_)
  · obtain ⟨x, kx, t, rfl, _⟩ := h
    rfl
  · obtain ⟨x, kx, t, rfl, ht, hz, hw, hkl, hrk, hk, q⟩ := h
    refine ⟨_, pss_one (ps_ret (pe_joinedN (.cons (pe_fmt (pe_propC (pv 0) TC.cl kKind hr rfl)) (.cons pe_str (.cons (pe_fmt (pe_propC (pv 0) TC.cl kRank hr rfl)) (.cons pe_str (.cons (pe_fmt (pe_fld (pv 0) rfl)) (.cons pe_str (.cons (pe_fmt (pe_fld (pv 0) rfl)) (.cons pe_str .nil)))))))))), ?_⟩
    have big : 100000 ≤ sizeLine := by decide
    cases t with
    | mk way key ds =>
      have hz2 : 1 + ds.size ≤ 5000 := by rw [Tr.size] at hz; exact hz
      have ht2 := ht
      unfold TreeAt at ht2
      obtain ⟨dx, wl, cl, das, hx, _⟩ := ht2
      have k1 : (" of rank " : Str).length = 9 := rfl
      have k2 : (" with " : Str).length = 6 := rfl
      have k3 : (" keys from " : Str).length = 11 := rfl
      have k4 : (" on" : Str).length = 3 := rfl
      have hs : intV (.int (((1 + ds.size : Nat)) : Int)) = true := nat_intV (by omega)
      have hr2 := nat_intV (n := (Tr.mk way key ds).rank) (by omega)
      have t1 := tos_len hr2
      have t2 := tos_len hs
      have t3 : (Str.ofString (toString key)).length ≤ 61 := tos_len hk
      refine ⟨_, rfl, x, dx, _, rfl, hx, x, kx, _, rfl, ht, hw, .inl ⟨_, rfl, by omega, _, rfl, by simp only [empty_app]; omega, _, rfl, by simp only [empty_app, len_app]; omega, _, rfl, x, dx, _, rfl, hx, x, kx, _, rfl, ht, .inr ⟨_, rfl, tos_log hr2, _, rfl, by simp only [empty_app, len_app]; omega, _, rfl, by simp only [empty_app, len_app]; omega, _, rfl, x, C, dx, _, _, rfl, hx, TC.cl, TC.n_size, tf_size _ _ _ _ _, .inr ⟨_, rfl, tos_log hs, _, rfl, by simp only [empty_app, len_app]; omega, _, rfl, by simp only [empty_app, len_app]; omega, _, rfl, x, C, dx, _, _, rfl, hx, TC.cl, TC.n_key, tf_key _ _ _ _ _, .inr ⟨_, rfl, tos_log hk, _, rfl, by simp only [empty_app, len_app]; omega, _, rfl, by simp only [empty_app, len_app]; omega, ?_⟩⟩⟩⟩⟩
      rw [empty_app]
      exact q
end
end Kl

set_option maxRecDepth 100000
set_option maxHeartbeats 4000000
namespace Kl
open PySem PySem.Spec PyProof.Rows L2 Gx Mx
theorem gsc_nodes_of : GScope ["tree", "waiting", "here", "depth", "below", "digit", "child"] ["tree"] (defScope s_nodes_of) := ⟨rfl, rfl, rfl, by decide +kernel, rfl, by decide +kernel, by decide +kernel⟩
theorem paired_rev {α β : Type} {R : α → β → Prop} {xs : List α} {ys : List β} (h : Paired R xs ys) : Paired R xs.reverse ys.reverse := by
  induction h with
  | nil => exact .nil
  | cons h _ ih =>
    rw [List.reverse_cons, List.reverse_cons]
    exact paired_snoc ih h
theorem paired_unsnoc {α β : Type} {R : α → β → Prop} : ∀ {xs : List α} {ys : List β} {a : α} {b : β}, Paired R (xs ++ [a]) (ys ++ [b]) → Paired R xs ys ∧ R a b
  | [], [], _, _, h => by
    cases h with
    | cons h _ => exact ⟨.nil, h⟩
  | [], y :: ys, _, _, h => by
    have := Paired.length h
    simp at this
  | x :: xs, [], _, _, h => by
    have := Paired.length h
    simp at this
  | x :: xs, y :: ys, _, _, h => by
    cases (show Paired R (x :: (xs ++ [_])) (y :: (ys ++ [_])) from h) with
    | cons h1 h2 =>
      obtain ⟨a1, a2⟩ := paired_unsnoc h2
      exact ⟨.cons h1 a1, a2⟩
/-- a tree and its depth, as a tuple -/
def EntAt (K : PySem.W.Frag) (C kx : Addr) (G : Hp) (p : Addr) (q : Tr × Int) : Prop := ∃ a : Addr, SqT K G p [.ref a, .int q.2] ∧ TreeAt K C kx G q.1 a
theorem EntAt.st {K : PySem.W.Frag} {C kx : Addr} {G G' : Hp} {p : Addr} {q : Tr × Int} (h : EntAt K C kx G p q) (s : Same G G') : EntAt K C kx G' p q := by
  obtain ⟨a, h1, h2⟩ := h
  exact ⟨a, sqT_st s h1, h2.same s⟩
theorem EntAt.atl {K : PySem.W.Frag} {C kx : Addr} {G : Hp} {p l : Addr} {q : Tr × Int} {ys : List V} {o : HO} (h : EntAt K C kx G p q) (e : G l = some (.lst ys)) : EntAt K C kx (upd G l o) p q := by
  obtain ⟨a, h1, h2⟩ := h
  exact ⟨a, sqT_atl e h1, h2.atl e⟩
/-- the nodes that a stack still holds: its last entry comes first -/
def nodesS (L : List (Tr × Int)) : List (Int × Int) := (L.reverse.map fun q => q.1.nodes q.2).flatten
def sizeS (L : List (Tr × Int)) : Nat := (L.map fun q => q.1.size).sum
theorem sizeS_app (a b : List (Tr × Int)) : sizeS (a ++ b) = sizeS a + sizeS b := by
  unfold sizeS
  rw [List.map_append, List.sum_append]
theorem sizeS_len (L : List (Tr × Int)) : L.length ≤ sizeS L := by
  induction L with
  | nil => exact Nat.zero_le _
  | cons q L ih =>
    have := Tr.size_pos q.1
    show L.length + 1 ≤ q.1.size + sizeS L
    omega
theorem nodesS_snoc (L : List (Tr × Int)) (q : Tr × Int) : nodesS (L ++ [q]) = q.1.nodes q.2 ++ nodesS L := by
  unfold nodesS
  rw [List.reverse_append]
  rfl
theorem Dgs.nodes_sons (ds : Dgs) (n : Int) : ds.nodes n = (((ds.list.map Trs.list).flatten).map fun t => t.nodes n).flatten := by
  rw [Dgs.nodes_flat, List.map_flatten, List.map_map, List.flatten_flatten, List.map_map]
  exact congrArg List.flatten (List.map_congr_left fun d _ => Trs.nodes_flat n d)
theorem nodesS_kids (L : List (Tr × Int)) (v : Tr) (d : Int) : nodesS (L ++ (v.sons.map fun c => (c, d + 1)).reverse) = v.kids.nodes (d + 1) ++ nodesS L := by
  unfold nodesS
  rw [List.reverse_append, List.reverse_reverse, List.map_append, List.flatten_append, List.map_map, Dgs.nodes_sons]
  rfl
theorem sizeS_kids (L : List (Tr × Int)) (v : Tr) (d : Int) : sizeS (L ++ (v.sons.map fun c => (c, d + 1)).reverse) + 1 = sizeS L + v.size := by
  have e : sizeS (v.sons.map fun c => (c, d + 1)).reverse = sizeL v.sons := by
    unfold sizeS sizeL
    rw [List.map_reverse, List.sum_reverse, List.map_map]
    rfl
  rw [sizeS_app, e, Tr.sz_eq]
  omega
theorem nodes_cons (v : Tr) (d : Int) : v.nodes d = (v.key, d) :: v.kids.nodes (d + 1) := by
  cases v with
  | mk w k ds =>
    rw [Tr.nodes]
    rfl
section
variable {P : Program} {w : World} {K : PySem.W.Frag} {mg : Str → Option Value} {base : Heap}
/-! ### nodes_of, within list(..) -/
abbrev NNO : List Str := ["tree", "waiting", "here", "depth", "below", "digit", "child"]
/-- the nodes, as tuples -/
abbrev NdOn (K : PySem.W.Frag) (G : Hp) (rs : List Addr) (ns : List (Int × Int)) : Prop := Paired (fun r (kd : Int × Int) => SqT K G r [.int kd.1, .int kd.2]) rs ns
def spNO (K : PySem.W.Frag) (C : Addr) : SpG := fun vs H Q _ => ∃ (x kx : Addr) (t : Tr), vs = [.ref x] ∧ TreeAt K C kx H t x ∧ t.size ≤ 5000 ∧ ∀ (rs : List Addr) (H' : Hp), Same H H' → NdOn K H' rs (t.nodes 0) → Q (rs.map V.ref) H'
theorem ok_no {C f : Addr} {fd : FuncData} (F : Fun K "nodes_of" "nodes_of" s_nodes_of f fd) (T : Top K mg) (TC : Cl_Tree K mg C) : GFn P w K mg base 4 f fd ["tree"] (spNO K C) := by
  have kKey : CalP P w K mg base C "key" 1 (spTKey K C) := TC.p_key.cal fun f fd F => ok_tkey F TC
  have kKid : CalP P w K mg base C "children" 1 (spTKids K C) := TC.p_children.cal fun f fd F => ok_tkids F TC
  obtain ⟨oc, od, kV, doc, pm, an, cdv, ct, osl, rfl, lk, hcd⟩ := F.ex
  refine gfn_of (k := 3) lk hcd gsc_nodes_of (fun vs H Q E h => ?_) (fun A outer s H vs Q E pn hr h => ?_)
  · obtain ⟨x, kx, t, rfl, _⟩ := h
    rfl
  · obtain ⟨x, kx, t, rfl, ht, hz, q⟩ := h
    have r2 := hr.mono (show 2 ≤ 3 by decide)
    refine ⟨_, gss_cons (gs_ps (ps_if (pt_not (pt_val (pe_callB call_isi (by rfl) T.b_isinstance (by decide +kernel) (pa_cons (pv 0) (pa_cons (pe_glob (v := .ref C) (by rfl) TC.gC rfl) pa_nil))))) (pss_one ps_never) pss_nil))
      (gss_cons (gs_ps (ps_set (i := 1) gsc_nodes_of.nd rfl (.inl rfl) (pe_lst (pa_cons (pe_tup (pa_cons (pv 0) (pa_cons pe_int pa_nil))) pa_nil))))
      (gss_cons (gs_while owns_gcx (pt_truth (pv 1) (fun _ => rfl))
        (gss_cons (gs_ps (ps_asg (pe_bm0 PySem.F.plainAttrs_list PySem.F.slot_list_pop PySem.F.type_list_pop mt_pop (pv 1)) (pg_tup (n := 2) rfl (pgs_cons (pg_name (i := 2) gsc_nodes_of.nd rfl (.inl rfl)) (pgs_cons (pg_name (i := 3) gsc_nodes_of.nd rfl (.inr rfl)) pgs_nil)))))
        (gss_cons (gs_yield (pe_tup (pa_cons (pe_propC (pv 2) TC.cl kKey r2 rfl) (pa_cons (pv 3) pa_nil))))
        (gss_cons (gs_ps (ps_setLc2 (i := 4) (vs1 := [6]) (own := [("digit", 5), ("child", 6)]) (g := gName 5) (g1 := gName 6) (tt := tYes) (tt1 := tYes) (by rfl) gsc_nodes_of.nd rfl rfl (sw_true rfl rfl rfl (by decide +kernel)) (pi_tup (pe_propC (pv 2) TC.cl kKid r2 rfl)) (blkOk_by (N := NNO) (sc := defScope s_nodes_of) (by decide +kernel)) (by decide)
            (fun _ _ _ _ _ => pg_name (i := 5) gsc_nodes_of.nd rfl (.inl rfl)) (fun _ _ _ _ _ => pts_nil) (fun _ _ _ _ _ => pi_tupK (K := K) (by exact rfl) (pv 5)) (fun _ _ _ _ _ => pg_name (i := 6) gsc_nodes_of.nd rfl (.inl rfl)) (fun _ _ _ _ _ => pts_nil)
            (fun _ _ _ _ _ => pe_tup (pa_cons (pv 6) (pa_cons (pe_op op_add (pv 3) pe_int) pa_nil)))))
        (gss_cons (gs_ps (ps_expr (pe_bm PySem.F.plainAttrs_list PySem.F.slot_list_extend PySem.F.type_list_extend mt_extend (pv 1) (pa_cons (pe_revL (pv 4)) pa_nil)))) gss_nil)))))
      gss_nil)), ?_⟩
    have big : 100000 ≤ sizeLine := by decide
    obtain ⟨dx, _, _, _, _, hx, _⟩ := treeAt_ins ht
    refine ⟨_, rfl, _, _, .ref C, .ref C, true, rfl, .own C, .base (.ins hx TC.cl TC.ca TC.cg TC.ct TC.ob), TC.kit, true, rfl, ?_⟩
    show (if (!true) = true then _ else _)
    rw [if_neg (by decide)]
    refine ⟨_, rfl, by show 2 ≤ sizeLine; omega, fun t0 nt0 => ?_⟩
    have s1 := same_new (o := .tup [.ref x, .int 0]) (Same.refl H) nt0
    have e1 : (upd H t0 (.tup [.ref x, .int 0])) t0 = some (.tup [.ref x, .int 0]) := upd_same
    generalize upd H t0 (.tup [.ref x, .int 0]) = G1 at s1 e1
    refine ⟨by show 1 ≤ sizeLine; omega, fun wl nwl => ?_⟩
    have s2 := same_new (o := .lst [.ref t0]) (Same.refl G1) nwl
    have ewl : (upd G1 wl (.lst [.ref t0])) wl = some (.lst [.ref t0]) := upd_same
    have nwH : H wl = none := s1.free nwl
    generalize upd G1 wl (.lst [.ref t0]) = G2 at s2 ewl
    have s02 : Same H G2 := fun b o e => s2 _ _ (s1 _ _ e)
    refine ⟨fun m ys σ G => ∃ (rs ps : List Addr) (dn : List (Int × Int)) (L : List (Tr × Int)) (y2 y3 y4 : Option V), σ = [some (.ref x), some (.ref wl), y2, y3, y4, none, none] ∧ ys = rs.map V.ref ∧ Same H G ∧ G wl = some (.lst (ps.map V.ref)) ∧ Paired (EntAt K C kx G) ps L ∧ NdOn K G rs dn ∧ dn ++ nodesS L = t.nodes 0 ∧ dn.length + sizeS L = t.size ∧ m = sizeS L,
      ⟨t.size, [], [t0], [], [(t, 0)], _, _, _, rfl, rfl, s02, ewl, .cons ⟨x, sqT_st s2 (.inl (.inl e1)), ht.same s02⟩ .nil, .nil, by simp [nodesS], by simp [sizeS], by simp [sizeS]⟩, fun m ys σ G h => ?_⟩
    obtain ⟨rs, ps, dn, L, y2, y3, y4, rfl, rfl, sm, ew, hP, hN, hnd, hsz, rfl⟩ := h
    rcases List.eq_nil_or_concat L with rfl | ⟨L0, q0, rfl⟩
    · cases hP
      refine ⟨_, rfl, false, .inl ⟨_, .inl (.inl ew), rfl⟩, ?_⟩
      show (if false = true then _ else _)
      rw [if_neg (by decide)]
      have : nodesS ([] : List (Tr × Int)) = [] := rfl
      rw [this, List.append_nil] at hnd
      rw [hnd] at hN
      exact q rs G sm hN
    · rw [List.concat_eq_append] at hP hnd hsz ⊢
      obtain ⟨v, d⟩ := q0
      have lps := Paired.length hP
      rw [List.length_append] at lps
      obtain ⟨ps0, p0, rfl⟩ : ∃ ps0 p0, ps = ps0 ++ [p0] := by
        rcases List.eq_nil_or_concat ps with rfl | ⟨a, b, rfl⟩
        · cases lps
        · exact ⟨a, b, List.concat_eq_append⟩
      obtain ⟨hP0, hp0⟩ := paired_unsnoc hP
      refine ⟨_, rfl, true, .inl ⟨_, .inl (.inl ew), by rw [List.map_append]; cases ps0 <;> rfl⟩, ?_⟩
      show (if true = true then _ else _)
      rw [if_pos rfl]
      obtain ⟨a0, hp1, hT⟩ := hp0
      have ew1 : G wl = some (.lst (ps0.map V.ref ++ [V.ref p0])) := by rw [ew, List.map_append]; rfl
      have hvs := nodesS_snoc L0 (v, d)
      have hss := sizeS_app L0 [(v, d)]
      have hs1 : sizeS [(v, d)] = v.size := by simp [sizeS]
      have hv1 := Tr.size_pos v
      have hl0 := sizeS_len L0
      have lN := Paired.length hN
      have lP := Paired.length hP0
      rw [hvs, nodes_cons] at hnd
      -- popped
      refine ⟨fun ys' σ' G' => ∃ (rs ps : List Addr) (dn : List (Int × Int)) (L : List (Tr × Int)) (y2 y3 y4 : Option V), σ' = [some (.ref x), some (.ref wl), y2, y3, y4, none, none] ∧ ys' = rs.map V.ref ∧ Same H G' ∧ G' wl = some (.lst (ps.map V.ref)) ∧ Paired (EntAt K C kx G') ps L ∧ NdOn K G' rs dn ∧ dn ++ nodesS L = t.nodes 0 ∧ dn.length + sizeS L = t.size ∧ sizeS L < sizeS (L0 ++ [(v, d)]),
        fun ys' σ' G' ⟨rs, ps, dn, L, y2, y3, y4, a1, a2, a3, a4, a5, a6, a7, a8, a9⟩ => ⟨_, a9, rs, ps, dn, L, y2, y3, y4, a1, a2, a3, a4, a5, a6, a7, a8, rfl⟩, ?_⟩
      refine ⟨_, rfl, .inl ⟨rfl, _, .inl (.inl ew1)⟩, wl, _, .ref p0, rfl, rfl, ew1, by simp, ?_⟩
      rw [List.dropLast_concat]
      have sm1 : Same H (upd G wl (.lst (ps0.map V.ref))) := fun b o e => by rw [upd_ne (ne_of_none e nwH)]; exact sm b o e
      have ew2 : (upd G wl (.lst (ps0.map V.ref))) wl = some (.lst (ps0.map V.ref)) := upd_same
      have hP1 := L2.Paired.mapP hP0 (G := EntAt K C kx (upd G wl (.lst (ps0.map V.ref)))) fun _ _ q => q.atl ew
      have hN1 : NdOn K (upd G wl (.lst (ps0.map V.ref))) rs dn := L2.Paired.mapP hN fun _ _ q => sqT_atl ew q
      have hT1 : TreeAt K C kx (upd G wl (.lst (ps0.map V.ref))) v a0 := hT.atl ew
      have hp2 := sqT_atl (o := .lst (ps0.map V.ref)) ew hp1
      generalize upd G wl (.lst (ps0.map V.ref)) = J1 at sm1 ew2 hP1 hN1 hT1 hp2
      obtain ⟨dv, _, _, _, _, hv, _⟩ := treeAt_ins hT1
      refine ⟨p0, _, rfl, hp2, rfl, _, _, rfl, _, _, rfl, rfl, ?_⟩
      -- yielded
      refine ⟨by rw [List.length_map]; omega, _, rfl, a0, dv, _, rfl, hv, a0, kx, v, rfl, hT1, _, rfl, by show 2 ≤ sizeLine; omega, fun r nr => ?_⟩
      have s3 := same_new (o := .tup [.int v.key, .int d]) (Same.refl J1) nr
      have er : (upd J1 r (.tup [.int v.key, .int d])) r = some (.tup [.int v.key, .int d]) := upd_same
      generalize upd J1 r (.tup [.int v.key, .int d]) = J2 at s3 er
      have hT2 := hT1.same s3
      have hv2 := s3 _ _ hv
      -- the children
      refine ⟨_, rfl, a0, dv, _, rfl, hv2, a0, kx, v, rfl, hT2, fun cl das hcl hds => ⟨cl, rfl, ⟨_, hcl⟩, fun D hD => ?_⟩⟩
      have l1 := DgsAt.len _ _ hds
      rw [Dgs.len_list] at l1
      have lsz := keysL_len v.sons
      have lsz2 := Tr.sz_eq v
      refine lc2_it (g := gName 5) (tt := tYes) (vs := [5, 6]) (walk_tup (K := K) (a := cl) (xs := das.map V.ref)) (fun j G3 => ∃ zs : List Addr, G3 D = some (.lst (zs.map V.ref)) ∧ Paired (EntAt K C kx G3) zs ((((v.kids.list.take j).map Trs.list).flatten).map fun c => (c, d + 1)) ∧ Same J2 G3)
        ⟨[], upd_same, .nil, same_new (Same.refl J2) hD⟩ (fun j G3 _ h => by obtain ⟨_, _, _, s4⟩ := h; exact sqT_st s4 hcl) (fun j u Gx G3 hj h hy => ?_) (fun G3 h => ?_)
      · obtain ⟨zs, eD, hZ, s4⟩ := h
        obtain ⟨rfl, hu⟩ := hy
        obtain ⟨da, hda, rfl⟩ := refs_at' hu
        obtain ⟨dg, ws, hdl, hws, htr⟩ := DgsAt.get hds hda
        have ksn := kids_snoc hdl
        have pi := pref_len Trs.list v.kids.list (j + 1)
        rw [ksn, List.length_append] at pi
        have l2 := TrsAt.len _ _ htr
        refine ⟨rfl, _, rfl, da, rfl, ⟨_, sqT_st s4 hws⟩, ?_⟩
        refine in_it (g := gName 6) (vs := [6]) (walk_tup (K := K) (a := da) (xs := ws.map V.ref)) (fun k G4 => ∃ zs : List Addr, G4 D = some (.lst (zs.map V.ref)) ∧ Paired (EntAt K C kx G4) zs ((((v.kids.list.take j).map Trs.list).flatten ++ dg.list.take k).map fun c => (c, d + 1)) ∧ Same J2 G4)
          ⟨zs, eD, by simpa using hZ, s4⟩ (fun k G4 _ h => by obtain ⟨_, _, _, s5⟩ := h; exact sqT_st s5 hws) (fun k u Gz G4 hk h hy3 => ?_) (fun G4 h => ?_)
        · obtain ⟨zs, eD, hZ, s5⟩ := h
          obtain ⟨rfl, hu3⟩ := hy3
          obtain ⟨z, hz3, rfl⟩ := refs_at' hu3
          obtain ⟨c, hcl3, hcT⟩ := TrsAt.get (TrsAt.mono (fun _ _ q => sqT_st s5 q) (fun _ _ _ _ e => s5 _ _ e) _ _ htr) hz3
          refine ⟨rfl, _, rfl, _, rfl, _, _, rfl, rfl, by show 2 ≤ sizeLine; omega, fun p np => ?_⟩
          have s6 := same_new (o := .tup [.ref z, .int (d + 1)]) (Same.refl G4) np
          have ep : (upd G4 p (.tup [.ref z, .int (d + 1)])) p = some (.tup [.ref z, .int (d + 1)]) := upd_same
          generalize upd G4 p (.tup [.ref z, .int (d + 1)]) = G5 at s6 ep
          have eD5 := s6 _ _ eD
          refine ⟨_, eD5, ?_, zs ++ [p], by rw [upd_same, List.map_append]; rfl, ?_, fun b o e => by rw [upd_ne (ne_of_none e hD)]; exact s6 _ _ (s5 b o e)⟩
          · have := Paired.length hZ
            rw [List.length_map, List.length_append, List.length_take] at this
            rw [List.length_map]
            have hpi2 : ((v.kids.list.map Trs.list).flatten).length = v.sons.length := rfl
            omega
          · rw [take_snoc' hcl3, ← List.append_assoc, List.map_append]
            exact paired_snoc (L2.Paired.mapP hZ fun a b q => (q.st s6).atl eD5) ((show EntAt K C kx G5 p (c, d + 1) from ⟨z, .inl (.inl ep), hcT.same s6⟩).atl eD5)
        · obtain ⟨zs, eD, hZ, s5⟩ := h
          rw [show (ws.map V.ref).length = dg.list.length by rw [List.length_map, l2], List.take_length] at hZ
          refine ⟨zs, eD, ?_, s5⟩
          rw [ksn]
          exact hZ
      · obtain ⟨zs, eD, hZ, s4⟩ := h
        rw [show (das.map V.ref).length = v.kids.list.length by rw [List.length_map, l1], List.take_length] at hZ
        have hZ : Paired (EntAt K C kx G3) zs (v.sons.map fun c => (c, d + 1)) := hZ
        have lz := Paired.length hZ
        rw [List.length_map] at lz
        have ew3 := s4 _ _ (s3 _ _ ew2)
        refine ⟨_, rfl, .inl ⟨rfl, _, .inl (.inl ew3)⟩, _, rfl, D, _, rfl, .inl (.inl eD), fun b nb => ?_⟩
        have s6 := same_new (o := .lst (zs.map V.ref).reverse) (Same.refl G3) nb
        have eb : (upd G3 b (.lst (zs.map V.ref).reverse)) b = some (.lst (zs.map V.ref).reverse) := upd_same
        generalize upd G3 b (.lst (zs.map V.ref).reverse) = G6 at s6 eb
        have ew6 := s6 _ _ ew3
        refine ⟨wl, b, _, _, rfl, rfl, ew6, eb, by rw [List.length_map, List.length_reverse, List.length_map]; omega, ?_⟩
        have s36 : Same J1 G6 := fun b o e => s6 _ _ (s4 _ _ (s3 _ _ e))
        refine ⟨rs ++ [r], ps0 ++ zs.reverse, dn ++ [(v.key, d)], L0 ++ (v.sons.map fun c => (c, d + 1)).reverse, _, _, _, rfl, by rw [List.map_append]; rfl, fun b o e => by rw [upd_ne (ne_of_none e nwH)]; exact s36 _ _ (sm1 b o e), by rw [upd_same, List.map_append, List.map_reverse], ?_, ?_, ?_, ?_, ?_⟩
        · exact paired_app (L2.Paired.mapP hP1 fun _ _ q => (q.st s36).atl ew6) (paired_rev (L2.Paired.mapP hZ fun _ _ q => (q.st s6).atl ew6))
        · exact paired_snoc (L2.Paired.mapP hN1 fun _ _ q => sqT_atl ew6 (sqT_st s36 q)) (sqT_atl ew6 (.inl (.inl (s6 _ _ (s4 _ _ er)))))
        · rw [nodesS_kids, List.append_assoc]
          exact hnd
        · have := sizeS_kids L0 v d
          rw [List.length_append, List.length_singleton]
          omega
        · have := sizeS_kids L0 v d
          omega
end
end Kl

set_option maxRecDepth 100000
set_option maxHeartbeats 4000000
namespace Gx
open PySem PySem.Spec PySem.Calls PyProof.Rows L2 LamX
/-! ### a lambda with one parameter, called somewhere below the body (its closure is empty) -/
section
variable {X : Cx} {pins : List (Addr × Obj)} {σ : L2.St} {H : Hp} {s : Shared}
theorem run_lam1 {A : Around} {f c' : Addr} {q y : Str} {params : Arguments} {body : Expr} {scope : Scope} {pm ctv u : Value} {v : V} {k : Nat} {tb : TE} {Q : VK} {E : Value → Shared → Prop} (I : Inv X pins σ H s) (room : Room (k + 1) A) (fr : A.frames = X.A.frames)
    (hf : s.heap.get? f = some (PySem.W.kla_obj "<lambda>" q params body scope [] pm c' ctv)) (hc : H c' = some (CodeO c' q))
    (hbind : bindArgs (PySem.W.kla_fn "<lambda>" q params body scope [] pm (.ref c') ctv) ⟨[u], []⟩ = pure [(y, u)]) (S : FnScope [y] [y] scope) (rv : RelV v u)
    (hbody : ∀ (A : Around) (outer : List Env) (s : Shared) (H : Hp), Room k (A.deeper (envOfC q scope s.heap.objs.size f (.ref c'))) → PE (cxOf CX0 X.prog X.w X.K X.mg X.base [y] q scope f (.ref c') A outer s H E0) body tb)
    (want : tb [some v] H Q) : wpAny (model X.prog X.w) A (call (.ref f) [u]) (EP X pins σ Q) E s := by
  obtain ⟨⟨oc, vs, t, hoc, hdc, hvc⟩, _, _⟩ := I.hok c' _ hc
  have e0 : Env0 X.prog X.w X.K X.mg X.base A X.stack s H := by
    have e := I.env0
    exact ⟨by rw [fr]; exact e.frames, e.mod, e.bs, e.bsz, e.funs, e.frf, e.hok, e.bare⟩
  have rc : codeAny (model X.prog X.w) A (.call (.ref f) ⟨[u], []⟩) (CR CX0 X.stack X.prog X.w H s Q E0) s := by
    refine PySem.W.kla_callFunE room.depth hf rfl S.co S.gen rfl ⟨c', oc, vs, t, rfl, hoc, hdc, hvc⟩ ?_
    rw [hbind]
    refine wpAny_pure (wpAny_newFunctionEnv_cells S.kind (fun x hx => ?_) fun env he s1 x => ?_)
    · rw [List.mem_singleton.mp hx]
      rcases S.par y (List.mem_singleton.mpr rfl) with q | q
      · exact .inl q
      · exact .inr ⟨q, PySem.W.cellsFrom_some _ _ _ (.inl q)⟩
    subst he
    refine ⟨I.nolimit.keeps x.toInCall.keep, ?_⟩
    have J : Inv (cxOf CX0 X.prog X.w X.K X.mg X.base [y] q scope f (.ref c') A X.stack s H E0) [] (L2.start [y] [v]) H s1 := inv_start (us := [u]) S room.hd e0 rfl (.cons rv .nil) x
    refine PySem.W.kla_codeExpr (wpAny_mono ((hbody A X.stack s H (room.deeper _)).run [] s1 (L2.start [y] [v]) H Q J want) (fun w s' hq => ?_) fun e s' hq => hq)
    obtain ⟨w', H', J', rw', q⟩ := hq
    exact ⟨w', H', J'.os, J'.bare, J'.base, J'.hok, rw', q⟩
  refine wpAny_call (codeAny_mono rc fun r s' hq => ?_)
  match r, hq with
  | .error e, hq => exact hq.elim
  | .ok (.ret u), hq => exact I.after hq
end
end Gx

set_option maxRecDepth 100000
set_option maxHeartbeats 4000000
namespace Gx
open PySem PySem.Spec PySem.Calls PyProof.Rows L2 LamX
/-! ### sorting by texts that the program's own code gives: what is known of the heap stays known -/
/-- the heap without one of its objects -/
def lessH (h : Heap) (k : Addr) : Heap := { h with objs := h.objs.setIfInBounds k { cls := .none, data := .freed } }
theorem lessH_at (h : Heap) (k : Addr) : (lessH h k).get? k = none := by
  unfold lessH Heap.get?
  simp only [Array.getElem?_setIfInBounds]
  by_cases c : k < h.objs.size
  · simp [c]
  · simp [c]
theorem lessH_ne {h : Heap} {k b : Addr} (n : b ≠ k) : (lessH h k).get? b = h.get? b := by
  unfold lessH Heap.get?
  rw [Array.getElem?_setIfInBounds_ne (Ne.symm n)]
/-- an object that the reading of the heap does not tell of, laid since the start -/
structure Off (X : Cx) (pins : List (Addr × Obj)) (b : Addr) : Prop where
  ge : X.s_0.heap.objs.size ≤ b
  nl : b ≠ X.env.locals
  nc : ∀ x c, X.env.cells.lookup x = some c → c ≠ b
  np : ∀ p ∈ X.pn ++ pins, p.1 ≠ b
  nf : b ∉ X.fs
section
variable {X : Cx} {pins : List (Addr × Obj)} {σ : L2.St} {H : Hp} {s : Shared}
theorem Off.fresh (I : Inv X pins σ H s) {b : Addr} (h : s.heap.objs.size ≤ b) : Off X pins b := by
  have hlt : ∀ {c : Addr} {o : Obj}, s.heap.get? c = some o → c ≠ b := fun e z => by
    rw [z] at e
    exact absurd (Nat.lt_of_lt_of_le (Heap.lt_size e) h) (Nat.lt_irrefl _)
  refine ⟨Nat.le_trans I.sz h, fun z => ?_, fun x c e z => ?_, fun p hp z => ?_, I.nofs h⟩
  · have := I.lt
    rw [← z] at this
    exact absurd (Nat.lt_of_lt_of_le this h) (Nat.lt_irrefl _)
  · obtain ⟨v, o, ho, _⟩ := I.cell x c e
    exact hlt ho z
  · exact hlt (I.pin p hp).1 z
/-- two objects off the reading are written; the one becomes a list that is told of -/
theorem inv_list {k a : Addr} {xs : List V} {h' : Heap} {t' : Nat} (I : Inv X pins σ H s) (ok : Off X pins k) (oa : Off X pins a) (nk : H k = none) (na : H a = none) (hka : k ≠ a) (keep : ∀ b o, b ≠ k → b ≠ a → s.heap.get? b = some o → h'.get? b = some o)
    (new : ObjOk X.prog X.w (upd H a (.lst xs)) h' a (.lst xs)) : Inv X pins σ (upd H a (.lst xs)) { s with heap := h', toks := t' } := by
  have at_ : ∀ b u, H b = some u → b ≠ a ∧ b ≠ k := fun b u e => ⟨ne_of_none e na, ne_of_none e nk⟩
  have off : ∀ {b : Addr}, b ∉ [k, a] → b ≠ k ∧ b ≠ a := fun {b} h => ⟨fun z => h (by simp [z]), fun z => h (by simp [z])⟩
  refine I.step (g' := s.gens) (d' := s.drawn) (ch := [k, a]) (fun b hb => ?_) (fun b o _ _ hc e _ => keep b o (off hc).1 (off hc).2 e) (fun b o _ _ hc e _ => ⟨o.slots, keep b o (off hc).1 (off hc).2 e⟩)
    (fun b o hc _ n => by rw [upd_ne (off hc).2]; exact n) (fun b o hc e => ⟨o, keep b o (off hc).1 (off hc).2 e⟩) (fun b ys e => by rw [upd_ne (at_ _ _ e).1]; exact e) (fun b o u e => by rw [upd_ne (at_ _ _ e).1]; exact e) (fun b ps e => ⟨#[], by rw [upd_ne (at_ _ _ e).1, e]; simp⟩) (fun m hm => ?_) (fun b u e => ?_) I.bare
  · rcases List.mem_cons.mp hb with rfl | hb
    · exact ⟨.inr ok.ge, ok.nl, ok.nc, ok.np⟩
    · rw [List.mem_singleton.mp hb]
      exact ⟨.inr oa.ge, oa.nl, oa.nc, oa.np⟩
  · obtain ⟨o, es, ep, ho, r⟩ := hm
    exact ⟨o, es, ep, keep _ o (Ne.symm ok.nl) (Ne.symm oa.nl) ho, r⟩
  · by_cases hb : b = a
    · rw [hb] at e ⊢
      rw [upd_same] at e
      cases e
      exact new
    · rw [upd_ne hb] at e
      refine (I.hok b u e).stay (fun c v hc q => keep c v ?_ ?_ q) (fun c q => by rw [upd_ne (at_ _ _ q).1]; exact q) fun c ys q => by rw [upd_ne (at_ _ _ q).1]; exact q
      · rcases hc with z | z
        · rw [z]
          exact (at_ _ _ e).2
        · exact (at_ _ _ z).2
      · rcases hc with z | z
        · rw [z]
          exact hb
        · exact (at_ _ _ z).1
end
end Gx

set_option maxRecDepth 100000
set_option maxHeartbeats 4000000
namespace Gx
open PySem PySem.Spec PySem.Calls PyProof.Rows L2 LamX
section
variable {X : Cx} {pins : List (Addr × Obj)} {σ : L2.St} {H : Hp} {s : Shared}
abbrev sKey (p : V × Str) : PyData := PyData.str p.2
theorem str_alike (a b : Str) : PySem.W.alike (PyData.str a) (PyData.str b) = true := by rfl
/-- the keys are asked for, one by one; then the items are sorted by them -/
theorem sort_rest {A : Around} {f : Value} {a kS : Addr} {e1 : Nat} {bs : List (V × Str)} {vs : List Value} {Pf : PySem.Fin → Shared → Prop} {E : Value → Shared → Prop}
    (I : Inv X pins σ H s) (ok : Off X pins kS) (oa : Off X pins a) (nk : H kS = none) (na : H a = none) (hka : kS ≠ a) (gk : s.heap.get? kS = some (seqObj "list" #[] 0)) (ga : s.heap.get? a = some (seqObj "list" #[] e1))
    (hR : PySem.W.EachIs (fun v (p : V × Str) => RelV p.1 v) vs bs) (hZ : bs.length ≤ sizeLine) (hu : ∀ p ∈ bs, A.units + (sKey p).depth < cLine)
    (turn : ∀ (v : Value) (p : V × Str), RelV p.1 v → p ∈ bs → ∀ (ps : List (Addr × Obj)), (∀ q ∈ pins, q ∈ ps) → ∀ (s' : Shared) (H' : Hp), Same H H' → Inv X ps σ H' s' → wpAny (model X.prog X.w) A (call f [v]) (EP X ps σ fun w H2 => w = .str p.2 ∧ Same H' H2) (fun _ _ => False) s')
    (h : ∀ (H' : Hp) (s' : Shared), Same H H' → H' a = none → Inv X pins σ (upd H' a (.lst ((bs.mergeSort (PySem.W.dataLe false sKey)).map (·.1)))) s' → Pf (.done (.ret .none)) s') :
    wpAny (model X.prog X.w) A (PyProof.Rows.ksk_rest a f false vs.toArray e1 (.ref kS)) Pf E s := by
  have lvs := hR.length
  unfold PyProof.Rows.ksk_rest
  refine wpAny_bind (wpAny_rule ?_)
  rw [← Array.forIn_toList]
  refine wpAny_bind (PyProof.Rows.ksk_fold (fun i s' => ∃ (H' : Hp) (kA : Array Value) (e : Nat), Same H H' ∧ Inv X pins σ H' s' ∧ H' kS = none ∧ H' a = none ∧ s'.heap.get? kS = some (seqObj "list" kA e) ∧ s'.heap.get? a = some (seqObj "list" #[] e1) ∧
      PySem.W.EachIs (fun v (p : V × Str) => ∃ t, v = .str p.2 t) kA.toList (bs.take i)) vs 0 s ⟨H, #[], 0, Same.refl H, I, nk, na, gk, ga, .nil⟩ ?step ?done)
  case step =>
    rintro j v s' hv ⟨H', kA, e, sm, I', nk', na', gk', ga', hk⟩
    simp only [Nat.zero_add] at hk ⊢
    have hj : j < vs.length := (List.getElem?_eq_some_iff.mp hv).1
    obtain ⟨p, hp⟩ : ∃ p, bs[j]? = some p := ⟨_, List.getElem?_eq_getElem (by omega)⟩
    have rp : RelV p.1 v := hR.zip (v, p) (List.mem_of_getElem? (i := j) (by rw [List.getElem?_zip_eq_some]; exact ⟨hv, hp⟩))
    have lk : kA.size ≤ j := by
      have h1 := hk.length
      rw [Array.length_toList, List.length_take] at h1
      omega
    let two : List (Addr × Obj) := [(kS, seqObj "list" kA e), (a, seqObj "list" #[] e1)]
    have J : Inv X (pins ++ two) σ H' s' := I'.pins_of fun q hq => by
      rcases List.mem_append.mp hq with hq | hq
      · exact I'.pin q (List.mem_append_right _ hq)
      · rcases List.mem_cons.mp hq with rfl | hq
        · exact ⟨gk', nk', ok.nl, ok.nf, fun _ z => nomatch z⟩
        · rw [List.mem_singleton.mp hq]
          exact ⟨ga', na', oa.nl, oa.nf, fun _ z => nomatch z⟩
    refine wpAny_bind (wpAny_attempt (wpAny_mono (turn v p rp (List.mem_of_getElem? hp) _ (fun q hq => List.mem_append_left _ hq) s' H' sm J) (fun u s2 he => ?_) fun _ _ z => z.elim))
    obtain ⟨w, H2, J2, rw_, rfl, sm2⟩ := he
    obtain ⟨t, rfl⟩ := (show ∃ t, u = Value.str p.2 t from rw_)
    have pk := J2.pin (kS, seqObj "list" kA e) (List.mem_append_right _ (List.mem_append_right _ List.mem_cons_self))
    have pa := J2.pin (a, seqObj "list" #[] e1) (List.mem_append_right _ (List.mem_append_right _ (List.mem_cons_of_mem _ List.mem_cons_self)))
    have I2 : Inv X pins σ H2 s2 := J2.pins_of fun q hq => J2.pin q (List.mem_append_right _ (List.mem_append_left _ hq))
    have only := Heap.SameBut.update s2.heap kS (Obj.mapSeq (·.push (Value.str p.2 t)))
    obtain ⟨c2, hc2⟩ : ∃ c2, (s2.heap.update kS (Obj.mapSeq (·.push (Value.str p.2 t)))).get? kS = some (seqObj "list" (kA.push (Value.str p.2 t)) c2) := ⟨_, get?_update_seq pk.1 (·.push (Value.str p.2 t))⟩
    refine wpAny_bind (listUpdate_at pk.1 rfl ?_ (by omega) (by rw [Array.size_push]; omega))
    refine wpAny_pure ⟨rfl, H2, kA.push (Value.str p.2 t), c2, fun b o q => sm2 _ _ (sm b o q), I2.turned (it := kS) (fun b o n q => (only.2 b n).trans q) pk.2.1 ok.nl (.inr ok.ge) ok.nc ok.np, pk.2.1, pa.2.1, hc2, (only.2 a hka.symm).trans pa.1, ?_⟩
    rw [Array.toList_push, List.take_add_one, hp]
    exact PySem.W.each_snoc ⟨t, rfl⟩ hk
  case done =>
    rintro s' ⟨H', kA, e, sm, I', nk', na', gk', ga', hk⟩
    rw [Nat.zero_add, lvs, List.take_length] at hk
    have rd : PySem.W.EachIs (fun v d => ∃ as, Reads s'.heap v d as) kA.toList (bs.map sKey) := by
      clear gk' hR turn h hu hZ lvs
      generalize kA.toList = ks at hk
      induction hk with
      | nil => exact .nil
      | @cons v p _ _ r _ ih =>
        obtain ⟨t, rfl⟩ := r
        exact .cons ⟨_, Reads.str p.2 t⟩ ih
    have hal : PySem.W.AllAlike (bs.map sKey) := fun d hd d' hd' => by
      obtain ⟨p, _, rfl⟩ := List.mem_map.mp hd
      obtain ⟨p', _, rfl⟩ := List.mem_map.mp hd'
      exact str_alike _ _
    have hsk : PySem.W.Sortable (bs.map sKey) := .inr fun d hd => by
      obtain ⟨p, _, rfl⟩ := List.mem_map.mp hd
      exact ⟨(fun z => nomatch z), fun _ z => nomatch z⟩
    have hsz : kA.size = vs.length := by
      have h1 := hk.length
      rw [Array.length_toList] at h1
      omega
    refine wpAny_bind (listItems_at gk' rfl ?_)
    refine PySem.W.keyH_end (b := false) (κ := PySem.W.dataKind s'.heap (bs.map sKey)) (h₁ := lessH s'.heap kS) (fun b o _ q => by
      by_cases hb : b = kS
      · rw [hb, lessH_at] at q
        cases q
      · rw [lessH_ne hb] at q
        exact q) (lessH_at _ _) gk' ga' hka (PySem.W.SortsAt.data (s := s') rd hal hsk fun d hd => ?_) hsz (by omega) fun h3 tk3 c k3 n3 => ?_
    · obtain ⟨p, hp, rfl⟩ := List.mem_map.mp hd
      exact hu p hp
    have ko : PySem.W.KeyedOut false (bs.map sKey) vs (PySem.W.sortVals (PySem.W.dataKind s'.heap (bs.map sKey)) false kA.toList vs) := ⟨s'.heap, kA.toList, hal, rfl, rd⟩
    have hout := PySem.W.keyedOut_each sKey ko hR
    generalize PySem.W.sortVals (PySem.W.dataKind s'.heap (bs.map sKey)) false kA.toList vs = out at n3 hout
    refine h H' _ sm na' (inv_list I' ok oa nk' na' hka (fun b o n1 n2 q => k3 b o n2 (by rw [lessH_ne n1]; exact q)) ⟨?_, out, c, ?_, n3⟩)
    · rw [List.length_map, List.length_mergeSort]
      exact hZ
    · clear n3 ko
      generalize bs.mergeSort (PySem.W.dataLe false sKey) = zs at hout
      induction hout with
      | nil => exact .nil
      | cons r _ ih => exact .cons r ih
end
end Gx

set_option maxRecDepth 100000
set_option maxHeartbeats 4000000
namespace Gx
open PySem PySem.Spec PySem.Calls PyProof.Rows L2 LamX
section
variable {X : Cx} {pins : List (Addr × Obj)} {σ : L2.St} {H : Hp} {s : Shared}
/-- the stable order by the texts -/
def byText (bs : List (V × Str)) : List (V × Str) := bs.mergeSort fun a b => decide (a.2.cps.toList ≤ b.2.cps.toList)
theorem byText_eq (bs : List (V × Str)) : bs.mergeSort (PySem.W.dataLe false sKey) = byText bs := by
  unfold byText
  rw [show PySem.W.dataLe false sKey = _ from PySem.W.dataLe_str fun p : V × Str => p.2]
/-- sorted(l, key=f), l a list or a tuple, f giving texts -/
theorem sorted_key {A : Around} {l f : Addr} {T : String} {o : Obj} {items : Array Value} {n : Nat} {bs : List (V × Str)} {Q : Value → Shared → Prop} {E : Value → Shared → Prop} (I : Inv X pins σ H s) (hT : T = "list" ∨ T = "tuple")
    (ho : s.heap.get? l = some o) (hc : o.cls = .type T) (hd : o.data = .seq items n) (hR : PySem.W.EachIs (fun v (p : V × Str) => RelV p.1 v) items.toList bs) (hZ : bs.length ≤ sizeLine) (hu : A.units + 64 < cLine)
    (turn : ∀ (v : Value) (p : V × Str), RelV p.1 v → p ∈ bs → ∀ (ps : List (Addr × Obj)), (∀ q ∈ pins, q ∈ ps) → ∀ (s' : Shared) (H' : Hp), Same H H' → Inv X ps σ H' s' → wpAny (model X.prog X.w) A.in1.in1 (call (.ref f) [v]) (EP X ps σ fun w H2 => w = .str p.2 ∧ Same H' H2) (fun _ _ => False) s')
    (h : ∀ (x : Addr) (H' : Hp) (s' : Shared), Same H H' → H' x = none → Inv X pins σ (upd H' x (.lst ((byText bs).map (·.1)))) s' → Q (.ref x) s') :
    wpAny (model X.prog X.w) A (call (.builtin "sorted") [.ref l] [(Str.ofString "key", .ref f)]) Q E s := by
  have lb := hR.length
  rw [Array.length_toList] at lb
  refine call_function_entry_kw kind_sorted plain_sorted entry_sorted (ksk_s1 _ _) ?_
  unfold Builtin.«sorted»
  refine wpAny_bind (m := checkCount "sorted" 1 1 _) (wpAny_pure ?_)
  refine wpAny_bind (wpAny_collect_seq l hT ho hc hd (fun h1 k1 => ?_) (by omega))
  refine wpAny_bind (wpAny_newList ?_ (by rw [Array.length_toList]; omega))
  have I1 : Inv X pins σ H { s with heap := h1, toks := s.toks } := I.kept k1
  have oa : Off X pins h1.objs.size := Off.fresh I1 (Nat.le_refl _)
  have na : H h1.objs.size = none := I1.hok.fresh (Nat.le_refl _)
  have g0 : (h1.push (seqObj "list" items.toList.toArray 0)).get? h1.objs.size = some (seqObj "list" items.toList.toArray 0) := Heap.get?_push_size _ rfl
  refine wpAny_bind (wpAny_holding (wpAny_call_entry_kw slot_list_sort ⟨_, g0, rfl⟩ entry_list_sort ?body (ksk_l1 _ _)))
  show wpAny (model X.prog X.w) A.in1.in1 (Builtin.«list.sort» ⟨[.ref h1.objs.size], [(Str.ofString "key", .ref f)]⟩) _ _ _
  rw [ksk_t1]
  unfold ksk_tree
  have hz : items.toList.toArray.size ≤ sizeLine := by
    rw [List.size_toArray, Array.length_toList]
    omega
  refine wpAny_bind (listItems_at g0 rfl ?_)
  refine wpAny_bind (listUpdate_at g0 rfl ?_ hz (Nat.zero_le _))
  obtain ⟨e1, g1⟩ : ∃ e1, ((h1.push (seqObj "list" items.toList.toArray 0)).update h1.objs.size (Obj.mapSeq fun _ => (#[] : Array Value))).get? h1.objs.size = some (seqObj "list" #[] e1) := ⟨_, get?_update_seq g0 fun _ => #[]⟩
  have keep1 : ∀ b o, h1.get? b = some o → ((h1.push (seqObj "list" items.toList.toArray 0)).update h1.objs.size (Obj.mapSeq fun _ => (#[] : Array Value))).get? b = some o := fun b o q =>
    ((Heap.SameBut.update _ _ _).2 b (Nat.ne_of_lt (Heap.lt_size q))).trans (Heap.get?_push_of_some _ q)
  generalize (h1.push (seqObj "list" items.toList.toArray 0)).update h1.objs.size (Obj.mapSeq fun _ => (#[] : Array Value)) = h2 at g1 keep1
  refine wpAny_bind (seqEpoch_at g1 rfl ?_)
  refine wpAny_bind (wpAny_newTuple ?_ (by simp only [List.toList_toArray, Array.length_toList]; omega))
  refine wpAny_bind (wpAny_newList ?_ (Nat.zero_le _))
  refine wpAny_holding ?_
  have g2 := Heap.get?_push_of_some (seqObj "tuple" items.toList.toArray.toList.toArray 0) g1
  have keep2 : ∀ b o, h1.get? b = some o → (h2.push (seqObj "tuple" items.toList.toArray.toList.toArray 0)).get? b = some o := fun b o q => Heap.get?_push_of_some _ (keep1 _ _ q)
  generalize h2.push (seqObj "tuple" items.toList.toArray.toList.toArray 0) = h3 at g2 keep2
  have I3 : Inv X pins σ H { s with heap := h3, toks := s.toks } := I1.kept keep2
  have ok : Off X pins h3.objs.size := Off.fresh I3 (Nat.le_refl _)
  have nk : H h3.objs.size = none := I3.hok.fresh (Nat.le_refl _)
  have hka : h3.objs.size ≠ h1.objs.size := Nat.ne_of_gt (Heap.lt_size g2)
  have I4 : Inv X pins σ H { s with heap := h3.push (seqObj "list" #[] 0), toks := s.toks } := I3.kept fun b o q => Heap.get?_push_of_some _ q
  refine sort_rest (bs := bs) I4 ok oa nk na hka (Heap.get?_push_size _ rfl) (Heap.get?_push_of_some _ g2) hR hZ (fun p hp => ?_) turn fun H' s' sm na' J => ?_
  · show A.units + 1 + 1 + _ < cLine
    have : (sKey p).depth = 0 := rfl
    omega
  · rw [byText_eq] at J
    exact ⟨_, rfl, wpAny_pure ⟨_, rfl, h _ H' s' sm na' J⟩⟩
end
end Gx

set_option maxRecDepth 100000
set_option maxHeartbeats 4000000
namespace Gx
open PySem PySem.Spec PySem.Calls PyProof.Rows L2 LamX
/-! ### sorted(e, key=lambda y: ..), the keys texts -/
theorem each_vals : ∀ {bs : List (V × Str)} {its : List Value}, Vals (bs.map (·.1)) its → PySem.W.EachIs (fun v (p : V × Str) => RelV p.1 v) its bs
  | [], _, .nil => .nil
  | _ :: _, _, .cons r t => .cons r (each_vals t)
def tSortK (Tb : List (Addr × Str)) (K : PySem.W.Frag) (te tk : TE) : TE := fun σ H Q => te σ H fun x H1 => Tabs Tb H1 ∧ ∀ H2, ExtN H1 H2 → Tabs Tb H2 → ∃ (l : Addr) (bs : List (V × Str)), x = .ref l ∧ (SqL K H2 l (bs.map (·.1)) ∨ SqT K H2 l (bs.map (·.1))) ∧ bs.length ≤ sizeLine ∧
  (∀ p ∈ bs, ∀ H3, Same H2 H3 → tk [some p.1] H3 fun w H4 => w = .str p.2 ∧ Same H3 H4) ∧ ∀ y H3, Same H2 H3 → H3 y = none → Q (.ref y) (upd H3 y (.lst ((byText bs).map (·.1))))
section
variable {X : Cx}
theorem pe_sortK {Tb : List (Addr × Str)} {c P : Addr} {k : Nat} {e : Expr} {te tk : TE} {y : Str} {params : Arguments} {body : Expr} {scope : Scope} {p lpos kpos pos : Pos} (hg : Gl X "sorted") (hm : X.mg "sorted" = none) (he : PE X e te) (hr : Room (k + 3) X.A)
    (TB : TabB X.base X.mg c P) (hcode : X.env.code = .ref c) (hmT : (P, X.env.qual ++ "<lambda>") ∈ Tb) (hu : ∀ p ∈ Tb, p.1 = P → p.2 = X.env.qual ++ "<lambda>") (S : FnScope [y] [y] scope) (hdef : defaultsOf params X.env = ([], []))
    (hclo : ∀ cells : List (Str × Addr), cloFrom cells scope.names [] = [])
    (hbind : ∀ (q : Str) (cl : List (Str × Addr)) (pm cv ctv u : Value), bindArgs (PySem.W.kla_fn "<lambda>" q params body scope cl pm cv ctv) ⟨[u], []⟩ = pure [(y, u)])
    (hbody : ∀ (A : Around) (outer : List Env) (s : Shared) (H : Hp) (f c' : Addr), Room k (A.deeper (envOfC (X.env.qual ++ "<lambda>") scope s.heap.objs.size f (.ref c'))) → PE (cxOf CX0 X.prog X.w X.K X.mg X.base [y] (X.env.qual ++ "<lambda>") scope f (.ref c') A outer s H E0) body tk)
    (hst : starEach [e] X.env = (false, eval e X.env) :: starEach [] X.env := by rfl) (hs : backTo pos (starEach [e] X.env) = (false, eval e X.env) :: backTo pos (starEach [] X.env) := by rfl) (hpl : (backTo pos (starEach [e] X.env)).any (·.1) = false := by rfl) :
    PE X (.Call (.Name "sorted" p) [e] [⟨some "key", .Lambda params body scope lpos, kpos⟩] pos) (tSortK Tb X.K te tk) := by
  refine ⟨fun pins s σ H Q I h => ?_⟩
  refine wpAny_Call_Name_kw (ld_blt (u := .builtin "sorted") I hg hm (by decide +kernel) ?_)
  let R : V → Hp → Prop := fun x H1 => Tabs Tb H1 ∧ ∀ H2, ExtN H1 H2 → Tabs Tb H2 → ∃ (l : Addr) (bs : List (V × Str)), x = .ref l ∧ (SqL X.K H2 l (bs.map (·.1)) ∨ SqT X.K H2 l (bs.map (·.1))) ∧ bs.length ≤ sizeLine ∧
    (∀ p ∈ bs, ∀ H3, Same H2 H3 → tk [some p.1] H3 fun w H4 => w = .str p.2 ∧ Same H3 H4) ∧ ∀ y H3, Same H2 H3 → H3 y = none → Q (.ref y) (upd H3 y (.lst ((byText bs).map (·.1))))
  refine PyProof.Rows.callWith_kw (thn ((pa_cons he pa_nil hst).run pos pins s σ H (fun vs H1 => match vs with | [x] => R x H1 | _ => False) I h) fun us s1 ⟨vs, H1, I1, r1, q1⟩ => ?_) hs hpl rfl rfl
  obtain ⟨x, rfl⟩ : ∃ x, vs = [x] := by
    match vs, q1 with
    | [x], _ => exact ⟨x, rfl⟩
  obtain ⟨u, rfl, ru⟩ := vals1 r1
  obtain ⟨hT, h2⟩ : R x H1 := q1
  show wpAny _ _ (evalAll ((do let v ← eval (.Lambda params body scope lpos) X.env; standAt pos; pure v) :: [])) _ _ s1
  have nofree : ∀ y ∈ scope.names, y.2 = .free → ∃ c, X.env.cells.lookup y.1 = some c := fun y hy e => absurd e (S.nofree y hy)
  refine wpAny_evalAll_cons (wpAny_bind (lam_make2 I1 TB hcode hmT hu hT hdef nofree fun f c' pm ctv H2 s2 I2 eN T2 hf hfn hfr hco => wpAny_bind (wpAny_standAt (wpAny_pure ?_))))
  rw [hclo] at hf
  refine wpAny_evalAll_nil ?_
  obtain ⟨l, bs, rfl, hsq, hZ, hkey, hq⟩ := h2 H2 eN T2
  obtain rfl : u = Value.ref l := ru
  have nl : f ≠ X.env.locals := fun z => by
    obtain ⟨m, ⟨ob, es, ep, ho, hd, _⟩, _⟩ := I2.loc
    rw [← z, hf] at ho
    cases ho
    cases hd
  have nfs : f ∉ X.fs := fun hb => by
    rcases I2.ok.stk with e | ⟨e, hfm⟩
    · exact hfr (by rw [e]; exact hb)
    · refine hfr ?_
      rw [e]
      unfold frs
      rw [List.filterMap_cons, hfm]
      exact List.mem_cons_of_mem _ hb
  have I3 : Inv X (pins ++ [(f, PySem.W.kla_obj "<lambda>" (X.env.qual ++ "<lambda>") params body scope [] pm c' ctv)]) σ H2 s2 := I2.pins_of fun q hq => by
    rcases List.mem_append.mp hq with hq | hq
    · exact I2.pin q (List.mem_append_right _ hq)
    · rw [List.mem_singleton.mp hq]
      exact ⟨hf, hfn, nl, nfs, fun _ z => nomatch z⟩
  have fin : ∀ (T : String) (o : Obj) (items : List Value) (n : Nat), T = "list" ∨ T = "tuple" → s2.heap.get? l = some o → o.cls = .type T → o.data = .seq items.toArray n → Vals (bs.map (·.1)) items →
      wpAny (model X.prog X.w) X.A (call (.builtin "sorted") [.ref l] [(Str.ofString "key", .ref f)]) (EP X pins σ Q) X.xe s2 := fun T o items n hT ho hc hd rv => by
    refine sorted_key (bs := bs) I3 hT ho hc hd (each_vals rv) hZ hr.units (fun v p rp hp ps hps s' H' sm J => ?_) (fun y H' s' sm ny J => ?_)
    · have pf := J.pin (f, PySem.W.kla_obj "<lambda>" (X.env.qual ++ "<lambda>") params body scope [] pm c' ctv) (List.mem_append_right _ (hps _ (List.mem_append_right _ List.mem_cons_self)))
      exact run_lam1 J hr.in1.in1 rfl pf.1 (sm _ _ hco) (hbind _ _ _ _ _ _) S rp (fun A outer s H hr2 => hbody A outer s H f c' hr2) (hkey p hp H' sm)
    · exact ⟨.ref y, _, J.pins_of fun q hq => J.pin q (List.mem_append_right _ (List.mem_append_left _ hq)), rfl, hq y H' sm ny⟩
  rcases hsq with hsq | hsq
  · obtain ⟨its, rv, ⟨ob, n, ho, hc, _, hd⟩, _⟩ := I2.list hsq
    exact fin "list" _ its n (.inl rfl) ho hc hd rv
  · obtain ⟨its, rv, ⟨ob, ho, hc, n, hd⟩, _⟩ := I2.tuple hsq
    exact fin "tuple" _ its n (.inr rfl) ho hc hd rv
end
end Gx

set_option maxRecDepth 100000
set_option maxHeartbeats 4000000
/-! ### what stays while lambdas are made -/
namespace Gx
open PySem PySem.Spec PyProof.Rows L2
/-- all but the object at d and the tables stay -/
def ExtX (d : Addr) (H H' : Hp) : Prop := ∀ b o, b ≠ d → H b = some o → (∀ ps, o ≠ .tbl ps) → H' b = some o
theorem ExtX.refl (d : Addr) (H : Hp) : ExtX d H H := fun _ _ _ e _ => e
theorem ExtX.trans {d : Addr} {H H1 H2 : Hp} (a : ExtX d H H1) (b : ExtX d H1 H2) : ExtX d H H2 := fun c o n e t => b c o n (a c o n e t) t
theorem ExtX.ofN {d : Addr} {H H' : Hp} (s : LamX.ExtN H H') : ExtX d H H' := fun b o _ e t => s b o e t
theorem ExtX.of {d : Addr} {H H' : Hp} (s : Same H H') : ExtX d H H' := fun b o _ e _ => s b o e
end Gx
namespace Kl
open PySem PySem.Spec PyProof.Rows L2 Gx Mx LamX
theorem dice_exN {H H' : Hp} {d : Addr} (s : ExtN H H') (h : DiceAt H d) : DiceAt H' d := by
  obtain ⟨a, b, c, e⟩ := h
  exact ⟨a, b, c, s _ _ e fun _ => nofun⟩
theorem tabs_dice {Tb : List (Addr × Str)} {H H' : Hp} {d : Addr} (t : Tabs Tb H) (hd : DiceAt H d) (s : SameX d H H') : Tabs Tb H' := fun p hp => by
  obtain ⟨ps, h1, h2, h3⟩ := t p hp
  obtain ⟨a, b, c, e⟩ := hd
  refine ⟨ps, s _ _ (fun w => by rw [w, e] at h1; cases h1) h1, h2, fun pos cv hc => ?_⟩
  obtain ⟨c1, e1, e2⟩ := h3 pos cv hc
  exact ⟨c1, e1, s _ _ (fun w => by rw [w, e] at e2; cases (Option.some.inj e2)) e2⟩
theorem ext_ofX {d : Addr} {H H' : Hp} (s : SameX d H H') : ExtX d H H' := fun b o n e _ => s b o n e
/-- p is new since H (as far as what is no table tells) -/
def NewN (H : Hp) (p : Addr) : Prop := ∀ o, H p = some o → ¬ ∀ ps, o ≠ .tbl ps
theorem new_n {H H' : Hp} {p : Addr} (s : ExtN H H') (n : H' p = none) : NewN H p := fun o e t => by
  rw [s _ _ e t] at n
  cases n
theorem ext_lst {H G : Hp} {p : Addr} {o : HO} (s : ExtN H G) (n : NewN H p) : ExtN H (upd G p o) := fun b u e t => by
  by_cases c : b = p
  · rw [c] at e
    exact (n u e t).elim
  · rw [upd_ne c]
    exact s b u e t
theorem tabs_lst {Tb : List (Addr × Str)} {G : Hp} {p : Addr} {xs : List V} {o : HO} (t : Tabs Tb G) (e : G p = some (.lst xs)) : Tabs Tb (upd G p o) := fun q hq => by
  obtain ⟨ps, h1, h2, h3⟩ := t q hq
  refine ⟨ps, by rw [upd_ne (fun w => by rw [w, e] at h1; cases h1)]; exact h1, h2, fun pos cv hc => ?_⟩
  obtain ⟨c1, e1, e2⟩ := h3 pos cv hc
  exact ⟨c1, e1, by rw [upd_ne (fun w => by rw [w, e] at e2; cases (Option.some.inj e2))]; exact e2⟩
theorem ext_sm {H G G' : Hp} (a : ExtN H G) (s : Same G G') : ExtN H G' := a.trans (.of s)
theorem sqT_exN {K : PySem.W.Frag} {G G' : Hp} {a : Addr} {xs : List V} (s : ExtN G G') (h : SqT K G a xs) : SqT K G' a xs := by
  rcases h with (h | ⟨o, h⟩) | h
  · exact .inl (.inl (s _ _ h fun _ => nofun))
  · exact .inl (.inr ⟨o, s _ _ h fun _ => nofun⟩)
  · exact .inr h
theorem sqT_exX {K : PySem.W.Frag} {G G' : Hp} {d a : Addr} {xs : List V} (hd : DiceAt G d) (s : ExtX d G G') (h : SqT K G a xs) : SqT K G' a xs := by
  obtain ⟨p, q, r, e⟩ := hd
  rcases h with (h | ⟨o, h⟩) | h
  · exact .inl (.inl (s _ _ (fun z => by rw [z, e] at h; cases h) h fun _ => nofun))
  · exact .inl (.inr ⟨o, s _ _ (fun z => by rw [z, e] at h; cases h) h fun _ => nofun⟩)
  · exact .inr h
end Kl

set_option maxRecDepth 100000
set_option maxHeartbeats 4000000
namespace Gx
open PySem PySem.Spec PySem.Calls PyProof.Rows L2 LamX
/-- .. where the qualified name is known by an equation -/
theorem pe_sortKq {X : Cx} {K : PySem.W.Frag} {q : Str} {Tb : List (Addr × Str)} {c P : Addr} {k : Nat} {e : Expr} {te tk : TE} {y : Str} {params : Arguments} {body : Expr} {scope : Scope} {p lpos kpos pos : Pos} (hk : X.K = K) (hg : Gl X "sorted") (hm : X.mg "sorted" = none) (he : PE X e te) (hr : Room (k + 3) X.A)
    (TB : TabB X.base X.mg c P) (hcode : X.env.code = .ref c) (hq : X.env.qual = q) (hmT : (P, q ++ "<lambda>") ∈ Tb) (hu : ∀ p ∈ Tb, p.1 = P → p.2 = q ++ "<lambda>") (S : FnScope [y] [y] scope) (hdef : defaultsOf params X.env = ([], []))
    (hclo : ∀ cells : List (Str × Addr), cloFrom cells scope.names [] = [])
    (hbind : ∀ (q : Str) (cl : List (Str × Addr)) (pm cv ctv u : Value), bindArgs (PySem.W.kla_fn "<lambda>" q params body scope cl pm cv ctv) ⟨[u], []⟩ = pure [(y, u)])
    (hbody : ∀ (A : Around) (outer : List Env) (s : Shared) (H : Hp) (f c' : Addr), Room k (A.deeper (envOfC (q ++ "<lambda>") scope s.heap.objs.size f (.ref c'))) → PE (cxOf CX0 X.prog X.w X.K X.mg X.base [y] (q ++ "<lambda>") scope f (.ref c') A outer s H E0) body tk)
    (hst : starEach [e] X.env = (false, eval e X.env) :: starEach [] X.env := by rfl) (hs : backTo pos (starEach [e] X.env) = (false, eval e X.env) :: backTo pos (starEach [] X.env) := by rfl) (hpl : (backTo pos (starEach [e] X.env)).any (·.1) = false := by rfl) :
    PE X (.Call (.Name "sorted" p) [e] [⟨some "key", .Lambda params body scope lpos, kpos⟩] pos) (tSortK Tb K te tk) := by
  subst hq
  subst hk
  exact pe_sortK hg hm he hr TB hcode hmT hu S hdef hclo hbind hbody hst hs hpl
theorem blk_qual {X : Cx} {scope : Scope} {s : Shared} {H : Hp} {C : Addr} {cl : List (Str × Addr)} {fp : List Addr} : (X.blk s H scope (compEnvC scope cl C X.env) fp).env.qual = X.env.qual := rfl
section
variable {P : Program} {w : World} {K : PySem.W.Frag} {mg : Str → Option Value} {base : Heap}
/-- a def whose code object is at c -/
theorem okL {x qual : Str} {st : Stmt} {f c : Addr} {fd : FuncData} {N ps : List Str} {k : Nat} {sp : Sp} (F : Fun K x qual st f fd) (hc : fd.code = .ref c) (S : FnScope N ps (defScope st)) (hlen : ∀ vs H Q E, sp vs H Q E → vs.length = ps.length)
    (hb : ∀ (A : Around) (outer : List Env) (s : Shared) (H : Hp) (vs : List V) (Q : VK) (E : XK), Room k (A.deeper (envOfC qual (defScope st) s.heap.objs.size f (.ref c))) → sp vs H Q E →
      ∃ t, PSs (cxOf CX0 P w K mg base N qual (defScope st) f (.ref c) A outer s H E).nox (defBody st) t ∧ t { nx := fun _ H' => Q .non H', rt := Q } (start N vs) H) : FnOk P w K mg base CX0 (k + 1) f fd ps sp := by
  obtain ⟨oc, od, kV, doc, pm, an, cdv, ct, osl, rfl, lk, hcd⟩ := F.ex
  have e : cdv = .ref c := hc
  subst e
  refine fn_of lk hcd S hlen fun A outer s H vs Q E hr want => ?_
  obtain ⟨t, h, q⟩ := hb A outer s H vs Q E hr want
  exact ⟨t, h.nox, q⟩
end
end Gx
namespace Kl
open PySem PySem.Spec PyProof.Rows L2 Gx Mx LamX
theorem call_tuple_ofK {X : Cx} {K : PySem.W.Frag} (hk : X.K = K) : CallR X (.type "tuple") (fun xs H Q => ∃ p ys, xs = [V.ref p] ∧ ((SqL K H p ys ∧ ∀ l, H l = none → Q (.ref l) (upd H l (.tup ys))) ∨ (SqT K H p ys ∧ Q (.ref p) H))) := by
  subst hk
  exact call_tuple_of
section
variable {P : Program} {w : World} {K : PySem.W.Frag} {mg : Str → Option Value} {base : Heap}
/-! ### Tree.broken -/
abbrev NBR : List Str := ["self", "digit"]
/-- sorted by kind -/
def byKind (L : List Tr) : List Tr := L.mergeSort fun a b => decide (a.kind.cps.toList ≤ b.kind.cps.toList)
theorem paired_pairs {α β : Type} {R : α → β → Prop} : ∀ {L : List (α × β)}, (∀ q ∈ L, R q.1 q.2) → Paired R (L.map (·.1)) (L.map (·.2))
  | [], _ => .nil
  | q :: L, h => .cons (h q List.mem_cons_self) (paired_pairs fun r hr => h r (List.mem_cons_of_mem _ hr))
theorem paired_zip {α β : Type} {R : α → β → Prop} {xs : List α} {ys : List β} (h : Paired R xs ys) : ∀ q ∈ xs.zip ys, R q.1 q.2 := by
  induction h with
  | nil => exact nofun
  | cons h _ ih =>
    intro q hq
    rcases List.mem_cons.mp hq with rfl | hq
    · exact h
    · exact ih q hq
theorem trs_on {K : PySem.W.Frag} {C kx : Addr} {G : Hp} : ∀ {d : Trs} {xs : List Addr}, TrsAt K C kx G d xs → TrsOn K C kx G xs d.list
  | .nil, xs, h => by
    unfold TrsAt at h
    subst h
    exact .nil
  | .cons t r, xs, h => by
    unfold TrsAt at h
    obtain ⟨x, ys, rfl, h1, h2⟩ := h
    exact .cons h1 (trs_on h2)
theorem TreeAt.exN {K : PySem.W.Frag} {C kx : Addr} {H H' : Hp} {t : Tr} {x : Addr} (h : TreeAt K C kx H t x) (s : ExtN H H') : TreeAt K C kx H' t x := TreeAt.mono (fun _ _ q => sqT_exN s q) (fun _ _ _ _ e => s _ _ e fun _ => nofun) t x h
theorem DgsAt.exN {K : PySem.W.Frag} {C kx : Addr} {H H' : Hp} {ds : Dgs} {as : List Addr} (h : DgsAt K C kx H ds as) (s : ExtN H H') : DgsAt K C kx H' ds as := DgsAt.mono (fun _ _ q => sqT_exN s q) (fun _ _ _ _ e => s _ _ e fun _ => nofun) _ _ h
/-- a sorted digit -/
def BdAt (K : PySem.W.Frag) (C kx : Addr) (G : Hp) (a : Addr) (d : Trs) : Prop := ∃ zs : List Addr, SqT K G a (zs.map V.ref) ∧ TrsOn K C kx G zs (byKind d.list)
theorem BdAt.exN {K : PySem.W.Frag} {C kx : Addr} {G G' : Hp} {a : Addr} {d : Trs} (h : BdAt K C kx G a d) (s : ExtN G G') : BdAt K C kx G' a d := by
  obtain ⟨zs, h1, h2⟩ := h
  exact ⟨zs, sqT_exN s h1, L2.Paired.mapP h2 fun _ _ q => q.exN s⟩
theorem BdAt.atl {K : PySem.W.Frag} {C kx : Addr} {G : Hp} {a l : Addr} {d : Trs} {ys : List V} {o : HO} (h : BdAt K C kx G a d) (e : G l = some (.lst ys)) : BdAt K C kx (upd G l o) a d := by
  obtain ⟨zs, h1, h2⟩ := h
  exact ⟨zs, sqT_atl e h1, L2.Paired.mapP h2 fun _ _ q => q.atl e⟩
/-- the digits, sorted by kind -/
def BrAt (K : PySem.W.Frag) (C kx : Addr) (G : Hp) (p : Addr) (t : Tr) : Prop := ∃ as : List Addr, SqT K G p (as.map V.ref) ∧ Paired (BdAt K C kx G) as t.kids.list
def spBr (K : PySem.W.Frag) (C : Addr) (Tb : List (Addr × Str)) : Sp := fun vs H Q _ => ∃ (x kx : Addr) (t : Tr), vs = [.ref x] ∧ TreeAt K C kx H t x ∧ t.size ≤ 5000 ∧ t.kids.list.length < sizeLine ∧ (∀ u ∈ t.sons, u.way ≠ []) ∧ Tabs Tb H ∧ ∀ p H', ExtN H H' → Tabs Tb H' → BrAt K C kx H' p t → Q (.ref p) H'
theorem ok_br {C f c Pt : Addr} {fd : FuncData} {Tb : List (Addr × Str)} (F : Fun K "broken" "Tree.broken" s_Tree_broken f fd) (hc : fd.code = .ref c) (TB : TabB base mg c Pt) (hm : (Pt, ln "Tree.broken") ∈ Tb) (hu0 : ∀ p ∈ Tb, p.1 = Pt → p.2 = ln "Tree.broken") (T : Top K mg) (TC : Cl_Tree K mg C) :
    FnOk P w K mg base CX0 6 f fd ["self"] (spBr K C Tb) := by
  have kKind : CalP P w K mg base C "kind" 1 (spTKind K C) := TC.p_kind.cal fun f fd F => ok_tkind F TC
  refine okL F hc sc_Tree_broken (fun vs H Q E h => ?_) (fun A outer s H vs Q E hr h => ?_)
  · obtain ⟨x, kx, t, rfl, _⟩ := h
    rfl
  · obtain ⟨x, kx, t, rfl, ht, hz, hkl, hway, hTb, q⟩ := h
    refine ⟨_, pss_one (ps_ret (pe_callTy call_tuple_of (by rfl) T.b_tuple (by decide +kernel) (pa_cons (pe_lc (own := [("digit", 1)]) (g := gName 1) (tt := tYes) rfl sc_Tree_broken.nd (pi_tup (pe_fld (pv 0) rfl)) (blkOk_by (N := NBR) (sc := defScope s_Tree_broken) (by decide +kernel)) (fun _ _ _ _ _ => pg_name (i := 1) sc_Tree_broken.nd rfl (.inl rfl)) (fun _ _ _ _ _ => pts_nil)
      (fun _ _ _ _ _ => pe_callTy (call_tuple_ofK (K := K) (by exact rfl)) (by rfl) T.b_tuple (by decide +kernel) (pa_cons (pe_sortKq (K := K) (q := ("Tree.broken" : Str) ++ ".<locals>.") (k := 2) (y := "tree") (by exact rfl) (by exact rfl) T.b_sorted (pv 1) hr TB (by exact rfl) (by exact rfl) hm hu0 ⟨rfl, rfl, rfl, by decide +kernel, rfl, by decide +kernel, by decide +kernel⟩ rfl (fun _ => rfl) (fun _ _ _ _ _ _ => rfl) (fun A outer s H f c' hr' => pe_propC (pv 0) TC.cl kKind hr' rfl)) pa_nil))) pa_nil))), ?_⟩
    have big : 100000 ≤ sizeLine := by decide
    have hsons : ∀ (j : Nat) (d : Trs), t.kids.list[j]? = some d → ∀ u ∈ d.list, u ∈ t.sons := fun j d hd u hu => List.mem_flatten.mpr ⟨d.list, List.mem_map.mpr ⟨d, List.mem_of_getElem? hd, rfl⟩, hu⟩
    have hbig : ∀ (j : Nat) (d : Trs), t.kids.list[j]? = some d → d.list.length ≤ 5000 := fun j d hd => by
      have p1 := pref_len Trs.list t.kids.list (j + 1)
      rw [kids_snoc hd, List.length_append] at p1
      have p2 := keysL_len t.sons
      have p3 := Tr.sz_eq t
      have p4 : ((t.kids.list.map Trs.list).flatten).length = t.sons.length := rfl
      omega
    cases t with
    | mk way key ds =>
    unfold TreeAt at ht
    obtain ⟨dx, wl, cl, das, hx, _, hcl, hds⟩ := ht
    have hds : DgsAt K C kx H (Tr.mk way key ds).kids das := hds
    generalize (Tr.mk way key ds) = t at hds hsons hbig hkl q hway
    have l1 := DgsAt.len _ _ hds
    rw [Dgs.len_list] at l1
    refine ⟨_, rfl, x, C, dx, _, _, rfl, hx, TC.cl, TC.n_children, tf_children _ _ _ _ _, cl, rfl, ⟨_, hcl⟩, fun D hD => ?_⟩
    refine lc_it (g := gName 1) (tt := tYes) (vs := [1]) (walk_tup (K := K) (a := cl) (xs := das.map V.ref)) (fun j G => ∃ as : List Addr, G D = some (.lst (as.map V.ref)) ∧ Paired (BdAt K C kx G) as (t.kids.list.take j) ∧ ExtN H G ∧ Tabs Tb G)
      ⟨[], upd_same, .nil, .of (same_new (Same.refl H) hD), hTb.ext (same_new (Same.refl H) hD)⟩ (fun j G _ h => by obtain ⟨_, _, _, xN, _⟩ := h; exact sqT_exN xN hcl) (fun j u Gx G hj h hy => ?_) (fun G h => ?_)
    · obtain ⟨as, eD, hB, xN, tG⟩ := h
      obtain ⟨rfl, hu⟩ := hy
      obtain ⟨da, hda, rfl⟩ := refs_at' hu
      refine ⟨rfl, _, rfl, tG, fun G2 eN t2 => ?_⟩
      have x2 := xN.trans eN
      obtain ⟨dg, zs, hdl, hzs, htr⟩ := DgsAt.get (hds.exN x2) hda
      have hon := trs_on htr
      have lz := Paired.length hon
      have hzip := paired_zip hon
      obtain ⟨L, hL⟩ : ∃ L, L = zs.zip dg.list := ⟨_, rfl⟩
      have hL1 : L.map (·.1) = zs := by rw [hL]; exact List.map_fst_zip (by omega)
      have hL2 : L.map (·.2) = dg.list := by rw [hL]; exact List.map_snd_zip (by omega)
      rw [← hL] at hzip
      have lL : L.length = dg.list.length := by rw [← hL2, List.length_map]
      have big2 := hbig j dg hdl
      have hsrt : byText (L.map fun q => (V.ref q.1, q.2.kind)) = (L.mergeSort fun a b => decide (a.2.kind.cps.toList ≤ b.2.kind.cps.toList)).map fun q => (V.ref q.1, q.2.kind) := by
        unfold byText
        exact (List.map_mergeSort (f := fun q : Addr × Tr => (V.ref q.1, q.2.kind)) (r := fun a b => decide (a.2.kind.cps.toList ≤ b.2.kind.cps.toList)) (s := fun a b : V × Str => decide (a.2.cps.toList ≤ b.2.cps.toList)) fun a _ b _ => rfl).symm
      have hsnd : (L.mergeSort fun a b => decide (a.2.kind.cps.toList ≤ b.2.kind.cps.toList)).map (·.2) = byKind dg.list := by
        rw [← hL2]
        unfold byKind
        exact List.map_mergeSort fun a _ b _ => rfl
      refine ⟨da, L.map fun q => (V.ref q.1, q.2.kind), rfl, .inr ?_, by rw [List.length_map]; omega, fun p hp H3 s3 => ?_, fun y G3 s3 ny => ?_⟩
      · rw [List.map_map]
        have : (L.map ((·.1) ∘ fun q : Addr × Tr => (V.ref q.1, q.2.kind))) = zs.map V.ref := by rw [← hL1, List.map_map]; rfl
        rw [this]
        exact hzs
      · obtain ⟨r, hr3, rfl⟩ := List.mem_map.mp hp
        have hT := (hzip r hr3).same s3
        obtain ⟨dr, _, _, _, _, hxr, _⟩ := treeAt_ins hT
        have hmem : r.2 ∈ dg.list := by rw [← hL2]; exact List.mem_map.mpr ⟨r, hr3, rfl⟩
        exact ⟨_, rfl, r.1, dr, _, rfl, hxr, r.1, kx, r.2, rfl, hT, hway _ (hsons j dg hdl _ hmem), rfl, Same.refl _⟩
      · rw [hsrt, List.map_map]
        have s4 := same_new (o := .lst ((L.mergeSort fun a b => decide (a.2.kind.cps.toList ≤ b.2.kind.cps.toList)).map ((·.1) ∘ fun q : Addr × Tr => (V.ref q.1, q.2.kind)))) (Same.refl G3) ny
        have e4 : (upd G3 y (.lst ((L.mergeSort fun a b => decide (a.2.kind.cps.toList ≤ b.2.kind.cps.toList)).map ((·.1) ∘ fun q : Addr × Tr => (V.ref q.1, q.2.kind))))) y = some (.lst ((L.mergeSort fun a b => decide (a.2.kind.cps.toList ≤ b.2.kind.cps.toList)).map ((·.1) ∘ fun q : Addr × Tr => (V.ref q.1, q.2.kind)))) := upd_same
        generalize upd G3 y (.lst ((L.mergeSort fun a b => decide (a.2.kind.cps.toList ≤ b.2.kind.cps.toList)).map ((·.1) ∘ fun q : Addr × Tr => (V.ref q.1, q.2.kind)))) = G4 at s4 e4
        refine ⟨y, _, rfl, .inl ⟨.inl (.inl e4), fun tl ntl => ?_⟩⟩
        have s5 := same_new (o := .tup ((L.mergeSort fun a b => decide (a.2.kind.cps.toList ≤ b.2.kind.cps.toList)).map ((·.1) ∘ fun q : Addr × Tr => (V.ref q.1, q.2.kind)))) (Same.refl G4) ntl
        have e5 : (upd G4 tl (.tup ((L.mergeSort fun a b => decide (a.2.kind.cps.toList ≤ b.2.kind.cps.toList)).map ((·.1) ∘ fun q : Addr × Tr => (V.ref q.1, q.2.kind))))) tl = some (.tup ((L.mergeSort fun a b => decide (a.2.kind.cps.toList ≤ b.2.kind.cps.toList)).map ((·.1) ∘ fun q : Addr × Tr => (V.ref q.1, q.2.kind)))) := upd_same
        generalize upd G4 tl (.tup ((L.mergeSort fun a b => decide (a.2.kind.cps.toList ≤ b.2.kind.cps.toList)).map ((·.1) ∘ fun q : Addr × Tr => (V.ref q.1, q.2.kind)))) = G5 at s5 e5
        have s25 : Same G2 G5 := fun b o e => s5 _ _ (s4 _ _ (s3 _ _ e))
        have xG5 : ExtN G G5 := eN.trans (.of s25)
        have eD5 : G5 D = some (.lst (as.map V.ref)) := xG5 _ _ eD fun _ => nofun
        have hb : BdAt K C kx G5 tl dg := by
          refine ⟨(L.mergeSort fun a b => decide (a.2.kind.cps.toList ≤ b.2.kind.cps.toList)).map (·.1), .inl (.inl ?_), ?_⟩
          · rw [e5, List.map_map]
            rfl
          · rw [← hsnd]
            exact paired_pairs fun r hr3 => (hzip r ((List.mergeSort_perm L _).mem_iff.mp hr3)).same s25
        refine ⟨_, eD5, ?_, as ++ [tl], by rw [upd_same, List.map_append]; rfl, ?_, ?_, ?_⟩
        · have := Paired.length hB
          rw [List.length_take] at this
          rw [List.length_map]
          omega
        · rw [take_snoc' hdl]
          exact paired_snoc (L2.Paired.mapP hB fun _ _ q => (q.exN xG5).atl eD5) (hb.atl eD5)
        · exact fun b o e n => by rw [upd_ne (ne_of_none e hD)]; exact (xN.trans xG5) b o e n
        · refine fun p hp => ?_
          obtain ⟨ps, h1, h2, h3⟩ := (t2.ext s25) p hp
          have nb : ∀ {b : Addr} {o : HO}, G5 b = some o → (∀ zs, o ≠ .lst zs) → b ≠ D := fun e n z => by rw [z, eD5] at e; cases e; exact n _ rfl
          refine ⟨ps, by rw [upd_ne (nb h1 fun _ => nofun)]; exact h1, h2, fun pos cv hcv => ?_⟩
          obtain ⟨c0, a1, a2⟩ := h3 pos cv hcv
          exact ⟨c0, a1, by rw [upd_ne (nb a2 fun zs z => by unfold CodeO at z; cases z)]; exact a2⟩
    · obtain ⟨as, eD, hB, xN, tG⟩ := h
      rw [show (das.map V.ref).length = t.kids.list.length by rw [List.length_map, l1], List.take_length] at hB
      refine ⟨D, _, rfl, .inl ⟨.inl (.inl eD), fun p np => ?_⟩⟩
      have s2 := same_new (o := .tup (as.map V.ref)) (Same.refl G) np
      exact q p _ (xN.trans (.of s2)) (tG.ext s2) ⟨as, .inl (.inl upd_same), L2.Paired.mapP hB fun _ _ q => q.exN (.of s2)⟩
end
end Kl

set_option maxRecDepth 100000
set_option maxHeartbeats 4000000
namespace Kl
open PySem PySem.Spec PyProof.Rows L2 Gx Mx
/-! ### sorted by kind: the kinds in their order, and of each the trees in theirs -/
section
variable {α : Type} (f : α → Str)
abbrev ofK (k : Str) (L : List α) : List α := L.filter fun a => decide (f a = k)
theorem two_sorted : ∀ {A B : List α}, A.Pairwise (fun a b => leS (f a) (f b)) → B.Pairwise (fun a b => leS (f a) (f b)) → (∀ k, ofK f k A = ofK f k B) → A = B
  | [], [], _, _, _ => rfl
  | [], b :: B, _, _, h => by
    have := h (f b)
    unfold ofK at this
    rw [List.filter_cons_of_pos (by simp)] at this
    cases this
  | a :: A, [], _, _, h => by
    have := h (f a)
    unfold ofK at this
    rw [List.filter_cons_of_pos (by simp)] at this
    cases this
  | a :: A, b :: B, hA, hB, h => by
    have h1 : leS (f a) (f b) := by
      have : b ∈ ofK f (f b) (a :: A) := by
        rw [h]
        exact List.mem_filter.mpr ⟨List.mem_cons_self, by simp⟩
      rcases List.mem_cons.mp (List.mem_filter.mp this).1 with e | e
      · rw [e]
        exact leS_refl _
      · exact (List.pairwise_cons.mp hA).1 b e
    have h2 : leS (f b) (f a) := by
      have : a ∈ ofK f (f a) (b :: B) := by
        rw [← h]
        exact List.mem_filter.mpr ⟨List.mem_cons_self, by simp⟩
      rcases List.mem_cons.mp (List.mem_filter.mp this).1 with e | e
      · rw [e]
        exact leS_refl _
      · exact (List.pairwise_cons.mp hB).1 a e
    have hab : f a = f b := leS_anti h1 h2
    have e1 := h (f a)
    unfold ofK at e1
    rw [List.filter_cons_of_pos (by simp), List.filter_cons_of_pos (by simp [hab])] at e1
    injection e1 with e1 e2
    subst e1
    refine congrArg _ (two_sorted (List.pairwise_cons.mp hA).2 (List.pairwise_cons.mp hB).2 fun k => ?_)
    have e3 := h k
    unfold ofK at e3 ⊢
    by_cases c : f a = k
    · rw [List.filter_cons_of_pos (by simp [c]), List.filter_cons_of_pos (by simp [c])] at e3
      injection e3
    · rw [List.filter_cons_of_neg (by simp [c]), List.filter_cons_of_neg (by simp [c])] at e3
      exact e3
abbrev bySt (L : List α) : List α := L.mergeSort fun a b => decide ((f a).cps.toList ≤ (f b).cps.toList)
theorem bySt_sorted (L : List α) : (bySt f L).Pairwise (fun a b => leS (f a) (f b)) := by
  have := List.pairwise_mergeSort (le := fun a b : α => decide ((f a).cps.toList ≤ (f b).cps.toList)) (fun a b c h1 h2 => by
    rw [decide_eq_true_eq] at h1 h2 ⊢
    exact Std.le_trans h1 h2) (fun a b => by
    rw [Bool.or_eq_true, decide_eq_true_eq, decide_eq_true_eq]
    exact Std.le_total) L
  exact this.imp fun h => by
    rw [decide_eq_true_eq] at h
    exact List.not_lt.mpr h
theorem bySt_filter (L : List α) (k : Str) : ofK f k (bySt f L) = ofK f k L := by
  have hs : (ofK f k L).Sublist (bySt f L) := by
    refine List.sublist_mergeSort (fun a b c h1 h2 => ?_) (fun a b => ?_) ?_ List.filter_sublist
    · rw [decide_eq_true_eq] at h1 h2 ⊢
      exact Std.le_trans h1 h2
    · rw [Bool.or_eq_true, decide_eq_true_eq, decide_eq_true_eq]
      exact Std.le_total
    · refine List.Pairwise.imp_of_mem (R := fun _ _ => True) (fun {a b} ha hb _ => ?_) (List.pairwise_of_forall fun _ _ => trivial)
      have h1 : f a = k := by simpa using (List.mem_filter.mp ha).2
      have h2 : f b = k := by simpa using (List.mem_filter.mp hb).2
      rw [h1, h2, decide_eq_true_eq]
      exact Std.le_refl _
  have h2 := hs.filter (fun a => decide (f a = k))
  have e : (ofK f k L).filter (fun a => decide (f a = k)) = ofK f k L := by
    unfold ofK
    rw [List.filter_filter]
    simp
  rw [e] at h2
  refine (h2.eq_of_length ?_).symm
  exact ((List.mergeSort_perm L _).filter _).length_eq.symm
theorem groups_filter (L : List α) (k : Str) : ∀ {ks : List Str}, ks.Nodup → ofK f k ((ks.map fun z => ofK f z L).flatten) = if k ∈ ks then ofK f k L else []
  | [], _ => by simp [ofK]
  | z :: ks, nd => by
    have ih := groups_filter L k (List.nodup_cons.mp nd).2
    have nz := (List.nodup_cons.mp nd).1
    rw [List.map_cons, List.flatten_cons]
    unfold ofK at ih ⊢
    rw [List.filter_append, ih, List.filter_filter]
    by_cases c : z = k
    · subst c
      rw [if_neg nz, if_pos List.mem_cons_self, List.append_nil]
      simp
    · have : L.filter (fun a => decide (f a = k) && decide (f a = z)) = [] := by
        rw [List.filter_eq_nil_iff]
        intro a _ h
        simp only [Bool.and_eq_true, decide_eq_true_eq] at h
        exact c (h.2 ▸ h.1)
      rw [this, List.nil_append]
      have hk : (k ∈ z :: ks) ↔ k ∈ ks := by
        rw [List.mem_cons]
        exact ⟨fun h => h.resolve_left fun e => c e.symm, .inr⟩
      by_cases d : k ∈ ks
      · rw [if_pos d, if_pos (hk.mpr d)]
      · rw [if_neg d, if_neg fun h => d (hk.mp h)]
theorem groups_sorted (L : List α) {ks : List Str} (hs : ks.Pairwise leS) : ((ks.map fun z => ofK f z L).flatten).Pairwise (fun a b => leS (f a) (f b)) := by
  refine List.pairwise_flatten.mpr ⟨fun l hl => ?_, ?_⟩
  · obtain ⟨z, _, rfl⟩ := List.mem_map.mp hl
    refine List.Pairwise.imp_of_mem (R := fun _ _ => True) (fun {a b} ha hb _ => ?_) (List.pairwise_of_forall fun _ _ => trivial)
    have h1 : f a = z := by simpa using (List.mem_filter.mp ha).2
    have h2 : f b = z := by simpa using (List.mem_filter.mp hb).2
    rw [h1, h2]
    exact leS_refl _
  · rw [List.pairwise_map]
    refine hs.imp fun {z z'} h a ha b hb => ?_
    have h1 : f a = z := by simpa using (List.mem_filter.mp ha).2
    have h2 : f b = z' := by simpa using (List.mem_filter.mp hb).2
    rw [h1, h2]
    exact h
/-- the groups, one after another, are what sorting gives -/
theorem groups_eq (L : List α) {ks : List Str} (hs : sortedS ks = true) (nd : ks.Nodup) (hm : ∀ a ∈ L, f a ∈ ks) : (ks.map fun z => ofK f z L).flatten = bySt f L :=
  two_sorted f (groups_sorted f L ((sortedS_iff ks).mp hs)) (bySt_sorted f L) fun k => by
    rw [groups_filter f L k nd, bySt_filter]
    by_cases c : k ∈ ks
    · rw [if_pos c]
    · rw [if_neg c]
      refine (List.filter_eq_nil_iff.mpr fun a ha h => c ?_).symm
      rw [decide_eq_true_eq] at h
      exact h ▸ hm a ha
end
end Kl

set_option maxRecDepth 100000
set_option maxHeartbeats 4000000
namespace Gx
open PySem PySem.Spec PyProof.Rows L2
/-! ### set(tuple of texts); a field as one of several targets -/
section
variable {P : Program} {w : World} {A : Around} {s : Shared} {E : Value → Shared → Prop}
theorem call_setXT {l : Addr} {items : Array Value} {xs : List Str} {Q : Value → Shared → Prop} (hh : A.handled = none) (hl : s.heap.IsTuple l items) (hi : StrsAre items.toList xs) (few : xs.length + 1 < scanBound)
    (h : ∀ (h' : Heap) (tk : Nat), SetX P w h' s.heap.objs.size xs → (∀ b o, b < s.heap.objs.size → s.heap.get? b = some o → h'.get? b = some o) → Q (.ref s.heap.objs.size) { s with heap := h', toks := tk }) :
    wpAny (model P w) A (call (.type "set") [.ref l]) Q E s := by
  obtain ⟨c, tl, hmro⟩ := PySem.F.called_set.mro
  have hmade := PySem.F.called_set.made
  have hsub := PySem.F.called_set.sub
  refine wpAny_call (codeAny_of_tree ?_)
  show wpAny _ _ (callAny (.type "set") _) _ _ _
  refine wpAny_pure ⟨Code.quiet_builtin _ (by decide +kernel), codeAny_builtin PySem.F.entry_type_call ?_⟩
  rw [Around.under_plain (weight_type_call_type "set" [.ref l] []) rfl]
  have h1 := PySem.F.called_set.notType
  have h2 := PySem.F.called_set.canCreate
  have hct := PySem.F.typeCall_set_1 (.ref l)
  repeat (any_goals (first | assumption | wp_step))
  have R0 : SetX P w (s.heap.push { cls := .type "set", dict := none, data := .set #[] 0 (.fresh 0 0 (!w.params.followText "set-order")) }) s.heap.objs.size [] := setX_fresh
  refine codeAny_mono (code_setX (x := .ref l) (E := E) (Q₁ := fun obj s₁ => obj = .ref s.heap.objs.size ∧ s₁ = { s with heap := s.heap.push { cls := .type "set", dict := none, data := .set #[] 0 (.fresh 0 0 (!w.params.followText "set-order")) } }) ⟨rfl, rfl⟩) fun r s₁ hr => ?_
  have hS : (s.heap.push { cls := .type "set", dict := none, data := .set #[] 0 (.fresh 0 0 (!w.params.followText "set-order")) }).get? s.heap.objs.size = some { cls := .type "set", dict := none, data := .set #[] 0 (.fresh 0 0 (!w.params.followText "set-order")) } := Heap.get?_push_size _ rfl
  cases r with
  | error e => exact hr
  | ok fl =>
    cases fl with
    | ret obj =>
      obtain ⟨rfl, rfl⟩ := hr
      have hT : Shared.TypeIs { s with heap := s.heap.push ({ cls := .type "set", dict := none, data := .set #[] 0 (.fresh 0 0 (!w.params.followText "set-order")) } : Obj) } (.ref s.heap.objs.size) "set" := ⟨_, hS, rfl⟩
      have hli := PySem.F.called_set.init.lookup
      have hbi := PySem.F.called_set.init.bind (.ref s.heap.objs.size)
      repeat (any_goals (first | assumption | wp_step))
      refine codeAny_mono (codeAny_call_builtin (R := wants (fun r s₂ => r = .none ∧ ∃ h' tk, s₂ = { s with heap := h', toks := tk } ∧ SetX P w h' s.heap.objs.size xs ∧
          (∀ b o, b < s.heap.objs.size → s.heap.get? b = some o → h'.get? b = some o)) E) PySem.F.called_set.init.plain PySem.F.entry_set_init (check_set_init_1 hT ?_)) fun r₂ s₂ hr₂ => ?_
      · obtain ⟨ol, hol, hcl, nl, hdl⟩ := hl
        obtain ⟨ocls, odict, odata, oslots⟩ := ol
        simp only at hcl hdl
        subst hcl; subst hdl
        have hol' : (s.heap.push ({ cls := .type "set", dict := none, data := .set #[] 0 (.fresh 0 0 (!w.params.followText "set-order")) } : Obj)).get? l = some { cls := .type "tuple", dict := odict, data := .seq items nl, slots := oslots } := Heap.get?_push_of_some _ hol
        have hsls := PySem.F.sub_tuple_set
        have hslf := PySem.F.sub_tuple_frozenset
        have hne : (Value.type "tuple" == Value.type "dict") = false := by decide
        have hl1 : (s.heap.push ({ cls := .type "set", dict := none, data := .set #[] 0 (.fresh 0 0 (!w.params.followText "set-order")) } : Obj)).IsTuple l items := ⟨_, hol', rfl, nl, rfl⟩
        unfold Builtin.«set.__init__» noKeywords Builtin.Frozenset.updateFrom
        generalize hPI : pyIter = PI
        wp_walk
        subst hPI
        refine wpAny_pyIter_tuple hl1 ?_
        refine wpAny_bind (wpAny_runValue ?_)
        have hlS : l < s.heap.objs.size := Heap.lt_size hol
        have hh3 : A.in1.in1.in1.handled = none := by simp [hh]
        have szp : (s.heap.push ({ cls := .type "set", dict := none, data := .set #[] 0 (.fresh 0 0 (!w.params.followText "set-order")) } : Obj)).objs.size = s.heap.objs.size + 1 := Heap.size_push _ _
        have hneI : l ≠ (s.heap.push ({ cls := .type "set", dict := none, data := .set #[] 0 (.fresh 0 0 (!w.params.followText "set-order")) } : Obj)).objs.size := by rw [szp]; exact Nat.ne_of_lt (Nat.lt_succ_of_lt hlS)
        have hSf : s.heap.objs.size ∉ [(s.heap.push ({ cls := .type "set", dict := none, data := .set #[] 0 (.fresh 0 0 (!w.params.followText "set-order")) } : Obj)).objs.size, l] := by
          rw [szp]
          simp only [List.mem_cons, List.not_mem_nil, or_false, not_or]
          exact ⟨Nat.ne_of_lt (Nat.lt_succ_self _), Nat.ne_of_gt hlS⟩
        have hsz : xs.length = items.size := by rw [← StrsAre.len_eq hi, Array.length_toList]
        refine setX_loop ((Walks.tuple hh3 _ l hneI items).toS) s.heap.objs.size hSf xs hsz (by rw [← hsz]; exact few) (fun i v hv => texts_at hi i v (by rw [Array.getElem?_toList]; exact hv))
          (items.size - 0) 0 _ (by omega) (Nat.zero_le _) ⟨⟨_, Heap.get?_push_size _ rfl, rfl, rfl⟩, (hl1.push _)⟩ ?hS0 ?hR
        case hS0 => exact R0.at fun o e => Heap.get?_push_of_some _ e
        case hR =>
          intro s' hm hS'
          obtain ⟨h', g', d', tk', os'⟩ := s'
          obtain rfl : g' = s.gens := hm.gens
          obtain rfl : d' = s.drawn := hm.drawn
          obtain rfl : os' = s.os := hm.os
          show wpAny _ _ _ _ _ _
          refine wpAny_pure ?_
          show wpAny _ _ (ret Value.none) _ _ _
          refine wpAny_pure ⟨rfl, h', tk', rfl, hS', fun b o hb e => hm.heap b o ?_ (Heap.get?_push_of_some _ (Heap.get?_push_of_some _ e))⟩
          rw [szp]
          simp only [List.mem_cons, List.not_mem_nil, or_false, not_or]
          exact ⟨Nat.ne_of_lt hb, Nat.ne_of_lt (Nat.lt_succ_of_lt hb)⟩
      · cases r₂ with
        | error e => exact hr₂
        | ok fl₂ =>
          cases fl₂ with
          | ret r =>
            obtain ⟨rfl, h', tk, rfl, hS', hk'⟩ := hr₂
            repeat (any_goals (first | assumption | wp_step))
            exact h _ _ hS' hk'
          | _ => exact hr₂.elim
    | _ => exact hr.elim
end
section
variable {X : Cx}
def rSetXT (K : PySem.W.Frag) (P : Program) (w : World) : List V → Hp → VK → Prop := fun vs H Q => ∃ (l : Addr) (xs : List Str), vs = [V.ref l] ∧ SqT K H l (xs.map V.str) ∧ xs.length ≤ 1000 ∧ ∀ p, H p = none → Q (.ref p) (upd H p (SetO' P w p xs))
theorem cr_setXT (hc : X.calm = true) : CallR X (.type "set") (rSetXT X.K X.prog X.w) := by
  intro pins s σ H vs us Q I r h
  obtain ⟨l, xs, rfl, hq, few, q⟩ := h
  rw [Vals.ref1 r]
  obtain ⟨its, rv, pl, hz⟩ := I.tuple hq
  refine call_setXT (I.ok.hd hc) (show s.heap.IsTuple l its.toArray from pl) (by simpa using rv.strs) (Nat.lt_of_le_of_lt (Nat.succ_le_succ few) (by decide)) fun h' tk hS hk => ?_
  have kp : ∀ b o, s.heap.get? b = some o → h'.get? b = some o := fun b o e => hk b o (Heap.lt_size e) e
  obtain ⟨ob, ms, ep, tb, here, more⟩ := id hS
  exact ⟨.ref s.heap.objs.size, _, I.laid (t' := tk) kp (Nat.le_refl _) (show ObjOk X.prog X.w _ h' _ (SetO' X.prog X.w s.heap.objs.size xs) from ⟨hS, ⟨ob, here⟩, fun h1 h2 p k => SetX.at p k⟩), rfl, q _ (I.hok.fresh (Nat.le_refl _))⟩
theorem cr_setXTK {K : PySem.W.Frag} {P : Program} {w : World} (hk : X.K = K) (hp : X.prog = P) (hw : X.w = w) (hc : X.calm = true) : CallR X (.type "set") (rSetXT K P w) := by
  subst hk
  subst hp
  subst hw
  exact cr_setXT hc
theorem cr_sortedXK {P : Program} {w : World} (hp : X.prog = P) (hw : X.w = w) (hc : X.calm = true) : CallR X (.builtin "sorted") (rSortedX P w) := by
  subst hp
  subst hw
  exact cr_sortedX hc
/-- o.f as a target -/
def gFld (K : PySem.W.Frag) (to : TE) (f : Str) : TG := fun v σ H Q => to σ H fun x H1 => ∃ a C dx fs, x = .ref a ∧ H1 a = some (.ins C dx fs) ∧ Cls K C ∧ NoAttr K C f ∧ fs.length < 1000 ∧ Q σ (upd H1 a (.ins C dx (putF f v fs)))
theorem pg_fld {o : Expr} {f : Str} {pos' : Pos} {to : TE} (ho : PE X o to) : PG X (.Attribute o f pos') (gFld X.K to f) := by
  refine ⟨fun pins s σ H v u Q I r h => ?_⟩
  rw [assign_Attribute]
  refine wpAny_bind (wpAny_holding (thn (ho.run pins s σ H _ I h) fun ov s1 ⟨x, H1, I1, r1, q1⟩ => ?_))
  obtain ⟨a, C, dx, fs, ex, ea, c, n, l, q2⟩ := q1
  subst ex
  obtain rfl : ov = Value.ref a := r1
  refine wpAny_bind (wpAny_standAt (wpAny_bind (wpAny_holding (setattr_ok I1 ea c n l r fun s3 I3 => ?_))))
  exact wpAny_release ⟨σ, _, I3, q2⟩
end
end Gx

set_option maxRecDepth 100000
set_option maxHeartbeats 4000000
namespace Kl
open PySem PySem.Spec PyProof.Rows L2 Gx Mx LamX RZ
theorem pe_methC0 {X : Cx} {C : Addr} {m : Str} {k : Nat} {ps : List Str} {sp : Sp} {ta : TE} {o : Expr} {pos apos : Pos} {pl : Sem Bool} (he : PE X o ta) (cl : Cls X.K C) (c : CalM X.prog X.w X.K X.mg X.base C m k ps sp) (hr : Room k X.A)
    (ht : eval (.Call (.Attribute o m apos) [] [] pos) X.env = (do
      let ov ← eval o X.env
      standAt apos.atName
      let (f, first) ← holding [ov] (getMethod ov m pl)
      callWith pos f first (backTo pos (starEach [] X.env)) (backToKw pos (keywordEach [] X.env))) := by rfl) :
    PE X (.Call (.Attribute o m apos) [] [] pos) (tMethC C m sp ta tNil) := by
  obtain ⟨f, fd, F, me, b, fi⟩ := c
  rw [← tMethC_eq]
  exact pe_meth0 (pl := pl) he cl me F hr b .nil pass0 ht
theorem tf_bro (kx : Addr) (key : Int) (wl cl : Addr) (n : Nat) : List.lookup ("broken" : Str) (tf kx key wl cl n) = none := by
  have h1 : (("broken" : Str) == "_kinds") = false := by decide +kernel
  have h2 : (("broken" : Str) == "_key") = false := by decide +kernel
  have h3 : (("broken" : Str) == "_way") = false := by decide +kernel
  have h4 : (("broken" : Str) == "_children") = false := by decide +kernel
  have h5 : (("broken" : Str) == "_size") = false := by decide +kernel
  simp [List.lookup, h1, h2, h3, h4, h5]
theorem pref_lenA {α β : Type} (f : α → List β) (L : List α) (i : Nat) : (((L.take i).map f).flatten).length ≤ ((L.map f).flatten).length := by
  have e : ((L.map f).flatten) = ((L.take i).map f).flatten ++ ((L.drop i).map f).flatten := by
    rw [← List.flatten_append, ← List.map_append, List.take_append_drop]
  rw [e, List.length_append]
  omega
theorem PlAt.exN {K : PySem.W.Frag} {H H' : Hp} {t : Tr} {x : Addr} (h : PlAt K H t x) (s : ExtN H H') : PlAt K H' t x := PlAt.mono (fun _ _ q => sqT_exN s q) t x h
theorem ps_on {K : PySem.W.Frag} {G : Hp} : ∀ {d : Trs} {xs : List Addr}, PsAt K G d xs → Paired (fun y c => PlAt K G c y) xs d.list
  | .nil, xs, h => by
    unfold PsAt at h
    subst h
    exact .nil
  | .cons t r, xs, h => by
    unfold PsAt at h
    obtain ⟨x, ys, rfl, h1, h2⟩ := h
    exact .cons h1 (ps_on h2)
theorem grown_81 {leaf : Str} {M : Mak} (v : Vld leaf M) {r : Nat} {z : Str} {t : Tr} (h : Grown leaf M r z t) (hr : r ≤ 4) : t.size ≤ 81 := by
  have f := grown_facts v h
  rw [f.size]
  have h2 := siz_le v r z
  have h3 : 3 ^ r ≤ 3 ^ 4 := Nat.pow_le_pow_right (by decide) hr
  omega
section
variable {P : Program} {w : World} {K : PySem.W.Frag} {mg : Str → Option Value} {base : Heap}
/-! ### _law_is_broken_right -/
abbrev NIB : List Str := ["_law_made", "_law_tree", "_law_told", "_law_trees", "_law_some", "_law_due", "_law_kind", "_law_one", "_law_other"]
def spIB (K : PySem.W.Frag) (C : Addr) (Tb : List (Addr × Str)) : Sp := fun vs H Q _ => ∃ (x y kx : Addr) (t : Tr) (leaf z : Str) (M : Mak) (r : Nat), vs = [.ref x, .ref y] ∧ TreeAt K C kx H t x ∧ PlAt K H t y ∧ Vld leaf M ∧ Grown leaf M r z t ∧ r ≤ 4 ∧ Tabs Tb H ∧ ∀ H', ExtN H H' → Tabs Tb H' → Q (.bl true) H'
abbrev pkd (q : Addr × Tr) : Str := q.2.kind
theorem ok_ib {C f : Addr} {fd : FuncData} {Tb : List (Addr × Str)} (F : Fun K "_law_is_broken_right" "_law_is_broken_right" s_law_is_broken_right f fd) (T : Top K mg) (TC : Cl_Tree K mg C) (cb : CalM P w K mg base C "broken" 8 ["self"] (spBr K C Tb)) :
    FnOk P w K mg base CX0 9 f fd ["_law_made", "_law_tree"] (spIB K C Tb) := by
  have co : Cal P w K mg base 8 "_law_is_tree_like" ["_law_made", "_law_tree"] (spTL K C 5) := T.d_law_is_tree_like.cal fun f fd F => ok_tl 5 F T TC
  refine F.ok sc_law_is_broken_right (fun vs H Q E h => ?_) (fun cdv A outer s H vs Q E hr h => ?_)
  · obtain ⟨x, y, kx, t, leaf, z, M, r, rfl, _⟩ := h
    rfl
  · obtain ⟨x, y, kx, t, leaf, z, M, r, rfl, hT, hP, hV, hgr, hr4, hTb, q⟩ := h
    refine ⟨_, pss_cut (ps_set (i := 2) sc_law_is_broken_right.nd rfl (.inl rfl) (pe_methC0 (pv 0) TC.cl cb hr))
      (pss_cut (ps_if (PW.pt (pw_or (pt_not (pt_val (pe_callB call_isi (by rfl) T.b_isinstance (by decide +kernel) (pa_cons (pv 2) (pa_cons (pe_bltn (v := .ty "tuple") (by rfl) T.b_tuple (by decide +kernel) rfl) pa_nil)))))
          (pw_or1 (pt_cmpR op_ne (pe_callB call_len_seq (by rfl) T.b_len PySem.boot_len (pa_cons (pv 2) pa_nil)) (pe_callB call_len_seq (by rfl) T.b_len PySem.boot_len (pa_cons (pe_ix ix_tup (pv 1) pe_int (fun _ _ => rfl)) pa_nil)) (by rfl))))) (pss_one (ps_ret pe_bl)) pss_nil)
      (pss_cut (ps_for PassesOwn.never rfl (pi_zipA (by rfl) T.b_zip (pa_cons (pv 2) (pa_cons (pe_ix ix_tup (pv 1) pe_int (fun _ _ => rfl)) pa_nil))) (pg_tup rfl (pgs_cons (pg_name (i := 3) sc_law_is_broken_right.nd rfl (.inl rfl)) (pgs_cons (pg_name (i := 4) sc_law_is_broken_right.nd rfl (.inl rfl)) pgs_nil)))
        (pss_cut (ps_set (i := 5) sc_law_is_broken_right.nd rfl (.inl rfl) (pe_lst pa_nil))
        (pss_cut (ps_for PassesOwn.never rfl (pi_list (pe_callB (cr_sortedX rfl) (by rfl) T.b_sorted (by decide +kernel) (pa_cons (pe_callTy (cr_setX rfl) (by rfl) T.b_set (by decide +kernel) (pa_cons
              (pe_lc (own := [("_law_one", 7)]) (g := gName 7) (tt := tYes) rfl sc_law_is_broken_right.nd (pi_tup (pv 4)) (blkOk_by (N := NIB) (sc := defScope s_law_is_broken_right) (by decide +kernel)) (fun _ _ _ _ _ => pg_name (i := 7) sc_law_is_broken_right.nd rfl (.inl rfl)) (fun _ _ _ _ _ => pts_nil)
                (fun _ _ _ _ _ => pe_ix (ix_tupK (K := K) (by exact rfl)) (pe_ix (ix_tupK (K := K) (by exact rfl)) (pv 7) pe_int (fun _ _ => rfl)) (pe_un un_neg pe_int) (fun _ _ => rfl))) pa_nil)) pa_nil)))
            (pg_name (i := 6) sc_law_is_broken_right.nd rfl (.inr rfl))
            (pss_one (ps_expr (pe_bm PySem.F.plainAttrs_list PySem.F.slot_list_extend PySem.F.type_list_extend mt_extend (pv 5) (pa_cons
              (pe_lc (own := [("_law_one", 7)]) (g := gName 7) rfl sc_law_is_broken_right.nd (pi_tup (pv 4)) (blkOk_by (N := NIB) (sc := defScope s_law_is_broken_right) (by decide +kernel)) (fun _ _ _ _ _ => pg_name (i := 7) sc_law_is_broken_right.nd rfl (.inl rfl))
                (fun _ _ _ _ _ => pts_one (pt_cmpR op_eq (pe_ix (ix_tupK (K := K) (by exact rfl)) (pe_ix (ix_tupK (K := K) (by exact rfl)) (pv 7) pe_int (fun _ _ => rfl)) (pe_un un_neg pe_int) (fun _ _ => rfl)) (pv 6) (by rfl)))
                (fun _ _ _ _ _ => pv 7)) pa_nil)))))
        (pss_cut (ps_if (PW.pt (pw_or (pt_not (pt_val (pe_callB call_isi (by rfl) T.b_isinstance (by decide +kernel) (pa_cons (pv 3) (pa_cons (pe_bltn (v := .ty "tuple") (by rfl) T.b_tuple (by decide +kernel) rfl) pa_nil)))))
          (pw_or1 (pt_cmpR op_ne (pe_callB call_len_seq (by rfl) T.b_len PySem.boot_len (pa_cons (pv 3) pa_nil)) (pe_callB call_len_seq (by rfl) T.b_len PySem.boot_len (pa_cons (pv 5) pa_nil)) (by rfl))))) (pss_one (ps_ret pe_bl)) pss_nil)
        (pss_one (ps_if (pt_cmpR op_in_seq pe_bl (pe_lc (own := [("_law_one", 7), ("_law_other", 8)]) (g := gTup K 2 (gCons (gName 7) (gCons (gName 8) gNil))) (tt := tYes) rfl sc_law_is_broken_right.nd (pi_zipM (by rfl) T.b_zip (pa_cons (pv 3) (pa_cons (pv 5) pa_nil))) (blkOk_by (N := NIB) (sc := defScope s_law_is_broken_right) (by decide +kernel))
              (fun _ _ _ _ _ => pg_tup rfl (pgs_cons (pg_name (i := 7) sc_law_is_broken_right.nd rfl (.inl rfl)) (pgs_cons (pg_name (i := 8) sc_law_is_broken_right.nd rfl (.inl rfl)) pgs_nil))) (fun _ _ _ _ _ => pts_nil)
              (fun _ _ _ _ _ => pe_cal co hr (by rfl) (pa_cons (pv 7) (pa_cons (pv 8) pa_nil)))) (by rfl)) (pss_one (ps_ret pe_bl)) pss_nil))))))
      (pss_one (ps_ret pe_bl)))), ?_⟩
    have big : 100000 ≤ sizeLine := by decide
    have hL := grown_lik hV hgr hr4
    have h81 := grown_81 hV hgr hr4
    have kg := hL.kg
    have hkl := hL.kl
    have szk := kids_size t
    obtain ⟨dx, wl, cl, das, m0, hx, hw, hc, hds⟩ := treeAt_ins hT
    obtain ⟨wl2, cl2, das2, ey, hw2, hc2, hds2⟩ := plAt_parts hP
    have l2 := PdAt.len _ _ hds2
    rw [Dgs.len_list] at l2
    have hty : ∀ {G : Hp} {a : Addr} {zs : List V}, SqT K G a zs → TyX K G (.ref a) (.type "tuple") := fun {G a zs} hp => by
      rcases id hp with (h | ⟨o, h⟩) | ⟨o, its, m, h, c, _⟩
      · exact .base (.tup h)
      · exact .fTuple h
      · exact .kTuple h c
    have hways : ∀ u ∈ t.sons, u.way ≠ [] := fun u hu => by
      obtain ⟨l, hl, hu⟩ := List.mem_flatten.mp hu
      obtain ⟨d, hd, rfl⟩ := List.mem_map.mp hl
      obtain ⟨j, hj⟩ := List.mem_iff_getElem?.mp hd
      exact (grown_facts hV (kg j d hj u hu).2).ne
    -- broken
    refine ⟨fun σ' G => ∃ p, σ' = [some (.ref x), some (.ref y), some (.ref p), none, none, none, none, none, none] ∧ ExtN H G ∧ Tabs Tb G ∧ BrAt K C kx G p t, ?_, ?_⟩
    · exact ⟨_, rfl, x, dx, _, rfl, hx, tf_bro _ _ _ _ _, x, kx, t, rfl, hT, hL.sz, by omega, hways, hTb, fun p H' eN tT hB => ⟨p, rfl, eN, tT, hB⟩⟩
    rintro σ' G1 ⟨p, rfl, eN, tT, as, hp, hBd⟩
    have l1 := Paired.length hBd
    have ll : V.int (((as.map V.ref).length : Nat) : Int) = V.int (((das2.map V.ref).length : Nat) : Int) := by
      rw [List.length_map, List.length_map, l1, l2]
    -- the guard
    refine ⟨fun σ' G => σ' = [some (.ref x), some (.ref y), some (.ref p), none, none, none, none, none, none] ∧ G = G1, ?_, ?_⟩
    · refine ⟨_, rfl, _, .ty "tuple", .type "tuple", .type "tuple", true, rfl, .ty _, hty hp, kit_ty (by decide +kernel), true, rfl, ?_⟩
      show (if (!true) = true then _ else _)
      rw [if_neg (by decide)]
      refine ⟨_, rfl, p, _, rfl, .inr hp, _, rfl, y, _, _, .ref cl2, rfl, rfl, sqT_exN eN ey, atI_nat (j := 2) rfl, cl2, _, rfl, .inr (sqT_exN eN hc2), rfl, _, rfl, ?_⟩
      show (if (!decide (V.int (((as.map V.ref).length : Nat) : Int) = V.int (((das2.map V.ref).length : Nat) : Int))) = true then _ else _)
      rw [decide_eq_true ll, if_neg (by decide)]
      exact ⟨rfl, rfl⟩
    rintro σ' G ⟨rfl, eG⟩
    rw [eG]
    clear eG G
    -- digit by digit
    refine ⟨fun σ' G' => (∃ y3 y4 y5 y6, σ' = [some (.ref x), some (.ref y), some (.ref p), y3, y4, y5, y6, none, none]) ∧ Same G1 G', ?_, ?_⟩
    · refine ⟨_, rfl, _, rfl, y, _, _, .ref cl2, rfl, rfl, sqT_exN eN ey, atI_nat (j := 2) rfl, p, cl2, _, _, rfl, .inr ⟨hp, sqT_exN eN hc2, ?_⟩⟩
      refine for_it (walk_zipT (K := K) (a := p) (b := cl2) (xs := as.map V.ref) (ys := das2.map V.ref) (n := t.kids.list.length) (by rw [List.length_map, List.length_map]; omega)) (fun j σ' G' => (∃ y3 y4 y5 y6, σ' = [some (.ref x), some (.ref y), some (.ref p), y3, y4, y5, y6, none, none]) ∧ Same G1 G') ⟨⟨_, _, _, _, rfl⟩, Same.refl G1⟩ (fun j σ' G' _ h => ⟨sqT_st h.2 hp, sqT_st h.2 (sqT_exN eN hc2)⟩) (fun j u σ' Gx G' hj h hy => ?_) (fun σ' G' h => h)
      obtain ⟨⟨y3, y4, y5, y6, rfl⟩, sm⟩ := h
      obtain ⟨T0, u1, u2, rfl, nT0, rfl, e1, e2⟩ := hy
      obtain ⟨da, hda, rfl⟩ := refs_at' e1
      obtain ⟨db, hdb, rfl⟩ := refs_at' e2
      have s3 := same_new (o := .tup [.ref da, .ref db]) (Same.refl Gx) nT0
      have eT0 : (upd Gx T0 (.tup [.ref da, .ref db])) T0 = some (.tup [.ref da, .ref db]) := upd_same
      generalize upd Gx T0 (.tup [.ref da, .ref db]) = G3 at s3 eT0
      have s13 : Same G1 G3 := fun b o e => s3 _ _ (sm _ _ e)
      have eN3 : ExtN H G3 := eN.trans (.of s13)
      obtain ⟨d, hdl, zs, hzs, hon⟩ := paired_at hBd hda
      obtain ⟨d', ys, hdl', hys, hps⟩ := PdAt.get hds2 hdb
      rw [hdl] at hdl'
      cases hdl'
      have hzs := sqT_st s13 hzs
      have hon : TrsOn K C kx G3 zs (byKind d.list) := L2.Paired.mapP hon fun _ _ q => q.same s13
      have hys := sqT_exN eN3 hys
      have hpon : Paired (fun y c => PlAt K G3 c y) ys d.list := L2.Paired.mapP (ps_on hps) fun _ _ q => q.exN eN3
      have lpn := Paired.length hpon
      have hzip := paired_zip hpon
      have ld := trs_len_size d
      have ld2 := ds_size_get hdl
      obtain ⟨L, hLe⟩ : ∃ L, L = ys.zip d.list := ⟨_, rfl⟩
      have hL1 : L.map (·.1) = ys := by rw [hLe]; exact List.map_fst_zip (by omega)
      have hL2 : L.map (·.2) = d.list := by rw [hLe]; exact List.map_snd_zip (by omega)
      rw [← hLe] at hzip
      have lL : L.length = d.list.length := by rw [← hL2, List.length_map]
      have hysL : ys.map V.ref = L.map fun q => V.ref q.1 := by rw [← hL1, List.map_map]; rfl
      have hmem : ∀ q ∈ L, q.2 ∈ d.list := fun q hq => by rw [← hL2]; exact List.mem_map.mpr ⟨q, hq, rfl⟩
      have hne : ∀ q ∈ L, q.2.way ≠ [] := fun q hq => (grown_facts hV (kg j d hdl q.2 (hmem q hq)).2).ne
      have hB2 : (bySt pkd L).map (·.2) = byKind d.list := by
        rw [← hL2]
        exact List.map_mergeSort fun a _ b _ => rfl
      have lB : (bySt pkd L).length = L.length := List.length_mergeSort L
      have lz := Paired.length hon
      have lbk : (byKind d.list).length = d.list.length := List.length_mergeSort _
      refine ⟨T0, _, rfl, .inl (.inl eT0), rfl, _, _, rfl, _, _, rfl, rfl, ?_⟩
      -- due = []
      refine ⟨fun σ' G => ∃ dl, σ' = [some (.ref x), some (.ref y), some (.ref p), some (.ref da), some (.ref db), some (.ref dl), y6, none, none] ∧ G dl = some (.lst []) ∧ G3 dl = none ∧ Same G3 G, ?_, ?_⟩
      · exact ⟨Nat.zero_le _, fun dl ndl => ⟨dl, rfl, upd_same, ndl, same_new (Same.refl _) ndl⟩⟩
      rintro σ' G4 ⟨dl, rfl, edl, ndl, s4⟩
      -- the kinds, one after another
      refine ⟨fun σ' G => ∃ y6, σ' = [some (.ref x), some (.ref y), some (.ref p), some (.ref da), some (.ref db), some (.ref dl), y6, none, none] ∧ G dl = some (.lst ((bySt pkd L).map fun q => V.ref q.1)) ∧ Same G3 G, ?_, ?_⟩
      · have hys4 := sqT_st s4 hys
        refine ⟨_, rfl, db, rfl, ⟨_, hys4⟩, fun D hD => ?_⟩
        refine lc_it (g := gName 7) (tt := tYes) (vs := [7]) (walk_tup (K := K) (a := db) (xs := ys.map V.ref)) (fun k G => G D = some (.lst (((L.map pkd).take k).map V.str)) ∧ Same G4 G)
          ⟨upd_same, same_new (Same.refl G4) hD⟩ (fun k G _ h => sqT_st h.2 hys4) (fun k u Gy G hk h hy => ?_) (fun G h => ?_)
        · obtain ⟨eD, sk⟩ := h
          obtain ⟨rfl, hu⟩ := hy
          rw [hysL, List.getElem?_map] at hu
          obtain ⟨qq, hq, rfl⟩ := Option.map_eq_some_iff.mp hu
          have hqm := List.mem_of_getElem? hq
          obtain ⟨wq, cq, dq, eq1, hwq, _, _⟩ := plAt_parts (((hzip qq hqm).st s4).st sk)
          have hk2 : (L.map pkd)[k]? = some qq.2.kind := by rw [List.getElem?_map, hq]; rfl
          refine ⟨rfl, _, rfl, qq.1, _, _, .ref wq, rfl, rfl, eq1, atI_nat (j := 0) rfl, _, rfl, wq, _, _, .str qq.2.kind, rfl, rfl, hwq, last_at (hne qq hqm), _, eD, ?_, ?_, fun b o e => by rw [upd_ne (ne_of_none e hD)]; exact sk b o e⟩
          · rw [List.length_map, List.length_take, List.length_map]
            omega
          · rw [upd_same, take_snoc' hk2, List.map_append]
            rfl
        obtain ⟨eD, sk⟩ := h
        rw [show (ys.map V.ref).length = (L.map pkd).length by rw [hysL, List.length_map, List.length_map], List.take_length] at eD
        refine ⟨D, _, rfl, .inl (.inl eD), by rw [List.length_map]; omega, fun sp nsp => ⟨sp, _, rfl, upd_same, by rw [List.length_map]; omega, fun ks lp hs nd hm nlp => ⟨lp, rfl, ⟨_, .inl (.inl upd_same)⟩, ?_⟩⟩⟩
        have nlp' : lp ≠ dl := fun e => by
          have z := nlp
          rw [e] at z
          exact nomatch (((same_new sk nsp) _ _ edl).symm.trans z)
        have hgr := groups_eq pkd L hs nd fun a ha => (hm _).mpr (List.mem_map.mpr ⟨a, ha, rfl⟩)
        refine for_it (walk_list (K := K) (a := lp) (xs := ks.map V.str)) (fun i σ' G => (∃ y6, σ' = [some (.ref x), some (.ref y), some (.ref p), some (.ref da), some (.ref db), some (.ref dl), y6, none, none]) ∧ G dl = some (.lst ((((ks.take i).map fun z => ofK pkd z L).flatten).map fun q => V.ref q.1)) ∧ Same G3 G ∧ G lp = some (.lst (ks.map V.str)))
          ⟨⟨_, rfl⟩, (same_new (same_new sk nsp) nlp) _ _ edl, fun b o e => (same_new (same_new sk nsp) nlp) _ _ (s4 _ _ e), upd_same⟩ (fun i σ' G _ h => .inl (.inl h.2.2.2)) (fun i u σ' Gy G6 hi h hy => ?_) (fun σ' G6 h => ?_)
        rotate_left
        · obtain ⟨⟨y6, rfl⟩, e, s6, _⟩ := h
          rw [show (ks.map V.str).length = ks.length from List.length_map _, List.take_length, hgr] at e
          exact ⟨_, rfl, e, s6⟩
        obtain ⟨⟨y6', rfl⟩, edl6, s6, elp6⟩ := h
        obtain ⟨rfl, hu⟩ := hy
        rw [List.getElem?_map] at hu
        obtain ⟨kz, hkz, rfl⟩ := Option.map_eq_some_iff.mp hu
        have hys6 := sqT_st s6 hys
        have hle := pref_lenA (fun z => ofK pkd z L) ks (i + 1)
        rw [hgr, take_snoc' hkz, List.map_append, List.flatten_append, List.length_append] at hle
        have hle2 : ((([kz].map fun z => ofK pkd z L)).flatten).length = (ofK pkd kz L).length := by simp
        refine ⟨_, rfl, .inl ⟨rfl, _, .inl (.inl edl6)⟩, _, rfl, db, rfl, ⟨_, hys6⟩, fun D2 hD2 => ?_⟩
        refine lc_it (g := gName 7) (vs := [7]) (walk_tup (K := K) (a := db) (xs := ys.map V.ref)) (fun k G => G D2 = some (.lst ((ofK pkd kz (L.take k)).map fun q => V.ref q.1)) ∧ Same G6 G)
          ⟨upd_same, same_new (Same.refl G6) hD2⟩ (fun k G _ h => sqT_st h.2 hys6) (fun k u Gy G hk h hy => ?_) (fun G h => ?_)
        · obtain ⟨eD, sk⟩ := h
          obtain ⟨rfl, hu⟩ := hy
          rw [hysL, List.getElem?_map] at hu
          obtain ⟨qq, hq, rfl⟩ := Option.map_eq_some_iff.mp hu
          have hqm := List.mem_of_getElem? hq
          obtain ⟨wq, cq, dq, eq1, hwq, _, _⟩ := plAt_parts (((hzip qq hqm).st s6).st sk)
          refine ⟨rfl, _, rfl, qq.1, _, _, .ref wq, rfl, rfl, eq1, atI_nat (j := 0) rfl, _, rfl, wq, _, _, .str qq.2.kind, rfl, rfl, hwq, last_at (hne qq hqm), _, rfl, rfl, _, rfl, ?_⟩
          by_cases c : qq.2.kind = kz
          · have ec : V.str qq.2.kind = V.str kz := by rw [c]
            show (if decide (V.str qq.2.kind = V.str kz) = true then _ else _)
            rw [decide_eq_true ec, if_pos rfl]
            refine ⟨_, rfl, _, eD, ?_, ?_, fun b o e => by rw [upd_ne (ne_of_none e hD2)]; exact sk b o e⟩
            · rw [List.length_map] at hk ⊢
              have := List.length_filter_le (fun a => decide (pkd a = kz)) (L.take k)
              have := List.length_take_le k L
              unfold ofK
              omega
            · rw [upd_same, take_snoc' hq]
              unfold ofK
              rw [List.filter_append, List.filter_cons_of_pos (by simp [pkd, c]), List.filter_nil, List.map_append]
              rfl
          · have ec : ¬ V.str qq.2.kind = V.str kz := fun z => c (by cases z; rfl)
            show (if decide (V.str qq.2.kind = V.str kz) = true then _ else _)
            rw [decide_eq_false ec, if_neg (by decide)]
            refine ⟨?_, sk⟩
            rw [eD, take_snoc' hq]
            unfold ofK
            rw [List.filter_append, List.filter_cons_of_neg (by simp [pkd, c]), List.filter_nil, List.append_nil]
        obtain ⟨eD, sk⟩ := h
        rw [show (ys.map V.ref).length = L.length by rw [hysL, List.length_map], List.take_length] at eD
        refine ⟨dl, D2, _, _, rfl, rfl, sk _ _ edl6, eD, by rw [List.length_map, List.length_map]; omega, ⟨_, rfl⟩, ?_, fun b o e => by rw [upd_ne (ne_of_none e ndl)]; exact sk _ _ (s6 b o e), by rw [upd_ne nlp']; exact sk _ _ elp6⟩
        rw [upd_same, take_snoc' hkz, List.map_append, List.flatten_append, List.map_append]
        simp
      rintro σ' G6 ⟨y6', rfl, edl6, s6⟩
      have hzs6 := sqT_st s6 hzs
      have lll : V.int (((zs.map V.ref).length : Nat) : Int) = V.int ((((bySt pkd L).map fun q => V.ref q.1).length : Nat) : Int) := by
        rw [List.length_map, List.length_map, lB, lL, lz, lbk]
      refine ⟨fun σ' G => σ' = [some (.ref x), some (.ref y), some (.ref p), some (.ref da), some (.ref db), some (.ref dl), y6', none, none] ∧ G = G6, ?_, ?_⟩
      · refine ⟨_, rfl, _, .ty "tuple", .type "tuple", .type "tuple", true, rfl, .ty _, hty hzs6, kit_ty (by decide +kernel), true, rfl, ?_⟩
        show (if (!true) = true then _ else _)
        rw [if_neg (by decide)]
        refine ⟨_, rfl, da, _, rfl, .inr hzs6, _, rfl, dl, _, rfl, .inl (.inl (.inl edl6)), rfl, _, rfl, ?_⟩
        show (if (!decide (V.int (((zs.map V.ref).length : Nat) : Int) = V.int ((((bySt pkd L).map fun q => V.ref q.1).length : Nat) : Int))) = true then _ else _)
        rw [decide_eq_true lll, if_neg (by decide)]
        exact ⟨rfl, rfl⟩
      rintro σ' G ⟨rfl, eG⟩
      rw [eG]
      clear eG G
      have edl6' : SqL K G6 dl ((bySt pkd L).map fun q => V.ref q.1) := .inl (.inl edl6)
      refine ⟨_, rfl, _, rfl, da, dl, _, _, rfl, hzs6, edl6', fun D3 hD3 => ?_⟩
      refine lc_it (g := gTup K 2 (gCons (gName 7) (gCons (gName 8) gNil))) (tt := tYes) (vs := [7, 8]) (walk_zipM (K := K) (a := da) (b := dl) (xs := zs.map V.ref) (ys := (bySt pkd L).map fun q => V.ref q.1) (n := d.list.length) (by rw [List.length_map, List.length_map]; omega)) (fun k G4 => G4 D3 = some (.lst ((List.replicate k true).map V.bl)) ∧ Same G6 G4)
        ⟨upd_same, same_new (Same.refl G6) hD3⟩ (fun k G4 _ h => ⟨sqT_st h.2 hzs6, .inl (.inl (h.2 _ _ edl6))⟩) (fun k u Gy G4 hk h hy => ?_) (fun G4 h => ?_)
      · obtain ⟨eD3, s7⟩ := h
        obtain ⟨T1, v1, v2, rfl, nT1, rfl, f1, f2⟩ := hy
        obtain ⟨cx, hcx, rfl⟩ := refs_at' f1
        have f2 : ((bySt pkd L).map fun q => V.ref q.1)[k]? = some v2 := f2
        rw [List.getElem?_map] at f2
        obtain ⟨qq, hqq, rfl⟩ := Option.map_eq_some_iff.mp f2
        have s8 := same_new (o := .tup [.ref cx, .ref qq.1]) (Same.refl Gy) nT1
        have eT1 : (upd Gy T1 (.tup [.ref cx, .ref qq.1])) T1 = some (.tup [.ref cx, .ref qq.1]) := upd_same
        generalize upd Gy T1 (.tup [.ref cx, .ref qq.1]) = G5 at s8 eT1
        have s35 : Same G3 G5 := fun b o e => s8 _ _ (s7 _ _ (s6 _ _ e))
        obtain ⟨c, hcl3, hcT⟩ := paired_at hon hcx
        have hqL : qq ∈ L := (List.mergeSort_perm L _).mem_iff.mp (List.mem_of_getElem? hqq)
        have hcq : c = qq.2 := by
          rw [← hB2, List.getElem?_map, hqq] at hcl3
          cases hcl3
          rfl
        subst hcq
        obtain ⟨kj, kg2⟩ := kg j d hdl qq.2 (hmem qq hqL)
        refine ⟨T1, _, rfl, .inl (.inl eT1), rfl, _, _, rfl, _, _, rfl, rfl, rfl, _, rfl, _, rfl, cx, qq.1, kx, qq.2, leaf, M, j, rfl, hcT.same s35, (hzip qq hqL).st s35, hV, grown_lik hV kg2 (by omega), by omega, by omega, fun G7 s9 => ⟨_, s9 _ _ (s8 _ _ eD3), ?_, ?_, fun b o e => by rw [upd_ne (ne_of_none e hD3)]; exact s9 _ _ (s8 _ _ (s7 b o e))⟩⟩
        · rw [List.length_map, List.length_replicate]
          omega
        · rw [upd_same, reps_snoc]
      · obtain ⟨eD3, s7⟩ := h
        have hfl : ((List.replicate d.list.length true).map V.bl).all flatV = true := by
          rw [List.all_map]
          exact List.all_eq_true.mpr fun _ _ => rfl
        refine ⟨D3, _, rfl, .inl (.inl (.inl eD3)), rfl, hfl, _, rfl, ?_⟩
        have e0 : inV (V.bl false) ((List.replicate d.list.length true).map V.bl) = false := by
          unfold inV
          rw [List.any_map, List.any_eq_false]
          intro b hb
          rw [List.eq_of_mem_replicate hb]
          show ¬ (eqV (V.bl true) (V.bl false) = true)
          decide
        rw [show (if false = true then !inV (V.bl false) ((List.replicate d.list.length true).map V.bl) else inV (V.bl false) ((List.replicate d.list.length true).map V.bl)) = inV (V.bl false) ((List.replicate d.list.length true).map V.bl) from rfl, e0]
        show (if false = true then _ else _)
        rw [if_neg (by decide)]
        exact ⟨⟨_, _, _, _, rfl⟩, fun b o e => s7 _ _ (s6 _ _ (s13 _ _ e))⟩
    rintro σ' G2 ⟨⟨y3, y4, y5, y6, rfl⟩, s3⟩
    exact q G2 (eN.trans (.of s3)) (tT.ext s3)
end
end Kl

set_option maxRecDepth 100000
set_option maxHeartbeats 4000000
namespace Kl
open PySem PySem.Spec PyProof.Rows L2 Gx Mx
/-! ### data with great ints, small enough for repr -/
structure Bm (B k : Nat) (d : PyData) : Prop where
  lay : d.canLay0 = true
  dp : d.depth ≤ k
  wt : d.weight ≤ B
  sh : d.showable = true
  is : d.intsShort 61 = true
theorem Bm.str {B k : Nat} {s : Str} (h : PyData.strOk s = true) (hl : s.length ≤ B) : Bm B k (.str s) := ⟨h, Nat.zero_le _, hl, rfl, rfl⟩
theorem Bm.up {B B' k k' : Nat} {d : PyData} (h : Bm B k d) (hB : B ≤ B') (hk : k ≤ k') : Bm B' k' d := ⟨h.lay, Nat.le_trans h.dp hk, Nat.le_trans h.wt hB, h.sh, h.is⟩
theorem Bm.all {B k : Nat} : ∀ {ds : List PyData}, (∀ d ∈ ds, Bm B k d) → PyData.canLayAll0 ds = true ∧ PyData.depthAll ds ≤ k ∧ PyData.weightAll ds ≤ ds.length * (B + 1) ∧ PyData.showableAll ds = true ∧ PyData.intsShortAll 61 ds = true
  | [], _ => ⟨rfl, Nat.zero_le _, Nat.zero_le _, rfl, rfl⟩
  | d :: ds, h => by
    obtain ⟨h1, h2, h3, h4, h5⟩ := h d List.mem_cons_self
    obtain ⟨i1, i2, i3, i4, i5⟩ := Bm.all (ds := ds) fun x hx => h x (List.mem_cons_of_mem _ hx)
    refine ⟨?_, ?_, ?_, ?_, ?_⟩
    · rw [PyData.canLayAll0, h1, i1]; rfl
    · rw [PyData.depthAll]; exact Nat.max_le.mpr ⟨h2, i2⟩
    · rw [PyData.weightAll, List.length_cons, Nat.succ_mul]
      omega
    · rw [PyData.showableAll, h4, i4]; rfl
    · rw [PyData.intsShortAll, h5, i5]; rfl
theorem Bm.tup {B k n B' k' : Nat} {ds : List PyData} (h : ∀ d ∈ ds, Bm B k d) (hn : ds.length ≤ n) (hB : n * (B + 1) ≤ B') (hk : k + 1 ≤ k') : Bm B' k' (.tuple ds) := by
  obtain ⟨i1, i2, i3, i4, i5⟩ := Bm.all h
  have hm : ds.length * (B + 1) ≤ n * (B + 1) := Nat.mul_le_mul_right _ hn
  exact ⟨i1, by rw [PyData.depth]; omega, by rw [PyData.weight]; omega, i4, i5⟩
theorem int_log {n : Int} (h : intV (.int n) = true) : n.natAbs.log2 < 200 := by
  have et : TEN60 = ((10 ^ 60 : Nat) : Int) := by decide +kernel
  have h : (decide (-TEN60 < n) && decide (n < TEN60)) = true := h
  rw [Bool.and_eq_true, decide_eq_true_eq, decide_eq_true_eq, et] at h
  by_cases c : n.natAbs = 0
  · rw [c]
    decide
  · exact (Nat.log2_lt c).mpr (Nat.lt_of_lt_of_le (show n.natAbs < 10 ^ 60 by omega) (by decide +kernel))
theorem Bm.int {B k : Nat} {i : Int} (h : intV (.int i) = true) (hB : 200 ≤ B) : Bm B k (.int i) := by
  have hl := int_log h
  refine ⟨rfl, Nat.zero_le _, ?_, decide_eq_true (Nat.lt_trans hl (by decide)), decide_eq_true (tos_len h)⟩
  rw [PyData.weight]
  split
  · exact Nat.zero_le _
  · omega
/-- what repr asks of data -/
theorem Bm.repr {B k : Nat} {d : PyData} (h : Bm B k d) (hB : B ≤ 250000) (hk : k ≤ 60) : d.showable = true ∧ d.hasDict = false ∧ d.depth ≤ 60 ∧ d.shown.length ≤ sizeLine := by
  have hl : PyData.layable0 d = true := by
    show (PyData.canLay0 d && decide (PyData.depth d ≤ 64) && decide (PyData.weight d ≤ 2 ^ 20)) = true
    rw [h.lay, decide_eq_true (show d.depth ≤ 64 from Nat.le_trans h.dp (by omega)), decide_eq_true (show d.weight ≤ 2 ^ 20 from Nat.le_trans h.wt (Nat.le_trans hB (by decide)))]
    rfl
  have h2 := PyData.shown_le 61 (by decide) d (PyData.leavesShort_of_canLay0 61 d h.lay h.is)
  have h3 := h.wt
  have e : sizeLine = 16777216 := by decide
  exact ⟨h.sh, PyData.hasDict_of_layable hl, Nat.le_trans h.dp hk, by omega⟩
theorem keysL_mem {L : List Tr} {k : Int} (h : k ∈ keysL L) : ∃ u ∈ L, k ∈ u.ks := by
  unfold keysL at h
  obtain ⟨l, hl, hk⟩ := List.mem_flatten.mp h
  obtain ⟨u, hu, rfl⟩ := List.mem_map.mp hl
  exact ⟨u, hu, hk⟩
theorem sons_mem {t u : Tr} (h : u ∈ t.sons) : ∃ (j : Nat) (d : Trs), t.kids.list[j]? = some d ∧ u ∈ d.list := by
  obtain ⟨l, hl, hu⟩ := List.mem_flatten.mp h
  obtain ⟨d, hd, rfl⟩ := List.mem_map.mp hl
  obtain ⟨j, hj⟩ := List.mem_iff_getElem?.mp hd
  exact ⟨j, d, hj, hu⟩
/-- all keys of a grown tree are such ints -/
theorem grown_ks {leaf : Str} {M : Mak} (v : Vld leaf M) : ∀ {r : Nat} {z : Str} {t : Tr}, Grown leaf M r z t → ∀ k ∈ t.ks, intV (.int k) = true := by
  intro r
  induction r using Nat.strongRecOn with
  | _ r ih =>
    intro z t h k hk
    rw [Tr.ks_eq] at hk
    rcases List.mem_cons.mp hk with rfl | hk
    · exact (grown_facts v h).key
    · obtain ⟨u, hu, hk⟩ := keysL_mem hk
      obtain ⟨j, d, hj, hu⟩ := sons_mem hu
      obtain ⟨hjr, hg⟩ := grown_kidsG v h j d hj u hu
      exact ih j hjr hg k hk
/-- a tree, told -/
def toldT (t : Tr) (ks : List Int) (st : Str) : PyData := .tuple [.int t.key, .str t.kind, .int (t.rank : Nat), .int (t.size : Nat), .tuple (tD t.way), .tuple (iD ks), .int (t.size : Nat), .str st]
theorem bm_told {leaf : Str} {M : Mak} (v : Vld leaf M) {r : Nat} {z : Str} {t : Tr} (h : Grown leaf M r z t) (hr : r ≤ 4) {ks : List Int} (hp : ks.Perm t.ks) {st : Str} (ho : PyData.strOk st = true) (hl : st.length ≤ 1000) : Bm 250000 60 (toldT t ks st) := by
  have f := grown_facts v h
  have h81 := grown_81 v h hr
  have hkw : t.kind ∈ t.way := by
    unfold Tr.kind
    have := f.ne
    generalize t.way = W at this ⊢
    cases W with
    | nil => exact absurd rfl this
    | cons a W => rw [List.getLastD_cons]; exact List.getLastD_mem_cons
  have hkind : t.kind ∈ POOL := grown_names v h _ hkw
  have hrank : t.rank ≤ 4 := by rw [f.rank]; exact hr
  have lk : ks.length ≤ 81 := by rw [hp.length_eq, ks_len]; exact h81
  have hw : t.way.length ≤ 5 := by rw [f.way]; omega
  have b1 : Bm 20000 1 (.tuple (tD t.way)) := Bm.tup (B := 200) (k := 0) (n := 5) (fun d hd => by
    obtain ⟨y, hy, rfl⟩ := List.mem_map.mp hd
    exact Bm.str (pool_ok (grown_names v h y hy)) (Nat.le_trans (pool_len (grown_names v h y hy)) (by decide))) (by unfold tD; rw [List.length_map]; exact hw) (by decide) (by decide)
  have b2 : Bm 20000 1 (.tuple (iD ks)) := Bm.tup (B := 200) (k := 0) (n := 81) (fun d hd => by
    obtain ⟨y, hy, rfl⟩ := List.mem_map.mp hd
    exact Bm.int (grown_ks v h y (hp.mem_iff.mp hy)) (Nat.le_refl _)) (by unfold iD; rw [List.length_map]; exact lk) (by decide) (by decide)
  have n1 : intV (.int ((t.rank : Nat) : Int)) = true := nat_intV (by omega)
  have n2 : intV (.int ((t.size : Nat) : Int)) = true := nat_intV (by omega)
  refine Bm.tup (B := 20000) (k := 1) (n := 8) (fun d hd => ?_) (Nat.le_refl 8) (by decide) (by decide)
  simp only [List.mem_cons, List.not_mem_nil, or_false] at hd
  rcases hd with rfl | rfl | rfl | rfl | rfl | rfl | rfl | rfl
  · exact Bm.int f.key (by decide)
  · exact Bm.str (pool_ok hkind) (Nat.le_trans (pool_len hkind) (by decide))
  · exact Bm.int n1 (by decide)
  · exact Bm.int n2 (by decide)
  · exact b1
  · exact b2
  · exact Bm.int n2 (by decide)
  · exact Bm.str ho (by omega)
end Kl

set_option maxRecDepth 100000
set_option maxHeartbeats 4000000
namespace Kl
open PySem PySem.Spec PyProof.Rows L2 Gx Mx
theorem ok_ofString (s : String) : PyData.strOk (Str.ofString s) = true := by
  rw [Str.ofString_eq_toList]
  unfold PyData.strOk
  rw [← Array.all_toList, List.all_eq_true]
  intro c hc
  obtain ⟨ch, _, rfl⟩ := List.mem_map.mp hc
  rw [decide_eq_true_eq]
  have h1 : ch.toNat = ch.val.toNat := rfl
  have h2 : Nat.isValidChar ch.val.toNat := ch.valid
  unfold Nat.isValidChar at h2
  omega
theorem strT_ok {kind : Str} {rank size : Nat} {key : Int} (h : PyData.strOk kind = true) : PyData.strOk (strT kind rank size key) = true := by
  have e1 : PyData.strOk (" of rank " : Str) = true := ok_ofString _
  have e2 : PyData.strOk (" with " : Str) = true := ok_ofString _
  have e3 : PyData.strOk (" keys from " : Str) = true := ok_ofString _
  have e4 : PyData.strOk (" on" : Str) = true := ok_ofString _
  unfold strT
  rw [ok_app, ok_app, ok_app, ok_app, ok_app, ok_app, ok_app, h, e1, e2, e3, e4, ok_ofString, ok_ofString, ok_ofString]
  rfl
theorem strT_len {kind : Str} {rank size : Nat} {key : Int} (h : kind.length ≤ 8) (hr : rank ≤ 4) (hs : size ≤ 5000) (hk : intV (.int key) = true) : (strT kind rank size key).length ≤ 1000 := by
  have k1 : (" of rank " : Str).length = 9 := rfl
  have k2 : (" with " : Str).length = 6 := rfl
  have k3 : (" keys from " : Str).length = 11 := rfl
  have k4 : (" on" : Str).length = 3 := rfl
  have t1 := tos_len (nat_intV (n := rank) (by omega))
  have t2 := tos_len (nat_intV (n := size) (by omega))
  have t3 := tos_len hk
  unfold strT
  simp only [len_app]
  omega
theorem str_assoc (a b c : Str) : a ++ b ++ c = a ++ (b ++ c) := by
  show Str.mk ((a.cps ++ b.cps) ++ c.cps) = Str.mk (a.cps ++ (b.cps ++ c.cps))
  rw [Array.append_assoc]
/-- the words, joined -/
theorem join_words (kind a b c : Str) : Txt.join " " [kind, "of rank", a, "with", b, "keys from", c, "on"] = ((((((kind ++ " of rank ") ++ a) ++ " with ") ++ b) ++ " keys from ") ++ c) ++ " on" := by
  have h := eq_of_beq (join_plain_closes " " [kind, "of rank", a, "with", b, "keys from", c, "on"])
  have e1 : (" of rank " : Str) = " " ++ ("of rank" ++ " ") := by decide +kernel
  have e2 : (" with " : Str) = " " ++ ("with" ++ " ") := by decide +kernel
  have e3 : (" keys from " : Str) = " " ++ ("keys from" ++ " ") := by decide +kernel
  have e4 : (" on" : Str) = " " ++ "on" := by decide +kernel
  rw [h, e1, e2, e3, e4]
  show kind ++ " " ++ ("of rank" ++ " " ++ (a ++ " " ++ ("with" ++ " " ++ (b ++ " " ++ ("keys from" ++ " " ++ (c ++ " " ++ "on")))))) = _
  simp only [str_assoc]
end Kl

set_option maxRecDepth 100000
set_option maxHeartbeats 4000000
namespace Gx
open PySem PySem.Spec PyProof.Rows L2
/-! ### list(range(a, b)) -/
section
variable {X : Cx}
theorem call_listRng2 (hc : X.calm = true) : CallR X (.type "list") (fun vs H Q => ∃ (p : Addr) (a b : Int) (n : Nat), vs = [V.ref p] ∧ H p = some (.rng a b) ∧ b = a + n ∧ -1000000 ≤ a ∧ a ≤ 1000000 ∧ n ≤ 100000 ∧ ∀ l, H l = none → Q (.ref l) (upd H l (.lst ((List.range n).map fun i => V.int (a + (i : Nat)))))) := by
  intro pins s σ H vs us Q I r h
  obtain ⟨p, a, b, n, rfl, ha, hb, lo, hi, hn, q⟩ := h
  subst hb
  rw [Vals.ref1 r]
  obtain ⟨t1, t2, t3, ho⟩ := I.hok p _ ha
  refine PySem.call_list_range (a := a) (b := a + (n : Int)) (c := 1) (n := n) (I.ok.hd hc) (show IsRange s.heap p a (a + (n : Int)) 1 t1 t2 t3 from ho) ?_ ?_ (Nat.le_trans hn (by decide)) fun h' tk acc c hk hS hacc => ?_
  · exact small_one (by omega) (by omega) (by omega) (by omega)
  · rw [rangeSize_one]
    by_cases c : a < a + (n : Int)
    · rw [if_pos c]
      omega
    · rw [if_neg c]
      omega
  · have len : acc.size = n := hacc.1
    refine ⟨.ref s.heap.objs.size, _, I.laid (t' := tk) hk (Nat.le_refl _) (show ObjOk X.prog X.w _ h' _ (.lst ((List.range n).map fun i => V.int (a + (i : Nat)))) from ⟨?_, acc.toList, c, ?_, ?_⟩), rfl, q _ (I.hok.fresh (Nat.le_refl _))⟩
    · rw [List.length_map, List.length_range]
      exact Nat.le_trans hn (by decide)
    · refine vals_by _ _ (by rw [List.length_map, List.length_range, Array.length_toList, len]) fun j x u hx hu => ?_
      rw [List.getElem?_map] at hx
      obtain ⟨i, hi, rfl⟩ := Option.map_eq_some_iff.mp hx
      obtain ⟨h1, h2⟩ := List.getElem?_eq_some_iff.mp hi
      rw [List.getElem_range] at h2
      subst h2
      have hu' : acc[j]? = some u := by rw [← Array.getElem?_toList]; exact hu
      obtain ⟨tk', rfl⟩ := hacc.2 j u hu'
      exact ⟨tk', by rw [Int.mul_one]⟩
    · simpa using hS
end
end Gx

set_option maxRecDepth 100000
set_option maxHeartbeats 4000000
/-! ### repr of data, the text named: no two long texts are ever compared -/
namespace Gx
open PySem PySem.Spec PyProof.Rows L2
section
variable {X : Cx}
def rReprE (K : PySem.W.Frag) : List V → Hp → VK → Prop := fun xs H Q => ∃ (x : V) (d : PyData) (S : Str), xs = [x] ∧ Dp K H x d ∧ (d.showable = true ∧ d.hasDict = false ∧ d.depth ≤ 60 ∧ d.shown.length ≤ sizeLine) ∧ d.shown = S ∧ Q (.str S) H
theorem call_reprE (g : Gd X.A) (hu : X.A.units + 64 < cLine) : CallR X (.builtin "repr") (rReprE X.K) := by
  intro pins s σ H xs us Q I r h
  obtain ⟨x, d, S, e, hd, ⟨h1, h2, h3, h4⟩, rfl, q⟩ := h
  exact call_reprD g hu pins s σ H xs us Q I r ⟨x, d, e, hd, h1, h2, h3, h4, q⟩
end
end Gx

set_option maxRecDepth 100000
set_option maxHeartbeats 4000000
namespace Kl
open PySem PySem.Spec PyProof.Rows L2 Gx Mx LamX
theorem passX0 {X : Cx} {P : Program} {w : World} : Passes (L2.CX P w) X E0 := by
  rintro pins σ H s e s' I ⟨a, B, H', cls, d, _, _, _, _, _, _, _, no⟩
  exact no.elim
/-- the nodes as data -/
def ndD (ns : List (Int × Int)) : List PyData := ns.map fun kd => .tuple [.int kd.1, .int kd.2]
theorem nd_lay : ∀ ns : List (Int × Int), PyData.canLayAll0 (ndD ns) = true ∧ PyData.depthAll (ndD ns) ≤ 1
  | [] => ⟨rfl, Nat.zero_le _⟩
  | kd :: ns => by
    obtain ⟨h1, h2⟩ := nd_lay ns
    refine ⟨?_, ?_⟩
    · show PyData.canLayAll0 (.tuple [.int kd.1, .int kd.2] :: ndD ns) = true
      rw [PyData.canLayAll0, h1]
      rfl
    · show PyData.depthAll (.tuple [.int kd.1, .int kd.2] :: ndD ns) ≤ 1
      rw [PyData.depthAll]
      exact Nat.max_le.mpr ⟨by simp [PyData.depth, PyData.depthAll], h2⟩
theorem shaped_nodes (ns : List (Int × Int)) : SeqAt.shaped (.list (ndD ns)) = true := by
  obtain ⟨h1, h2⟩ := nd_lay ns
  unfold SeqAt.shaped
  rw [Bool.and_eq_true]
  exact ⟨h1, decide_eq_true (by rw [PyData.depth]; omega)⟩
theorem dp_nodes {K : PySem.W.Frag} {G : Hp} {rs : List Addr} {ns : List (Int × Int)} (h : Paired (fun r (kd : Int × Int) => SqT K G r [.int kd.1, .int kd.2]) rs ns) : DpAll K G (rs.map V.ref) (ndD ns) := by
  induction h with
  | nil => exact .nil
  | cons h _ ih => exact .cons (.tup h (.cons (.int _) (.cons (.int _) .nil))) ih
theorem nostop0 {K : PySem.W.Frag} : NoStop K E0 := fun _ _ _ h => by cases h
section
variable {P : Program} {w : World} {K : PySem.W.Frag} {mg : Str → Option Value} {base : Heap}
/-! ### _law_told_right -/
abbrev NTR : List Str := ["_law_made", "_law_tree", "_law_kinds", "_law_keys", "_law_kind", "_law_told", "_law_words", "_law_due", "_law_some", "_law_key"]
def spTR (K : PySem.W.Frag) (C Ck : Addr) (Tb : List (Addr × Str)) : Sp := fun vs H Q _ => ∃ (x y kx md : Addr) (t : Tr) (leaf z : Str) (M : Mak) (ns : List Str) (r : Nat), vs = [.ref x, .ref y, .ref kx] ∧ TreeAt K C kx H t x ∧ PlAt K H t y ∧ KindsAt Ck H kx md leaf M ns ∧ Vld leaf M ∧ Grown leaf M r z t ∧ r ≤ 4 ∧ Tabs Tb H ∧
  ∀ H', ExtN H H' → Tabs Tb H' → Q (.bl true) H'
theorem ok_tr {C Ck f : Addr} {fd : FuncData} {Tb : List (Addr × Str)} (F : Fun K "_law_told_right" "_law_told_right" s_law_told_right f fd) (T : Top K mg) (TC : Cl_Tree K mg C) (TK : Cl_Kinds K mg Ck) (cb : CalM P w K mg base C "broken" 8 ["self"] (spBr K C Tb)) :
    FnG P w K mg base CX0 11 f fd ["_law_made", "_law_tree", "_law_kinds"] (spTR K C Ck Tb) := by
  have kKey : CalP P w K mg base C "key" 1 (spTKey K C) := TC.p_key.cal fun f fd F => ok_tkey F TC
  have kWay : CalP P w K mg base C "way" 1 (spTWay K C) := TC.p_way.cal fun f fd F => ok_tway F TC
  have kKnd : CalP P w K mg base C "kind" 1 (spTKind K C) := TC.p_kind.cal fun f fd F => ok_tkind F TC
  have kRnk : CalP P w K mg base C "rank" 1 (spTRank K C) := TC.p_rank.cal fun f fd F => ok_trank F T TC
  have kSiz : CalP P w K mg base C "size" 1 (spTSize K C) := TC.p_size.cal fun f fd F => ok_tsize F TC
  have kKin : CalP P w K mg base C "kinds" 1 (spTKinds K C) := TC.p_kinds.cal fun f fd F => ok_tkinds F TC
  have kCon : CalP P w K mg base C "content" 4 (spTCon K C) := TC.p_content.cal fun f fd F => ok_tcon F T TC
  have kLen : CalM P w K mg base C "__len__" 1 ["self"] (spTLen K C) := TC.m_len.cal fun f fd F => ok_tlen F T TC
  have kStr : CalM P w K mg base C "__str__" 3 ["self"] (spTStr K C) := TC.m_str.cal fun f fd F => ok_tstr F T TC
  have kIn : CalM P w K mg base C "__contains__" 4 ["self", "value"] (spTInA K C) := TC.m_contains.cal fun f fd F => ok_tina F T TC
  have kEq : CalM P w K mg base Ck "__eq__" 1 ["self", "other"] (spKEq K Ck) := TK.m_eq.cal fun f fd F => ok_keq F T TK
  have cpk : Cal P w K mg base 7 "_law_plain_keys" ["_law_tree"] (spPK K 5) := T.d_law_plain_keys.cal fun f fd F => ok_pk F T
  have ctl : Cal P w K mg base 8 "_law_is_tree_like" ["_law_made", "_law_tree"] (spTL K C 5) := T.d_law_is_tree_like.cal fun f fd F => ok_tl 5 F T TC
  have ctn : Cal P w K mg base 6 "_law_tree_nodes" ["_law_tree", "_law_depth"] (spTN K 5) := T.d_law_tree_nodes.cal fun f fd F => ok_tn 5 F T
  have cib : Cal P w K mg base 9 "_law_is_broken_right" ["_law_made", "_law_tree"] (spIB K C Tb) := T.d_law_is_broken_right.cal fun f fd F => ok_ib F T TC cb
  obtain ⟨fn, fdn, Fn, bn, gn⟩ := T.d_nodes_of
  refine okG F sc_law_told_right (fun vs H Q E h => ?_) (fun cdv A outer s H vs Q E hg hr h => ?_)
  · obtain ⟨x, y, kx, md, t, leaf, z, M, ns, r, rfl, _⟩ := h
    rfl
  · obtain ⟨x, y, kx, md, t, leaf, z, M, ns, r, rfl, hT, hP, hK, hV, hgr, hr4, hTb, q⟩ := h
    have hle : ∀ {k : Nat}, k ≤ 10 → Room k _ := fun h => hr.mono h
    have r1 := hr.mono (show 2 ≤ 10 by decide)
    have r5 := hr.mono (show 5 ≤ 10 by decide)
    have r4 := hr.mono (show 4 ≤ 10 by decide)
    refine ⟨_, pss_cut (ps_asg (pe_tup (pa_cons (pe_cal cpk (hr.mono (by decide)) (by rfl) (pa_cons (pv 1) pa_nil)) (pa_cons (pe_ix ix_tup (pe_ix ix_tup (pv 1) pe_int (fun _ _ => rfl)) (pe_un un_neg pe_int) (fun _ _ => rfl)) pa_nil)))
          (pg_tup (n := 2) rfl (pgs_cons (pg_name (i := 3) sc_law_told_right.nd rfl (by first | exact .inl rfl | exact .inr rfl)) (pgs_cons (pg_name (i := 4) sc_law_told_right.nd rfl (by first | exact .inl rfl | exact .inr rfl)) pgs_nil))))
      (pss_cut (ps_set (i := 5) sc_law_told_right.nd rfl (.inl rfl) (pe_tup (pa_cons (pe_propC (pv 0) TC.cl kKey r1 rfl) (pa_cons (pe_propC (pv 0) TC.cl kKnd r1 rfl) (pa_cons (pe_propC (pv 0) TC.cl kRnk r1 rfl) (pa_cons (pe_propC (pv 0) TC.cl kSiz r1 rfl) (pa_cons (pe_propC (pv 0) TC.cl kWay r1 rfl) (pa_cons (pe_propC (pv 0) TC.cl kCon r5 rfl)
          (pa_cons (pe_callB (call_lenM kLen r1) (by rfl) T.b_len PySem.boot_len (pa_cons (pv 0) pa_nil)) (pa_cons (pe_callTy (call_strM kStr r5) (by rfl) T.b_str (by decide +kernel) (pa_cons (pv 0) pa_nil)) pa_nil))))))))))
      (pss_cut (ps_set (i := 6) sc_law_told_right.nd rfl (.inl rfl) (pe_lst (pa_cons (pv 4) (pa_cons pe_str (pa_cons (pe_callTy call_str_int (by rfl) T.b_str (by decide +kernel) (pa_cons (pe_callB call_len_seq (by rfl) T.b_len PySem.boot_len (pa_cons (pe_ix ix_tup (pv 1) pe_int (fun _ _ => rfl)) pa_nil)) pa_nil)) (pa_cons pe_str
          (pa_cons (pe_callTy call_str_int (by rfl) T.b_str (by decide +kernel) (pa_cons (pe_callB call_len_seq (by rfl) T.b_len PySem.boot_len (pa_cons (pv 3) pa_nil)) pa_nil)) (pa_cons pe_str (pa_cons (pe_callTy call_str_int (by rfl) T.b_str (by decide +kernel) (pa_cons (pe_ix ix_tup (pv 1) pe_int (fun _ _ => rfl)) pa_nil)) (pa_cons pe_str pa_nil))))))))))
      (pss_cut (ps_set (i := 7) sc_law_told_right.nd rfl (.inl rfl) (pe_tup (pa_cons (pe_ix ix_tup (pv 1) pe_int (fun _ _ => rfl)) (pa_cons (pv 4) (pa_cons (pe_callB call_len_seq (by rfl) T.b_len PySem.boot_len (pa_cons (pe_ix ix_tup (pv 1) pe_int (fun _ _ => rfl)) pa_nil)) (pa_cons (pe_callB call_len_seq (by rfl) T.b_len PySem.boot_len (pa_cons (pv 3) pa_nil))
          (pa_cons (pe_ix ix_tup (pv 1) pe_int (fun _ _ => rfl)) (pa_cons (pe_callTy call_tuple_of (by rfl) T.b_tuple (by decide +kernel) (pa_cons (pv 3) pa_nil)) (pa_cons (pe_callB call_len_seq (by rfl) T.b_len PySem.boot_len (pa_cons (pv 3) pa_nil)) (pa_cons (pe_join pe_str (pv 6)) pa_nil))))))))))
      (pss_cut (ps_if (PW.pt (pw_or (pt_cmpR op_ne (pe_callB (call_reprE hg hr.units) (by rfl) T.b_repr (by decide +kernel) (pa_cons (pv 5) pa_nil)) (pe_callB (call_reprE hg hr.units) (by rfl) T.b_repr (by decide +kernel) (pa_cons (pv 7) pa_nil)) (by rfl))
          (pw_or (pt_cmpR (op_neM kEq TK.ne TK.ob r1) (pe_propC (pv 0) TC.cl kKin r1 rfl) (pv 2) (by rfl)) (pw_or1 (pt_not (pt_val (pe_cal ctl (hr.mono (by decide)) (by rfl) (pa_cons (pv 0) (pa_cons (pv 1) pa_nil))))))))) (pss_one (ps_ret pe_bl)) pss_nil)
      (pss_cut (ps_if (PW.pt (pw_or (pt_cmpR (op_neD hr.units) (pe_listG (pgen_call (k := 4) (E := E0) (ok_no (P := P) (w := w) (base := base) Fn T TC) (hr.mono (by decide)) (by rfl) gn Fn.kp bn .nil (pa_cons (pv 0) pa_nil)) passX0 nostop0 (hr.mono (by decide)) (by rfl) T.b_list (by decide +kernel)) (pe_cal ctn (hr.mono (by decide)) (by rfl) (pa_cons (pv 1) (pa_cons pe_int pa_nil))) (by rfl))
          (pw_or1 (pt_not (pt_val (pe_cal cib (hr.mono (by decide)) (by rfl) (pa_cons (pv 0) (pa_cons (pv 1) pa_nil)))))))) (pss_one (ps_ret pe_bl)) pss_nil)
      (pss_cut (ps_set (i := 8) sc_law_told_right.nd rfl (.inl rfl) (pe_op op_cat (pe_callTy (call_listRng2 rfl) (by rfl) T.b_list (by decide +kernel) (pa_cons (pe_callTy cr_range2 (by rfl) T.b_range (by decide +kernel) (pa_cons (pe_op op_sub pe_int pe_int) (pa_cons pe_int pa_nil))) pa_nil))
          (pe_lst (pa_cons (pe_op op_pow pe_int pe_int) (pa_cons (pe_op op_pow pe_int pe_int) (pa_cons (pe_op op_sub (pe_op op_pow pe_int pe_int) pe_int) pa_nil))))))
      (pss_cut (ps_if (PW.pt (pw_or (pt_cmpR (op_neD hr.units) (pe_lc (own := [("_law_key", 9)]) (g := gName 9) rfl sc_law_told_right.nd (pi_list (pv 8)) (blkOk_by (N := NTR) (sc := defScope s_law_told_right) (by decide +kernel)) (fun _ _ _ _ _ => pg_name (i := 9) sc_law_told_right.nd rfl (.inl rfl))
            (fun _ _ _ _ _ => pts_one (pt_cmpR op_ne (pe_cmpR (op_inM kIn r4) (pv 9) (pv 0) (by rfl)) (pe_cmpR (op_inSeqK (K := K) (by exact rfl)) (pv 9) (pv 3) (by rfl)) (by rfl))) (fun _ _ _ _ _ => pv 9)) (pe_lst pa_nil) (by rfl))
          (pw_or1 (pt_cmpR (op_inM kIn r4) (pe_tup (pa_cons (pe_ix ix_list (pv 3) pe_int (fun _ _ => rfl)) pa_nil)) (pv 0) (by rfl))))) (pss_one (ps_ret pe_bl)) pss_nil)
      (pss_one (ps_ret (pe_and (pe_cmpR (op_notinM kIn r4) pe_non (pv 0) (by rfl)) (pe_one (pe_cmpR (op_notinM kIn r4) pe_bl (pv 0) (by rfl))))))))))))), ?_⟩
    have big : 100000 ≤ sizeLine := by decide
    have f := grown_facts hV hgr
    have hL := grown_lik hV hgr hr4
    have h81 := grown_81 hV hgr hr4
    have hkw : t.kind ∈ t.way := by
      unfold Tr.kind
      have := f.ne
      generalize t.way = W at this ⊢
      cases W with
      | nil => exact absurd rfl this
      | cons a W => rw [List.getLastD_cons]; exact List.getLastD_mem_cons
    have hkind : t.kind ∈ POOL := grown_names hV hgr _ hkw
    have hkl := pool_len hkind
    have hrank : t.rank ≤ 4 := by rw [f.rank]; exact hr4
    have hhi : t.hi < 5 := by
      have := f.hi
      omega
    have n1 : intV (.int ((t.rank : Nat) : Int)) = true := nat_intV (by omega)
    have n2 : intV (.int ((t.size : Nat) : Int)) = true := nat_intV (by omega)
    obtain ⟨dx, wl, cl, das, m0, hx, hw, hc, hds⟩ := treeAt_ins hT
    obtain ⟨wl2, cl2, das2, ey, hw2, hc2, hds2⟩ := plAt_parts hP
    have l2 := PdAt.len _ _ hds2
    have lr : (das2.map V.ref).length = t.rank := by rw [List.length_map, l2]; rfl
    -- the keys and the kind
    refine ⟨fun σ' G => ∃ (l : Addr) (ks : List Int), σ' = [some (.ref x), some (.ref y), some (.ref kx), some (.ref l), some (.str t.kind), none, none, none, none, none] ∧ Same H G ∧ G l = some (.lst (ks.map V.int)) ∧ ks.Perm t.ks ∧ ks.Pairwise (· ≤ ·), ?_, ?_⟩
    · refine ⟨_, rfl, y, t, rfl, hP, hhi, by omega, fun l H1 ks s1 el hper hsort => ⟨_, rfl, y, _, _, .ref wl2, rfl, rfl, sqT_st s1 ey, atI_nat (j := 0) rfl, _, rfl, wl2, _, _, .str t.kind, rfl, rfl, sqT_st s1 hw2, last_at hL.ne, by show 2 ≤ sizeLine; omega, fun tp ntp => ⟨tp, _, rfl, .inl (.inl upd_same), rfl, _, _, rfl, _, _, rfl, rfl, ?_⟩⟩⟩
      have s2 := same_new (o := .tup [.ref l, .str t.kind]) (Same.refl H1) ntp
      exact ⟨l, ks, rfl, fun b o e => s2 _ _ (s1 _ _ e), s2 _ _ el, hper, hsort⟩
    rintro σ' G1 ⟨l, ks, rfl, s1, el, hper, hsort⟩
    have lks : ks.length = t.size := by rw [hper.length_eq, ks_len]
    have hxG := s1 _ _ hx
    have hTG := hT.same s1
    have eyG := sqT_st s1 ey
    -- what it tells
    refine ⟨fun σ' G => ∃ tp : Addr, σ' = [some (.ref x), some (.ref y), some (.ref kx), some (.ref l), some (.str t.kind), some (.ref tp), none, none, none, none] ∧ Same G1 G ∧ Dp K G (.ref tp) (toldT t ks (strT t.kind t.rank t.size t.key)), ?_, ?_⟩
    · refine ⟨_, rfl, x, dx, _, rfl, hxG, x, kx, t, rfl, hTG, _, rfl, x, dx, _, rfl, hxG, x, kx, t, rfl, hTG, hL.ne, _, rfl, x, dx, _, rfl, hxG, x, kx, t, rfl, hTG, _, rfl, x, dx, _, rfl, hxG, x, kx, t, rfl, hTG, _, rfl, x, dx, _, rfl, hxG, x, kx, t, rfl, hTG, fun wl' hw' => ?_⟩
      refine ⟨_, rfl, x, dx, _, rfl, hxG, x, kx, t, rfl, hTG, hL.sz, fun cp G2 ks' s2 hcp hper' hsort' => ?_⟩
      have hks : ks' = ks := List.Perm.eq_of_pairwise (fun a b _ _ h1 h2 => Int.le_antisymm h1 h2) hsort' hsort (hper'.trans hper.symm)
      subst hks
      refine ⟨_, rfl, x, dx, _, rfl, s2 _ _ hxG, x, kx, t, rfl, hTG.same s2, hL.sz, fun G3 s3 => ⟨t.size, rfl, by omega, ?_⟩⟩
      have s23 : Same G1 G3 := fun b o e => s3 _ _ (s2 _ _ e)
      refine ⟨_, rfl, x, dx, _, rfl, s23 _ _ hxG, x, kx, t, rfl, hTG.same s23, hL.sz, hL.ne, by omega, by omega, f.key, _, rfl, by show 8 ≤ sizeLine; omega, fun tp ntp => ⟨tp, rfl, same_new s23 ntp, ?_⟩⟩
      exact .tup (.inl (.inl upd_same)) (.cons (.int _) (.cons (.str _) (.cons (.int _) (.cons (.int _) (.cons (.tup (sqT_st (same_new s23 ntp) hw') (dp_texts _)) (.cons (.tup (sqT_st (same_new (Same.refl _) ntp) (sqT_st s3 hcp)) (dp_ints _)) (.cons (.int _) (.cons (.str _) .nil))))))))
    rintro σ' G2 ⟨tp, rfl, s2, hd1⟩
    have s02 : Same H G2 := fun b o e => s2 _ _ (s1 _ _ e)
    have el2 := s2 _ _ el
    -- the words
    refine ⟨fun σ' G => ∃ wd : Addr, σ' = [some (.ref x), some (.ref y), some (.ref kx), some (.ref l), some (.str t.kind), some (.ref tp), some (.ref wd), none, none, none] ∧ Same G2 G ∧ G wd = some (.lst (([t.kind, "of rank", Str.ofString (toString ((t.rank : Nat) : Int)), "with", Str.ofString (toString ((t.size : Nat) : Int)), "keys from", Str.ofString (toString t.key), "on"] : List Str).map V.str)), ?_, ?_⟩
    · refine ⟨_, rfl, _, rfl, y, _, _, .ref cl2, rfl, rfl, sqT_st s02 ey, atI_nat (j := 2) rfl, cl2, _, rfl, .inr (sqT_st s02 hc2), _, rfl, ?_, _, rfl, l, _, rfl, .inl (.inl (.inl el2)), _, rfl, ?_, _, rfl, y, _, _, .int t.key, rfl, rfl, sqT_st s02 ey, atI_nat (j := 1) rfl, _, rfl, tos_log f.key, by show 8 ≤ sizeLine; omega, fun wd nwd => ⟨wd, rfl, same_new (Same.refl _) nwd, ?_⟩⟩
      · rw [lr]; exact tos_log n1
      · rw [List.length_map, lks]; exact tos_log n2
      · rw [upd_same, lr, List.length_map, lks]
        rfl
    rintro σ' G3 ⟨wd, rfl, s3, ewd⟩
    have s13 : Same G1 G3 := fun b o e => s3 _ _ (s2 _ _ e)
    have s03 : Same H G3 := fun b o e => s3 _ _ (s02 _ _ e)
    have el3 := s3 _ _ el2
    -- what is due
    refine ⟨fun σ' G => ∃ du : Addr, σ' = [some (.ref x), some (.ref y), some (.ref kx), some (.ref l), some (.str t.kind), some (.ref tp), some (.ref wd), some (.ref du), none, none] ∧ Same G3 G ∧ Dp K G (.ref du) (toldT t ks (strT t.kind t.rank t.size t.key)), ?_, ?_⟩
    · refine ⟨_, rfl, y, _, _, .int t.key, rfl, rfl, sqT_st s03 ey, atI_nat (j := 1) rfl, _, rfl, _, rfl, y, _, _, .ref cl2, rfl, rfl, sqT_st s03 ey, atI_nat (j := 2) rfl, cl2, _, rfl, .inr (sqT_st s03 hc2), _, rfl, l, _, rfl, .inl (.inl (.inl el3)),
        _, rfl, y, _, _, .ref wl2, rfl, rfl, sqT_st s03 ey, atI_nat (j := 0) rfl, _, rfl, l, _, rfl, .inl ⟨.inl (.inl el3), fun kt nkt => ?_⟩⟩
      have s5 := same_new (o := .tup (ks.map V.int)) (Same.refl G3) nkt
      refine ⟨_, rfl, l, _, rfl, .inl (.inl (.inl (s5 _ _ el3))), ⟨_, rfl⟩, _, rfl, " ", wd, _, rfl, rfl, .inl (.inl (.inl (s5 _ _ ewd))), ?_, by show 8 ≤ sizeLine; omega, fun du ndu => ⟨du, rfl, same_new s5 ndu, ?_⟩⟩
      · have t1 := tos_len n1
        have t2 := tos_len n2
        have t3 := tos_len f.key
        have q1 : ("of rank" : Str).length = 7 := rfl
        have q2 : ("with" : Str).length = 4 := rfl
        have q3 : ("keys from" : Str).length = 9 := rfl
        have q4 : ("on" : Str).length = 2 := rfl
        have q5 : (" " : Str).length = 1 := rfl
        simp only [List.map_cons, List.map_nil, List.sum_cons, List.sum_nil, List.length_cons, List.length_nil]
        omega
      · have e1 : V.int (((das2.map V.ref).length : Nat) : Int) = V.int ((t.rank : Nat) : Int) := by rw [lr]
        have e2 : V.int (((ks.map V.int).length : Nat) : Int) = V.int ((t.size : Nat) : Int) := by rw [List.length_map, lks]
        rw [e1, e2, join_words]
        exact .tup (.inl (.inl upd_same)) (.cons (.int _) (.cons (.str _) (.cons (.int _) (.cons (.int _) (.cons (.tup (sqT_st (same_new s5 ndu) (sqT_st s03 hw2)) (dp_texts _)) (.cons (.tup (sqT_st (same_new (Same.refl _) ndu) (.inl (.inl upd_same))) (dp_ints _)) (.cons (.int _) (.cons (.str _) .nil))))))))
    rintro σ' G4 ⟨du, rfl, s4, hd2⟩
    have s14 : Same G1 G4 := fun b o e => s4 _ _ (s13 _ _ e)
    have s04 : Same H G4 := fun b o e => s4 _ _ (s03 _ _ e)
    have hd1' : Dp K G4 (.ref tp) (toldT t ks (strT t.kind t.rank t.size t.key)) := dp_st (fun b o e => s4 _ _ (s3 _ _ e)) _ _ hd1
    have hbm := (bm_told hV hgr hr4 hper (strT_ok (rank := t.rank) (size := t.size) (key := t.key) (pool_ok hkind)) (strT_len hkl hrank (by omega) f.key)).repr (by decide) (by decide)
    obtain ⟨S0, hS0⟩ : ∃ S, (toldT t ks (strT t.kind t.rank t.size t.key)).shown = S := ⟨_, rfl⟩
    have hx4 := s04 _ _ hx
    have hT4 := hT.same s04
    have hK4 := hK.same s04
    obtain ⟨dk, nt, kvs, hkx, _⟩ := id hK4
    -- alike
    refine ⟨fun σ' G => σ' = [some (.ref x), some (.ref y), some (.ref kx), some (.ref l), some (.str t.kind), some (.ref tp), some (.ref wd), some (.ref du), none, none] ∧ Same G4 G, ?_, ?_⟩
    · refine ⟨_, rfl, _, _, _, rfl, hd1', hbm, hS0, _, rfl, _, _, _, rfl, hd2, hbm, hS0, rfl, _, rfl, ?_⟩
      show (if (!decide (V.str S0 = V.str S0)) = true then _ else _)
      rw [decide_eq_true rfl, if_neg (by decide)]
      refine ⟨_, rfl, x, dx, _, rfl, hx4, x, kx, t, rfl, hT4, _, rfl, kx, dk, _, _, rfl, hkx, .ins hkx, kx, md, leaf, M, ns, .ref kx, rfl, hK4, hV, .inl ⟨kx, md, leaf, M, ns, rfl, hK4, hV, _, rfl, ?_⟩⟩
      rw [show (decide (leaf = leaf) && eqB M M) = true from by rw [eqB_self hV.nd, decide_eq_true rfl]; rfl]
      refine ⟨_, rfl, ?_⟩
      show (if (!true) = true then _ else _)
      rw [if_neg (by decide)]
      refine ⟨_, rfl, _, rfl, x, y, kx, t, leaf, M, r, rfl, hT4, hP.st s04, hV, hL, by omega, hr4, fun G5 s5 => ⟨_, rfl, ?_⟩⟩
      show (if (!true) = true then _ else _)
      rw [if_neg (by decide)]
      exact ⟨rfl, s5⟩
    rintro σ' G5 ⟨rfl, s5⟩
    have s05 : Same H G5 := fun b o e => s5 _ _ (s04 _ _ e)
    -- the nodes, and the broken children
    refine ⟨fun σ' G => σ' = [some (.ref x), some (.ref y), some (.ref kx), some (.ref l), some (.str t.kind), some (.ref tp), some (.ref wd), some (.ref du), none, none] ∧ ExtN G5 G ∧ Tabs Tb G, ?_, ?_⟩
    · refine ⟨_, rfl, x, kx, t, rfl, hT.same s05, hL.sz, fun rs G6 s6 hN p np => ⟨_, rfl, y, t, 0, rfl, hP.st (fun b o e => (same_new s6 np) _ _ (s05 _ _ e)), hhi, by omega, fun l7 G7 s7 hN7 => ?_⟩⟩
      obtain ⟨rs7, el7, hP7⟩ := hN7
      have s57 : Same G5 G7 := fun b o e => s7 _ _ ((same_new s6 np) _ _ e)
      have s07 : Same H G7 := fun b o e => s57 _ _ (s05 _ _ e)
      refine ⟨.list (ndD (t.nodes 0)), .list (ndD (t.nodes 0)), .lst (.inl (.inl (s7 _ _ upd_same))) (dp_nodes (L2.Paired.mapP hN fun _ _ q => sqT_st (fun b o e => s7 _ _ ((same_new (Same.refl _) np) _ _ e)) q)), .lst (.inl (.inl el7)) (dp_nodes hP7), shaped_nodes _, shaped_nodes _, ?_⟩
      rw [PySem.SeqAt.eqv_refl _ (PySem.SeqAt.canLay_of_shaped (shaped_nodes _))]
      refine ⟨_, rfl, ?_⟩
      show (if (!true) = true then _ else _)
      rw [if_neg (by decide)]
      refine ⟨_, rfl, _, rfl, x, y, kx, t, leaf, z, M, r, rfl, hT.same s07, hP.st s07, hV, hgr, hr4, hTb.ext s07, fun G8 e8 t8 => ⟨_, rfl, ?_⟩⟩
      show (if (!true) = true then _ else _)
      rw [if_neg (by decide)]
      exact ⟨rfl, (ExtN.of s57).trans e8, t8⟩
    rintro σ' G6 ⟨rfl, e6, t6⟩
    have e06 : ExtN H G6 := (ExtN.of s05).trans e6
    have el6 : G6 l = some (.lst (ks.map V.int)) := e6 _ _ (s5 _ _ (s4 _ _ el3)) fun _ => nofun
    -- some ints
    refine ⟨fun σ' G => ∃ (sl : Addr) (zs : List Int), σ' = [some (.ref x), some (.ref y), some (.ref kx), some (.ref l), some (.str t.kind), some (.ref tp), some (.ref wd), some (.ref du), some (.ref sl), none] ∧ Same G6 G ∧ G sl = some (.lst (zs.map V.int)), ?_, ?_⟩
    · refine ⟨_, _, rfl, rfl, _, _, rfl, fun rp nrp => ⟨rp, _, _, 19, rfl, upd_same, by decide, by decide, by decide, by decide, fun lp nlp => ⟨_, _, rfl, rfl, ⟨by decide, by decide, by decide⟩, _, _, rfl, rfl, ⟨by decide, by decide, by decide⟩, _, _, rfl, rfl, ⟨by decide, by decide, by decide⟩, _, _, rfl, rfl, by show 3 ≤ sizeLine; omega, fun bp nbp => ?_⟩⟩⟩
      refine ⟨lp, bp, _, _, rfl, rfl, (same_new (Same.refl _) nbp) _ _ upd_same, upd_same, ?_, fun sl nsl => ⟨sl, ((List.range 19).map fun i => ((0 - 9 : Int) + (i : Nat))) ++ [10 ^ (59 : Int).toNat, 10 ^ (60 : Int).toNat, 10 ^ (60 : Int).toNat - 1], rfl, same_new (same_new (same_new (same_new (Same.refl G6) nrp) nlp) nbp) nsl, ?_⟩⟩
      · show _ ≤ sizeLine
        simp only [List.length_map, List.length_range, List.length_cons, List.length_nil]
        omega
      · rw [upd_same, List.map_append, List.map_map]
        rfl
    rintro σ' G7 ⟨sl, zs, rfl, s7, esl⟩
    have hx7 := s7 _ _ (e06 _ _ hx fun _ => nofun)
    have hT7 : TreeAt K C kx G7 t x := (hT.exN e06).same s7
    have el7 := s7 _ _ el6
    have hty : ∀ {G : Hp} {a : Addr} {zs : List V}, SqT K G a zs → TyX K G (.ref a) (.type "tuple") := fun {G a zs} hp => by
      rcases id hp with (h | ⟨o, h⟩) | ⟨o, its, m, h, c, _⟩
      · exact .base (.tup h)
      · exact .fTuple h
      · exact .kTuple h c
    have hfl : (ks.map V.int).all flatV = true := by
      rw [List.all_map]
      exact List.all_eq_true.mpr fun _ _ => rfl
    have hks0 : ∃ k0 r0, ks = k0 :: r0 := by
      cases ks with
      | nil =>
        have := Tr.size_pos t
        simp at lks
        omega
      | cons a b => exact ⟨a, b, rfl⟩
    obtain ⟨k0, r0, hk0⟩ := hks0
    have hat : (ks.map V.int)[0]? = some (V.int k0) := by rw [hk0]; rfl
    have hin : ∀ i, (intV (.int i) && inV (.int i) (t.ks.map V.int)) = inV (.int i) (ks.map V.int) := fun i => by
      rw [← inV_perm (hper.map V.int)]
      cases hi : intV (.int i) with
      | true => exact Bool.true_and _
      | false =>
        rw [Bool.false_and]
        refine (Bool.eq_false_iff.mpr fun h => ?_).symm
        unfold inV at h
        rw [List.any_eq_true] at h
        obtain ⟨v, hv, e⟩ := h
        obtain ⟨k, hk, rfl⟩ := List.mem_map.mp hv
        have : k = i := by simpa [eqV] using e
        rw [← this, grown_ks hV hgr k (hper.mem_iff.mp hk)] at hi
        cases hi
    -- none of them is told wrongly
    refine ⟨fun σ' G => σ' = [some (.ref x), some (.ref y), some (.ref kx), some (.ref l), some (.str t.kind), some (.ref tp), some (.ref wd), some (.ref du), some (.ref sl), none] ∧ Same G7 G, ?_, ?_⟩
    · refine ⟨_, rfl, sl, rfl, ⟨_, .inl (.inl esl)⟩, fun D hD => ?_⟩
      refine lc_it (g := gName 9) (vs := [9]) (walk_list (K := K) (a := sl) (xs := zs.map V.int)) (fun j G => G D = some (.lst []) ∧ Same G7 G) ⟨upd_same, same_new (Same.refl _) hD⟩ (fun j G _ h => .inl (.inl (h.2 _ _ esl))) (fun j u Gy G hj h hy => ?_) (fun G h => ?_)
      · obtain ⟨eD, s8⟩ := h
        obtain ⟨rfl, hu⟩ := hy
        rw [List.getElem?_map] at hu
        obtain ⟨i, hi, rfl⟩ := Option.map_eq_some_iff.mp hu
        refine ⟨rfl, _, rfl, _, rfl, x, dx, _, rfl, s8 _ _ hx7, x, kx, t, .int i, rfl, hT7.same s8, hL.sz, .inl ⟨i, rfl⟩, fun G9 s9 => ⟨_, rfl, _, rfl, _, rfl, l, _, rfl, .inl (.inl (.inl (s9 _ _ (s8 _ _ el7)))), rfl, hfl, rfl, _, rfl, ?_⟩⟩
        rw [hin i]
        have ed : decide (V.bl (inV (.int i) (ks.map V.int)) = V.bl (inV (.int i) (ks.map V.int))) = true := decide_eq_true rfl
        show (if (!decide (V.bl (inV (.int i) (ks.map V.int)) = V.bl (inV (.int i) (ks.map V.int)))) = true then _ else _)
        rw [ed, if_neg (by decide)]
        exact ⟨s9 _ _ eD, fun b o e => s9 _ _ (s8 b o e)⟩
      · obtain ⟨eD, s8⟩ := h
        refine ⟨Nat.zero_le _, fun ep nep => ⟨.list [], .list [], .lst (.inl (.inl ((same_new (Same.refl _) nep) _ _ eD))) .nil, .lst (.inl (.inl upd_same)) .nil, rfl, rfl, ?_⟩⟩
        rw [PySem.SeqAt.eqv_refl _ (PySem.SeqAt.canLay_of_shaped (show SeqAt.shaped (.list []) = true from rfl))]
        refine ⟨_, rfl, ?_⟩
        show (if (!true) = true then _ else _)
        rw [if_neg (by decide)]
        refine ⟨_, rfl, l, _, _, .int k0, rfl, rfl, .inl (.inl ((same_new s8 nep) _ _ el7)), atI_nat (j := 0) hat, by show 1 ≤ sizeLine; omega, fun t2 nt2 => ⟨_, rfl, x, dx, _, rfl, (same_new (same_new s8 nep) nt2) _ _ hx7, x, kx, t, .ref t2, rfl, hT7.same (same_new (same_new s8 nep) nt2), hL.sz, .inr (.inr ⟨fun i => nofun, _, hty (.inl (.inl upd_same)), kit_ty (by decide +kernel)⟩), fun G9 s9 => ⟨_, rfl, _, rfl, ?_⟩⟩⟩
        show (if false = true then _ else _)
        rw [if_neg (by decide)]
        exact ⟨rfl, fun b o e => s9 _ _ ((same_new (same_new s8 nep) nt2) _ _ e)⟩
    rintro σ' G8 ⟨rfl, s8⟩
    refine ⟨_, rfl, x, dx, _, rfl, s8 _ _ hx7, x, kx, t, .non, rfl, hT7.same s8, hL.sz, .inr (.inr ⟨fun i => nofun, _, .base .non, kit_ty (by decide +kernel)⟩), fun G9 s9 => ⟨_, rfl, _, rfl, ?_⟩⟩
    show (if true = true then _ else _)
    rw [if_pos rfl]
    refine ⟨_, rfl, x, dx, _, rfl, s9 _ _ (s8 _ _ hx7), x, kx, t, .bl true, rfl, (hT7.same s8).same s9, hL.sz, .inr (.inl ⟨true, rfl⟩), fun G10 s10 => ⟨_, rfl, ?_⟩⟩
    have s710 : Same G6 G10 := fun b o e => s10 _ _ (s9 _ _ (s8 _ _ (s7 _ _ e)))
    exact q G10 (e06.trans (.of s710)) (t6.ext s710)
end
end Kl

set_option maxRecDepth 100000
set_option maxHeartbeats 4000000
namespace Kl
open PySem PySem.Spec PyProof.Rows L2 Gx Mx
/-- a kind and a rank at which it exists, as a tuple -/
def PlcAt (leaf : Str) (M : Mak) (G : Hp) (a : Addr) : Prop := ∃ (z : Str) (r : Nat), G a = some (.tup [.str z, .int (r : Nat)]) ∧ z ∈ setR leaf M r ∧ r ≤ 4
theorem PlcAt.st {leaf : Str} {M : Mak} {G G' : Hp} {a : Addr} (h : PlcAt leaf M G a) (s : Same G G') : PlcAt leaf M G' a := by
  obtain ⟨z, r, e, m⟩ := h
  exact ⟨z, r, s _ _ e, m⟩
theorem PlcAt.atl {leaf : Str} {M : Mak} {G : Hp} {a l : Addr} {ys : List V} {o : HO} (h : PlcAt leaf M G a) (e : G l = some (.lst ys)) : PlcAt leaf M (upd G l o) a := by
  obtain ⟨z, r, e1, m⟩ := h
  exact ⟨z, r, by rw [upd_ne (fun q => by rw [q, e] at e1; cases e1)]; exact e1, m⟩
section
variable {P : Program} {w : World} {K : PySem.W.Frag} {mg : Str → Option Value} {base : Heap}
/-! ### _law_drawn_place -/
abbrev NDR : List Str := ["_law_dice_here", "_law_plain", "_law_most", "_law_sizes_here", "_law_found", "_law_rank", "_law_name", "_law_place"]
def spDR : Sp := fun vs H Q _ => ∃ (d pl mk : Addr) (leaf : Str) (kvs : List (Key × V)) (M M1 : Mak), vs = [V.ref d, .ref pl, .int 4] ∧ H pl = some (.dK (bookK leaf mk)) ∧ H mk = some (.dK kvs) ∧ MakAt H kvs M ∧ Vld leaf M ∧ OrdOf M M1 ∧ DiceAt H d ∧
  ∀ a H', PlcAt leaf M1 H' a → SameX d H H' → DiceAt H' d → Q (.ref a) H'
theorem ok_dr {f : Addr} {fd : FuncData} (F : Fun K "_law_drawn_place" "_law_drawn_place" s_law_drawn_place f fd) (T : Top K mg) : FnOk P w K mg base CX0 3 f fd ["_law_dice_here", "_law_plain", "_law_most"] spDR := by
  have cs : Cal P w K mg base 2 "_law_sizes" ["_law_plain", "_law_bound"] spSizes := (T.d_law_sizes.cal fun f fd F => ok_sizes F T).mono (by decide)
  have cp : Cal P w K mg base 2 "_law_pick" ["_law_dice_here", "_law_items"] (spPick K) := T.d_law_pick.cal fun f fd F => ok_pick F T
  refine F.ok sc_law_drawn_place (fun vs H Q E h => ?_) (fun cdv A outer s H vs Q E hr h => ?_)
  · obtain ⟨d, pl, mk, leaf, kvs, M, M1, rfl, _⟩ := h
    rfl
  · obtain ⟨d, pl, mk, leaf, kvs, M, M1, rfl, hpl, hmk, hM, hV, hO, hd, q⟩ := h
    have hu := hu_of hr
    refine ⟨_, pss_cut (ps_par (i := 3) (j := 4) rfl sc_law_drawn_place.nd rfl rfl (by decide) rfl rfl (pa_cons (pe_cal cs hr (by rfl) (pa_cons (pv 1) (pa_cons (pv 2) pa_nil))) (pa_cons (pe_lst pa_nil) pa_nil)) (by kernel_rfl))
      (pss_cut (ps_for PassesOwn.never rfl (pi_range1 (by rfl) T.b_range (pa_cons (pe_op op_add (pv 2) pe_int) pa_nil)) (pg_name (i := 5) sc_law_drawn_place.nd rfl (.inr rfl))
        (pss_one (ps_expr (pe_bm PySem.F.plainAttrs_list PySem.F.slot_list_extend PySem.F.type_list_extend mt_extend (pv 4) (pa_cons
          (pe_lc (own := [("_law_name", 6)]) (g := gName 6) (tt := tYes) rfl sc_law_drawn_place.nd (pi_list (pe_callB (call_sortedD rfl) (by rfl) T.b_sorted (by decide +kernel) (pa_cons (pe_ix ix_list (pv 3) (pv 5) (fun _ _ => rfl)) pa_nil)))
            (blkOk_by (N := NDR) (sc := defScope s_law_drawn_place) (by decide +kernel)) (fun _ _ _ _ _ => pg_name (i := 6) sc_law_drawn_place.nd rfl (.inl rfl)) (fun _ _ _ _ _ => pts_nil)
            (fun _ _ _ _ _ => pe_tup (pa_cons (pv 6) (pa_cons (pv 5) pa_nil)))) pa_nil)))))
      (pss_one (ps_ret (pe_cal cp hr (by rfl) (pa_cons (pv 0) (pa_cons (pe_op op_cat (pv 4) (pe_op op_rep
          (pe_lc (own := [("_law_place", 7)]) (g := gName 7) rfl sc_law_drawn_place.nd (pi_list (pv 4)) (blkOk_by (N := NDR) (sc := defScope s_law_drawn_place) (by decide +kernel)) (fun _ _ _ _ _ => pg_name (i := 7) sc_law_drawn_place.nd rfl (.inl rfl))
            (fun _ _ _ _ _ => pts_one (pt_cmpR op_gt (pe_ix (ix_tupK (K := K) (by exact rfl)) (pv 7) pe_int (fun _ _ => rfl)) pe_int (by rfl)))
            (fun _ _ _ _ _ => pv 7)) pe_int)) pa_nil)))))), ?_⟩
    have big : 100000 ≤ sizeLine := by decide
    have v1 : Vld leaf M1 := hO.vld hV
    -- the sizes, nothing found
    refine ⟨fun σ' G => ∃ (sl fl : Addr) (ds : List Addr), σ' = [some (.ref d), some (.ref pl), some (.int 4), some (.ref sl), some (.ref fl), none, none, none] ∧ G sl = some (.lst (ds.map V.ref)) ∧ ds.length = 5 ∧ RowsAt G leaf M1 ds ∧ G fl = some (.lst []) ∧ Same H G ∧ H fl = none, ?_, ?_⟩
    · refine ⟨_, rfl, _, rfl, pl, mk, leaf, kvs, M, M1, 4, rfl, by decide, hpl, hmk, hM, hV, hO, fun sl ds G1 s1 nsl esl lds hR => ?_⟩
      refine ⟨Nat.zero_le _, fun fl nfl => ?_⟩
      have s2 := same_new (o := .lst []) (Same.refl G1) nfl
      refine ⟨_, _, rfl, sl, fl, ds, rfl, s2 _ _ esl, lds, hR.same s2, upd_same, fun b o e => s2 _ _ (s1 _ _ e), ?_⟩
      cases h : H fl with
      | none => rfl
      | some o => rw [s1 _ _ h] at nfl; cases nfl
    rintro σ' G ⟨sl, fl, ds, rfl, esl, lds, hR, efl, s1, nfl⟩
    -- rank by rank
    refine ⟨fun σ' G' => ∃ (as : List Addr) (y5 : Option V), σ' = [some (.ref d), some (.ref pl), some (.int 4), some (.ref sl), some (.ref fl), y5, none, none] ∧ G' fl = some (.lst (as.map V.ref)) ∧ as.length ≤ 30 ∧ as ≠ [] ∧ (∀ a ∈ as, PlcAt leaf M1 G' a) ∧ Same H G', ?_, ?_⟩
    · refine ⟨_, rfl, _, _, rfl, rfl, _, rfl, by omega, by omega, ?_⟩
      refine for_range (lo := 0) (n := 5) (fun i σ' G' => ∃ (as : List Addr) (y5 : Option V), σ' = [some (.ref d), some (.ref pl), some (.int 4), some (.ref sl), some (.ref fl), y5, none, none] ∧ G' fl = some (.lst (as.map V.ref)) ∧ as.length ≤ 6 * i ∧ (0 < i → as ≠ []) ∧ (∀ a ∈ as, PlcAt leaf M1 G' a) ∧ SameX fl G G')
        ⟨[], none, rfl, efl, Nat.zero_le _, fun h => absurd h (by omega), nofun, SameX.refl fl G⟩ (fun i σ' G' hi hP => ?_) (fun σ' G' hP => ?_)
      · obtain ⟨as, y5, rfl, eF, la, ne, hA, sx⟩ := hP
        have nsl : sl ≠ fl := fun z => by
          rw [z, efl] at esl
          have h1 := HO.lst.inj (Option.some.inj esl)
          have h2 := congrArg List.length h1
          rw [List.length_map, lds] at h2
          exact absurd h2 (by show ¬ (0 = 5); decide)
        have esl' := sx _ _ nsl esl
        have hrow : ∃ ra, ds[i]? = some ra ∧ G ra = some (.dK (rowK (rowsR leaf M1 i))) := ⟨_, List.getElem?_eq_getElem (by omega), hR i _ (List.getElem?_eq_getElem (by omega))⟩
        obtain ⟨ra, hra, era⟩ := hrow
        have nra : ra ≠ fl := fun z => by rw [z, efl] at era; cases era
        have era' := sx _ _ nra era
        have hat : atI (ds.map V.ref) ((0 : Int) + (i : Nat)) = some (.ref ra) := by
          rw [Int.zero_add]
          refine atI_nat ?_
          rw [List.getElem?_map, hra]
          rfl
        refine ⟨_, rfl, .inl ⟨rfl, _, .inl (.inl eF)⟩, _, rfl, _, rfl, sl, _, _, _, rfl, rfl, .inl (.inl esl'), hat, ra, _, setR leaf M1 i, rfl, .inl era', rowK_keys _, Nat.lt_of_le_of_lt (set_len v1 i) (by decide), fun ys p hperm hsrt np => ?_⟩
        have s3 := same_new (o := .lst (ys.map V.str)) (Same.refl G') np
        have e3 : (upd G' p (.lst (ys.map V.str))) p = some (.lst (ys.map V.str)) := upd_same
        generalize upd G' p (.lst (ys.map V.str)) = G1 at s3 e3
        have ly := hperm.length_eq
        have l6 := set_len v1 i
        refine ⟨p, rfl, ⟨_, .inl (.inl e3)⟩, fun D hD => ?_⟩
        refine lc_it (g := gName 6) (tt := tYes) (vs := [6]) (walk_list (K := K) (a := p) (xs := ys.map V.str)) (fun j G2 => ∃ bs : List Addr, G2 D = some (.lst (bs.map V.ref)) ∧ bs.length = j ∧ (∀ b ∈ bs, PlcAt leaf M1 G2 b) ∧ Same G1 G2)
          ⟨[], upd_same, rfl, nofun, same_new (Same.refl G1) hD⟩ (fun j G2 _ h => by obtain ⟨_, _, _, _, sm⟩ := h; exact .inl (.inl (sm _ _ e3))) (fun j u Gx G2 hj h hy => ?_) (fun G2 h => ?_)
        · obtain ⟨bs, eD, lb, hB, sm⟩ := h
          obtain ⟨rfl, hu2⟩ := hy
          obtain ⟨y, hy, rfl⟩ := at_texts hu2
          have hjl := (List.getElem?_eq_some_iff.mp hy).1
          refine ⟨rfl, _, rfl, _, rfl, by show 2 ≤ sizeLine; omega, fun t nt => ?_⟩
          have s4 := same_new (o := .tup [.str y, .int ((0 : Int) + (i : Nat))]) (Same.refl G2) nt
          have e4 : (upd G2 t (.tup [.str y, .int ((0 : Int) + (i : Nat))])) t = some (.tup [.str y, .int ((0 : Int) + (i : Nat))]) := upd_same
          generalize upd G2 t (.tup [.str y, .int ((0 : Int) + (i : Nat))]) = G3 at s4 e4
          have eD3 := s4 _ _ eD
          rw [Int.zero_add] at e4
          refine ⟨_, eD3, ?_, bs ++ [t], ?_, by rw [List.length_append, lb]; rfl, fun b hb => ?_, fun b o e => by rw [upd_ne (ne_of_none e hD)]; exact s4 _ _ (sm b o e)⟩
          · rw [List.length_map, lb]
            exact Nat.lt_of_le_of_lt (show j ≤ 6 by omega) (by decide)
          · rw [upd_same, List.map_append]
            rfl
          · rcases List.mem_append.mp hb with h | h
            · exact ((hB b h).st s4).atl eD3
            · rw [List.mem_singleton.mp h]
              exact PlcAt.atl ⟨y, i, e4, hperm.mem_iff.mp (List.mem_of_getElem? hy), by omega⟩ eD3
        · obtain ⟨bs, eD, lb, hB, sm⟩ := h
          rw [List.length_map] at lb
          have s5 : Same G' G2 := fun b o e => sm _ _ (s3 _ _ e)
          have eF2 := s5 _ _ eF
          refine ⟨fl, D, _, _, rfl, rfl, eF2, eD, by rw [List.length_map, List.length_map]; omega, as ++ bs, _, rfl, ?_, by rw [List.length_append]; omega, fun _ h => ?_, fun a ha => ?_, fun b o n e => ?_⟩
          · rw [upd_same, List.map_append]
          · by_cases c : i = 0
            · subst c
              have : bs = [] := (List.append_eq_nil_iff.mp h).2
              rw [this] at lb
              have h1 : (setR leaf M1 0).length = 1 := rfl
              rw [List.length_nil] at lb
              omega
            · exact ne (by omega) (List.append_eq_nil_iff.mp h).1
          · rcases List.mem_append.mp ha with h | h
            · exact ((hA a h).st s5).atl eF2
            · exact (hB a h).atl eF2
          · rw [upd_ne n]
            exact s5 _ _ (sx b o n e)
      · obtain ⟨as, y5, rfl, eF, la, ne, hA, sx⟩ := hP
        exact ⟨as, y5, rfl, eF, by omega, ne (by omega), hA, fun b o e => sx _ _ (ne_of_none e nfl) (s1 _ _ e)⟩
    rintro σ' G2 ⟨as, y5, rfl, eF, la, ne, hA, s2⟩
    have hd2 : DiceAt G2 d := by
      obtain ⟨a, b, c, e⟩ := hd
      exact ⟨a, b, c, s2 _ _ e⟩
    refine ⟨_, rfl, _, rfl, _, rfl, fl, rfl, ⟨_, .inl (.inl eF)⟩, fun D hD => ?_⟩
    refine lc_it (g := gName 7) (vs := [7]) (walk_list (K := K) (a := fl) (xs := as.map V.ref)) (fun j G => ∃ bs : List Addr, G D = some (.lst (bs.map V.ref)) ∧ bs.length ≤ j ∧ (∀ b ∈ bs, b ∈ as) ∧ Same G2 G)
      ⟨[], upd_same, Nat.le_refl _, nofun, same_new (Same.refl G2) hD⟩ (fun j G _ h => by obtain ⟨_, _, _, _, sm⟩ := h; exact .inl (.inl (sm _ _ eF))) (fun j u Gx G hj h hy => ?_) (fun G h => ?_)
    · obtain ⟨bs, eD, lb, hB, sm⟩ := h
      obtain ⟨rfl, hu2⟩ := hy
      obtain ⟨a, ha, rfl⟩ := refs_at' hu2
      have hjl := (List.getElem?_eq_some_iff.mp ha).1
      obtain ⟨z, r, e, hz, hr4⟩ := hA a (List.mem_of_getElem? ha)
      refine ⟨rfl, _, rfl, a, _, _, .int (r : Nat), rfl, rfl, .inl (.inl (sm _ _ e)), atI_nat (j := 1) rfl, _, _, rfl, rfl, _, rfl, ite2 (fun _ => ?_) (fun _ => ?_)⟩
      · refine ⟨_, rfl, _, eD, ?_, bs ++ [a], ?_, by rw [List.length_append, List.length_singleton]; omega, fun b hb => ?_, fun b o e => by rw [upd_ne (ne_of_none e hD)]; exact sm b o e⟩
        · rw [List.length_map]
          exact Nat.lt_of_le_of_lt (show _ ≤ 30 by omega) (by decide)
        · rw [upd_same, List.map_append]
          rfl
        · rcases List.mem_append.mp hb with h | h
          · exact hB b h
          · rw [List.mem_singleton.mp h]
            exact List.mem_of_getElem? ha
      · exact ⟨bs, eD, by omega, hB, sm⟩
    · obtain ⟨bs, eD, lb, hB, sm⟩ := h
      rw [List.length_map] at lb
      refine ⟨D, 3, _, rfl, rfl, eD, by decide, by decide, by rw [List.length_map]; show _ * 3 ≤ sizeLine; omega, fun p np => ?_⟩
      have s3 := same_new (o := .lst (List.replicate (3 : Int).toNat (bs.map V.ref)).flatten) sm np
      have e3 : (upd G p (.lst (List.replicate (3 : Int).toNat (bs.map V.ref)).flatten)) p = some (.lst (List.replicate (3 : Int).toNat (bs.map V.ref)).flatten) := upd_same
      generalize upd G p (.lst (List.replicate (3 : Int).toNat (bs.map V.ref)).flatten) = G3 at s3 e3
      have l3 : (List.replicate (3 : Int).toNat (bs.map V.ref)).flatten.length ≤ 90 := by
        show ([bs.map V.ref, bs.map V.ref, bs.map V.ref] : List (List V)).flatten.length ≤ 90
        simp only [List.flatten_cons, List.flatten_nil, List.length_append, List.length_map, List.length_nil]
        omega
      have m3 : ∀ v ∈ (List.replicate (3 : Int).toNat (bs.map V.ref)).flatten, v ∈ bs.map V.ref := fun v hv => by
        obtain ⟨l, hl, hv2⟩ := List.mem_flatten.mp hv
        rw [List.eq_of_mem_replicate hl] at hv2
        exact hv2
      generalize (List.replicate (3 : Int).toNat (bs.map V.ref)).flatten = rep at e3 l3 m3
      refine ⟨fl, p, _, _, rfl, rfl, s3 _ _ eF, e3, by rw [List.length_map]; omega, fun p2 np2 => ?_⟩
      have s4 := same_new (o := .lst (as.map V.ref ++ rep)) s3 np2
      have e4 : (upd G3 p2 (.lst (as.map V.ref ++ rep))) p2 = some (.lst (as.map V.ref ++ rep)) := upd_same
      generalize upd G3 p2 (.lst (as.map V.ref ++ rep)) = G4 at s4 e4
      have hd4 : DiceAt G4 d := by
        obtain ⟨a, b, c, e⟩ := hd2
        exact ⟨a, b, c, s4 _ _ e⟩
      have np2d : p2 ≠ d := fun z => by
        obtain ⟨a, b, c, e⟩ := hd4
        rw [z, e] at e4
        have h1 := HO.lst.inj (Option.some.inj e4)
        cases as with
        | nil => exact ne rfl
        | cons a as => cases (List.cons.inj h1).1
      refine ⟨d, .ref p2, _, rfl, hd4, .inl ⟨p2, rfl, np2d, .inl (.inl (.inl e4))⟩, fun h => ne (List.map_eq_nil_iff.mp (List.append_eq_nil_iff.mp h).1), by rw [List.length_append, List.length_map]; omega, fun v x b c hv => ?_⟩
      have hv2 : v ∈ as.map V.ref := by
        rcases List.mem_append.mp hv with h | h
        · exact h
        · obtain ⟨b0, hb0, rfl⟩ := List.mem_map.mp (m3 v h)
          exact List.mem_map.mpr ⟨b0, hB b0 hb0, rfl⟩
      obtain ⟨a, ha, rfl⟩ := List.mem_map.mp hv2
      obtain ⟨z, r, e, hz, hr4⟩ := hA a ha
      have sd : SameX d G4 (upd G4 d (.lst [.int x, .int b, .int c])) := (SameX.refl d G4).atd
      have s04 : SameX d H G4 := SameX.of fun b o e => s4 _ _ (s2 _ _ e)
      have ead : a ≠ d := fun q => by
        obtain ⟨a', b', c', e'⟩ := hd2
        rw [q, e'] at e
        cases e
      exact q a _ ⟨z, r, sd _ _ ead (s4 _ _ e), hz, hr4⟩ (s04.trans sd) (dice_new x b c)
end
end Kl

set_option maxRecDepth 100000
set_option maxHeartbeats 4000000
namespace Kl
open PySem PySem.Spec PyProof.Rows L2 Gx Mx LamX
theorem tupZ_exN {H H' : Hp} {a : Addr} {xs : List V} (h : TupZ H a xs) (s : ExtN H H') : TupZ H' a xs := by
  obtain ⟨ob, d, e⟩ := h
  exact ⟨ob, d, s _ _ e fun _ => nofun⟩
theorem kinds_exN {C : Addr} {H H' : Hp} {x md : Addr} {leaf : Str} {M : Mak} {ns : List Str} (h : KindsAt C H x md leaf M ns) (s : ExtN H H') : KindsAt C H' x md leaf M ns := by
  obtain ⟨dx, nt, kvs, h1, h2, h3, h4⟩ := h
  exact ⟨dx, nt, kvs, s _ _ h1 fun _ => nofun, s _ _ h2 fun _ => nofun, h3.same fun a xs q => tupZ_exN q s, s _ _ h4 fun _ => nofun⟩
theorem GpC.exN {Ck : Addr} {H H' : Hp} {d pl kx mk md : Addr} {leaf : Str} {kvs : List (Key × V)} {M M1 : Mak} {ns : List Str} (h : GpC Ck H d pl kx mk md leaf kvs M M1 ns) (s : ExtN H H') : GpC Ck H' d pl kx mk md leaf kvs M M1 ns :=
  ⟨s _ _ h.epl fun _ => nofun, s _ _ h.emk fun _ => nofun, h.mak.same fun a xs q => tupZ_exN q s, h.v, h.o, kinds_exN h.kn s, h.nm, dice_exN s h.hd⟩
section
variable {P : Program} {w : World} {K : PySem.W.Frag} {mg : Str → Option Value} {base : Heap}
/-! ### _law_right -/
abbrev NRT : List Str := ["_law_dice_here", "_law_plain", "_law_kinds", "_law_turn", "_law_name", "_law_rank", "_law_tree", "_law_made"]
def spRT (Tb : List (Addr × Str)) : Sp := fun vs H Q _ => ∃ d : Addr, vs = [.ref d] ∧ DiceAt H d ∧ Tabs Tb H ∧ ∀ H', ExtX d H H' → Tabs Tb H' → DiceAt H' d → Q (.bl true) H'
theorem ok_rt {f C Ck : Addr} {fd : FuncData} {Tb : List (Addr × Str)} (F : Fun K "_law_right" "_law_right" s_law_right f fd)
    (T : Top K mg) (TC : Cl_Tree K mg C) (TK : Cl_Kinds K mg Ck) (cb : CalM P w K mg base C "broken" 8 ["self"] (spBr K C Tb)) : FnG P w K mg base CX0 30 f fd ["_law_dice_here"] (spRT Tb) := by
  have cdm : Cal P w K mg base 29 "_law_drawn_makings" ["_law_dice_here"] spDM := (T.d_law_drawn_makings.cal fun f fd F => ok_dm F T).mono (by decide)
  have cmk : Cal P w K mg base 29 "_law_made_kinds" ["_law_plain"] (spMade Ck) := (T.d_law_made_kinds.cal fun f fd F => ok_made F T TK).mono (by decide)
  have cdr : Cal P w K mg base 29 "_law_drawn_place" ["_law_dice_here", "_law_plain", "_law_most"] spDR := (T.d_law_drawn_place.cal fun f fd F => ok_dr F T).mono (by decide)
  have cgp : Cal P w K mg base 29 "_law_grown_pair" ["_law_dice_here", "_law_plain", "_law_kinds", "_law_name", "_law_rank"] (spGP K C Ck 4) := (T.d_law_grown_pair.cal fun f fd F => ok_gp 4 F T TC TK).mono (by decide)
  have ctr : CalG P w K mg base 29 "_law_told_right" ["_law_made", "_law_tree", "_law_kinds"] (spTR K C Ck Tb) := (T.d_law_told_right.calG fun f fd F => ok_tr F T TC TK cb).up (by decide)
  refine okG F sc_law_right (fun vs H Q E h => ?_) (fun cdv A outer s H vs Q E hg hr h => ?_)
  · obtain ⟨d, rfl, _⟩ := h
    rfl
  · obtain ⟨d, rfl, hd, hTb, q⟩ := h
    have hu := hu_of hr
    refine ⟨_, pss_cut (ps_set (i := 1) sc_law_right.nd rfl (.inl rfl) (pe_cal cdm hr (by rfl) (pa_cons (pv 0) pa_nil)))
      (pss_cut (ps_set (i := 2) sc_law_right.nd rfl (.inl rfl) (pe_cal cmk hr (by rfl) (pa_cons (pv 1) pa_nil)))
      (pss_cut (ps_for PassesOwn.never rfl (pi_range1 (by rfl) T.b_range (pa_cons pe_int pa_nil)) (pg_name (i := 3) sc_law_right.nd rfl (.inl rfl))
        (pss_cut (ps_asg (pe_cal cdr hr (by rfl) (pa_cons (pv 0) (pa_cons (pv 1) (pa_cons pe_int pa_nil)))) (pg_tup (n := 2) rfl (pgs_cons (pg_name (i := 4) sc_law_right.nd rfl (.inl rfl)) (pgs_cons (pg_name (i := 5) sc_law_right.nd rfl (.inl rfl)) pgs_nil))))
        (pss_cut (ps_asg (pe_cal cgp hr (by rfl) (pa_cons (pv 0) (pa_cons (pv 1) (pa_cons (pv 2) (pa_cons (pv 4) (pa_cons (pv 5) pa_nil)))))) (pg_lst (n := 2) rfl (pgs_cons (pg_name (i := 6) sc_law_right.nd rfl (.inl rfl)) (pgs_cons (pg_name (i := 7) sc_law_right.nd rfl (.inl rfl)) pgs_nil))))
        (pss_one (ps_if (PW.pt (pw_or (pt_not (pt_val (pe_calG ctr hg hr (by rfl) (pa_cons (pv 7) (pa_cons (pv 6) (pa_cons (pv 2) pa_nil)))))) (pw_or1 (pt_not (pt_val (pe_calG ctr hg hr (by rfl) (pa_cons (pv 7) (pa_cons (pv 6) (pa_cons (pv 2) pa_nil))))))))) (pss_one (ps_ret pe_bl)) pss_nil)))))
      (pss_one (ps_ret pe_bl)))), ?_⟩
    have big : 100000 ≤ sizeLine := by decide
    -- the book
    refine ⟨fun σ' G => ∃ (pl mk : Addr) (leaf : Str) (kvs : List (Key × V)) (M : Mak), σ' = [some (.ref d), some (.ref pl), none, none, none, none, none, none] ∧ G pl = some (.dK (bookK leaf mk)) ∧ G mk = some (.dK kvs) ∧ MakAt G kvs M ∧ Vld leaf M ∧ SameX d H G ∧ DiceAt G d, ?_, ?_⟩
    · exact ⟨_, rfl, d, rfl, hd, fun pl mk leaf kvs M H' e1 e2 hM hV sx hd' => ⟨pl, mk, leaf, kvs, M, rfl, e1, e2, hM, hV.v, sx, hd'⟩⟩
    rintro σ' G0 ⟨pl, mk, leaf, kvs, M, rfl, epl, emk, hM, hV, sx0, hd0⟩
    -- its kinds
    refine ⟨fun σ' G => ∃ (kx md : Addr) (M1 : Mak) (ns : List Str), σ' = [some (.ref d), some (.ref pl), some (.ref kx), none, none, none, none, none] ∧ GpC Ck G d pl kx mk md leaf kvs M M1 ns ∧ SameX d H G, ?_, ?_⟩
    · refine ⟨_, rfl, pl, mk, leaf, kvs, M, rfl, epl, emk, hM, hV, fun kx md M1 ns G1 hK hO hN s1 => ?_⟩
      exact ⟨kx, md, M1, ns, rfl, ⟨s1 _ _ epl, s1 _ _ emk, hM.same (fun _ _ q => q.mono s1), hV, hO, hK, ⟨hN.srt, hN.nd, fun z => (hN.mem z).trans (or_congr Iff.rfl (hO.keys z).symm)⟩, dice_sm s1 hd0⟩, sx0.trans (SameX.of s1)⟩
    rintro σ' G1 ⟨kx, md, M1, ns, rfl, g1, sx1⟩
    clear epl emk hM sx0 hd0
    have v1 : Vld leaf M1 := g1.o.vld g1.v
    have t1 := tabs_dice hTb hd sx1
    -- tree by tree
    refine ⟨fun σ' G => (∃ y3 y4 y5 y6 y7 : Option V, σ' = [some (.ref d), some (.ref pl), some (.ref kx), y3, y4, y5, y6, y7]) ∧ GpC Ck G d pl kx mk md leaf kvs M M1 ns ∧ ExtX d H G ∧ Tabs Tb G, ?_, ?_⟩
    · refine ⟨3, rfl, by decide, by decide, ?_⟩
      refine for_range (lo := 0) (fun i σ' G => (∃ y3 y4 y5 y6 y7 : Option V, σ' = [some (.ref d), some (.ref pl), some (.ref kx), y3, y4, y5, y6, y7]) ∧ GpC Ck G d pl kx mk md leaf kvs M M1 ns ∧ ExtX d H G ∧ Tabs Tb G) ⟨⟨_, _, _, _, _, rfl⟩, g1, ext_ofX sx1, t1⟩ (fun i σ' G hi hP => ?_) (fun σ' G hP => hP)
      obtain ⟨⟨y3, y4, y5, y6, y7, rfl⟩, g, xx, tb⟩ := hP
      -- a place
      refine ⟨fun σ' G' => ∃ (z : Str) (r : Nat) (y3 : Option V), σ' = [some (.ref d), some (.ref pl), some (.ref kx), y3, some (.str z), some (.int (r : Nat)), y6, y7] ∧ GpC Ck G' d pl kx mk md leaf kvs M M1 ns ∧ z ∈ setR leaf M1 r ∧ r ≤ 4 ∧ SameX d G G', ?_, ?_⟩
      · refine ⟨_, rfl, _, rfl, d, pl, mk, leaf, kvs, M, M1, rfl, g.epl, g.emk, g.mak, g.v, g.o, g.hd, fun a G2 hPl sx2 hd2 => ?_⟩
        obtain ⟨z, r, ea, hz, hr4⟩ := hPl
        exact ⟨a, _, rfl, .inl (.inl ea), rfl, _, _, rfl, _, _, rfl, rfl, z, r, _, rfl, g.step sx2 hd2, hz, hr4, sx2⟩
      rintro σ' G2 ⟨z, r, y3, rfl, g2, hz, hr4, sx2⟩
      -- a pair
      refine ⟨fun σ' G' => ∃ (x y : Addr) (t : Tr), σ' = [some (.ref d), some (.ref pl), some (.ref kx), y3, some (.str z), some (.int (r : Nat)), some (.ref x), some (.ref y)] ∧ GpC Ck G' d pl kx mk md leaf kvs M M1 ns ∧ PlAt K G' t x ∧ TreeAt K C kx G' t y ∧ Grown leaf M1 r z t ∧ SameX d G G', ?_, ?_⟩
      · refine ⟨_, rfl, _, rfl, _, rfl, _, rfl, _, rfl, d, pl, kx, mk, md, leaf, z, kvs, M, M1, ns, r, rfl, hr4, hr4, g2, hz, fun p t G3 hgr h7 hpr sx3 hd3 np => ?_⟩
        obtain ⟨x, y, ep, hpx, hty⟩ := hpr
        exact ⟨p, _, rfl, .inl (.inl ep), rfl, _, _, rfl, _, _, rfl, rfl, x, y, t, rfl, g2.step sx3 hd3, hpx, hty, hgr, sx2.trans sx3⟩
      rintro σ' G3 ⟨x, y, t, rfl, g3, hpx, hty, hgr, sx3⟩
      have tb3 := tabs_dice tb g.hd sx3
      refine ⟨_, rfl, _, rfl, _, rfl, y, x, kx, md, t, leaf, z, M1, ns, r, rfl, hty, hpx, g3.kn, v1, hgr, hr4, tb3, fun G4 e4 tb4 => ⟨_, rfl, ?_⟩⟩
      show (if (!true) = true then _ else _)
      rw [if_neg (by decide)]
      refine ⟨_, rfl, _, rfl, _, rfl, y, x, kx, md, t, leaf, z, M1, ns, r, rfl, hty.exN e4, PlAt.mono (fun _ _ q => sqT_exN e4 q) t x hpx, kinds_exN g3.kn e4, v1, hgr, hr4, tb4, fun G5 e5 tb5 => ⟨_, rfl, ?_⟩⟩
      show (if (!true) = true then _ else _)
      rw [if_neg (by decide)]
      exact ⟨⟨_, _, _, _, _, rfl⟩, (g3.exN e4).exN e5, ((xx.trans (ext_ofX sx3)).trans (.ofN e4)).trans (.ofN e5), tb5⟩
    rintro σ' G9 ⟨_, g9, xx, tb9⟩
    exact q G9 xx tb9 g9.hd
end
end Kl

set_option maxRecDepth 100000
set_option maxHeartbeats 4000000
namespace Kl
open PySem PySem.Spec PyProof.Rows L2 Gx Mx LamX
theorem sqL_xnew {K : PySem.W.Frag} {G G' : Hp} {d a : Addr} {xs : List V} (nd : G d = none) (x : ExtX d G G') (h : SqL K G a xs) : SqL K G' a xs := by
  rcases h with (h | ⟨o, h⟩) | h
  · exact .inl (.inl (x _ _ (ne_of_none h nd) h (fun _ z => by cases z)))
  · exact .inl (.inr ⟨o, x _ _ (ne_of_none h nd) h (fun _ z => by cases z)⟩)
  · exact .inr h
/-! ### the trees of the law's last lines -/
abbrev nA (k : Int) : Tr := .mk [("a" : Str)] k .nil
abbrev prA : Tr := linkT "a" (Trs.of [nA 5, nA 3]) 1 (nA 3)
abbrev secA : Tr := linkT "a" (Trs.of [nA 3, nA 3]) 0 (nA 3)
abbrev fourA : Tr := linkT "a" (Trs.of [prA, secA]) 0 prA
theorem winP : IsWin (Trs.of [nA 5, nA 3]) 1 (nA 3) := ⟨rfl, fun u hu => by
  rw [Trs.of_list] at hu
  simp only [List.mem_cons, List.not_mem_nil, or_false] at hu
  rcases hu with rfl | rfl <;> decide, fun m u hm hu => by
  obtain rfl : m = 0 := by omega
  cases hu
  decide⟩
theorem winS : IsWin (Trs.of [nA 3, nA 3]) 0 (nA 3) := ⟨rfl, fun u hu => by
  rw [Trs.of_list] at hu
  simp only [List.mem_cons, List.not_mem_nil, or_false] at hu
  rcases hu with rfl | rfl <;> decide, fun m u hm hu => absurd hm (Nat.not_lt_zero _)⟩
theorem winF : IsWin (Trs.of [prA, secA]) 0 prA := ⟨rfl, fun u hu => by
  rw [Trs.of_list] at hu
  simp only [List.mem_cons, List.not_mem_nil, or_false] at hu
  rcases hu with rfl | rfl <;> decide, fun m u hm hu => absurd hm (Nat.not_lt_zero _)⟩
theorem fourN : fourA.nodes 0 = [(3, 0), (5, 1), (3, 1), (3, 2)] := rfl
theorem fourK : fourA.ks = [3, 5, 3, 3] := rfl
theorem fourS : strT fourA.kind fourA.rank fourA.size fourA.key = "a of rank 2 with 4 keys from 3 on" := by decide +kernel
theorem init_by {C x dx mk : Addr} {G : Hp} {leaf : Str} {M : Mak} {Q : VK} {E : XK} (hM : Mkd G mk M) (hV : Vld leaf M) (nx : G x = none) (nd : G dx = none)
    (q : ∀ G2 md M' ns, KindsAt C G2 x md leaf M' ns → OrdOf M M' → IsNames leaf (keysOf M) ns → Same G G2 → Q .non G2) : spInit C [.ref x, .str leaf, .ref mk] (upd (upd G dx (.own x)) x (.ins C dx [])) Q E := by
  obtain ⟨kvs, e, hM⟩ := hM
  have s : Same G (upd (upd G dx (.own x)) x (.ins C dx [])) := fun b o e => by
    rw [upd_ne (ne_of_none e nx), upd_ne (ne_of_none e nd)]
    exact e
  exact ⟨x, dx, leaf, mk, kvs, M, rfl, upd_same, s _ _ e, hM.same (fun _ _ h => h.mono s), hV, fun G2 md M' ns hK hO hN _ keep => q G2 md M' ns hK hO hN fun b o e => keep b o (ne_of_none e nx) (s _ _ e)⟩
theorem mk_tree {K : PySem.W.Frag} {C Ck : Addr} {G : Hp} {kx md : Addr} {leaf : Str} {M : Mak} {ns : List Str} {key : Int} (hK : KindsAt Ck G kx md leaf M ns) (hk : intV (.int key) = true) {Qc : Addr → Hp → Prop} (q : ∀ x G', Same G G' → TreeAt K C kx G' (.mk [leaf] key .nil) x → Qc x G') :
    ∀ x dx, G x = none → G dx = none → dx ≠ x → spTInit K C Ck [.ref x, .ref kx, .int key] (upd (upd G dx (.own x)) x (.ins C dx [])) (fun v H2 => v = .non ∧ Qc x H2) E0 := fun x dx nx ndx _ => by
  have sN : Same G (upd (upd G dx (.own x)) x (.ins C dx [])) := fun b o e => by
    rw [upd_ne (ne_of_none e nx), upd_ne (ne_of_none e ndx)]
    exact e
  exact ⟨x, dx, kx, md, leaf, M, ns, key, rfl, upd_same, hK.same sN, hk, fun G4 ht keep => ⟨rfl, q x G4 (fun b o e => keep b o (ne_of_none e nx) (sN _ _ e)) ht⟩⟩
abbrev MKA : Mak := [(("a" : Str), (["a", "a"] : List Str))]
theorem vldA : Vld "a" MKA := by
  refine ⟨by decide +kernel, fun z hz => ?_, ?_, fun m hm => ?_, fun ns nd hs => ?_⟩
  · rw [List.mem_singleton.mp hz]
    decide +kernel
  · exact List.nodup_cons.mpr ⟨List.not_mem_nil, List.nodup_nil⟩
  · rw [List.mem_singleton.mp hm]
    exact ⟨srt2 _, Nat.le_refl _, by decide, fun p hp => .inl (by simpa using hp)⟩
  · have h1 := nodup_len nd (ys := [("a" : Str)]) fun z hz => by
      rcases hs z hz with rfl | hz
      · simp
      · exact hz
    have : ([("a" : Str)] : List Str).length = 1 := rfl
    omega
section
variable {P : Program} {w : World} {K : PySem.W.Frag} {mg : Str → Option Value} {base : Heap}
/-! ### the law -/
abbrev NLW : List Str := ["_law_script", "_law_spot", "_law_double", "_law_one", "_law_other", "_law_third", "_law_pair", "_law_four", "_law_told", "_law_due", "_law_key", "_law_tree"]
def spLaw (K : PySem.W.Frag) (Tb : List (Addr × Str)) : Sp := fun vs H Q _ => ∃ (a : Addr) (ns : List Int), vs = [.ref a] ∧ SqL K H a (ns.map V.int) ∧ ns.length ≤ 63 ∧ Tabs Tb H ∧ ∀ H', Q (.bl true) H'
theorem ok_law0 {f : Addr} {fd : FuncData} {Tb : List (Addr × Str)} (F : Fun K "law" "law" s_law f fd) (T : Top K mg) (hB : ∀ C, mg "Tree" = some (.ref C) → CalM P w K mg base C "broken" 8 ["self"] (spBr K C Tb)) : FnG P w K mg base CX0 40 f fd ["_law_script"] (spLaw K Tb) := by
  obtain ⟨C, TC⟩ := T.c_Tree
  obtain ⟨Ck, TK⟩ := T.c_Kinds
  obtain ⟨tm, gN⟩ := T.g_MAX_NODES
  have cb := hB C TC.gC
  have ci : Cal P w K mg base 39 "_law_dice" ["_law_script", "_law_spot"] (spDice K) := (T.d_law_dice.cal fun f fd F => ok_dice F T).mono (by decide)
  have crt : CalG P w K mg base 39 "_law_right" ["_law_dice_here"] (spRT Tb) := CalG.up (T.d_law_right.calG fun f fd F => ok_rt F T TC TK cb) (by decide)
  have cf : CalQ P w K mg base C "linked" 8 ["cls", "name", "trees"] (spLink K C Ck) := (TC.k_linked.cal (k := 6) fun f fd F => fnOk_lift (ok_link F T TC TK)).up (by omega)
  have kKey : CalP P w K mg base C "key" 1 (spTKey K C) := TC.p_key.cal fun f fd F => ok_tkey F TC
  have kWay : CalP P w K mg base C "way" 1 (spTWay K C) := TC.p_way.cal fun f fd F => ok_tway F TC
  have kCon : CalP P w K mg base C "content" 4 (spTCon K C) := TC.p_content.cal fun f fd F => ok_tcon F T TC
  have kStr : CalM P w K mg base C "__str__" 3 ["self"] (spTStr K C) := TC.m_str.cal fun f fd F => ok_tstr F T TC
  have kI : CalI P w K mg base C 3 ["self", "kinds", "key"] (spTInit K C Ck) := by
    obtain ⟨f, fd, m, F, b⟩ := TC.made
    exact ⟨f, fd, m, ok_tinit F T TC TK, b⟩
  have kK : CalI P w K mg base Ck 6 ["self", "leaf", "makings"] (spInit Ck) := by
    obtain ⟨f, fd, m, F, b⟩ := TK.made
    exact ⟨f, fd, m, ok_init F T TK, b⟩
  obtain ⟨fn, fdn, Fn, bn, gn⟩ := T.d_nodes_of
  refine okG F sc_law (fun vs H Q E h => ?_) (fun cdv A outer s H vs Q E hg hr h => ?_)
  · obtain ⟨a, ns, rfl, _⟩ := h
    rfl
  · obtain ⟨a, ns, rfl, hS, hlen, hTb, q⟩ := h
    have hu := hu_of hr
    have r1 := hr.mono (show 2 ≤ 39 by decide)
    have r8 := hr.mono (show 8 ≤ 39 by decide)
    have r4 := fun {A : Around} (h : Room 39 A) => (show Room 4 A from h.mono (by decide))
    have r7 := fun {A : Around} (h : Room 39 A) => (show Room 7 A from h.mono (by decide))
    refine ⟨_, pss_cut (ps_for PassesOwn.never rfl (pi_range1 (by rfl) T.b_range (pa_cons (pe_callB (call_max2 rfl) (by rfl) T.b_max (by decide +kernel) (pa_cons pe_int (pa_cons
          (pe_callB (call_min2 rfl) (by rfl) T.b_min (by decide +kernel) (pa_cons pe_int (pa_cons (pe_callB call_len_seq (by rfl) T.b_len PySem.boot_len (pa_cons (pv 0) pa_nil)) pa_nil))) pa_nil))) pa_nil))
          (pg_name (i := 1) sc_law.nd rfl (.inl rfl))
        (pss_one (ps_if (pt_not (pt_val (pe_calG crt hg hr (by rfl) (pa_cons (pe_cal ci hr (by rfl) (pa_cons (pv 0) (pa_cons (pv 1) pa_nil))) pa_nil)))) (pss_one (ps_ret pe_bl)) pss_nil)))
      (pss_cut (ps_set (i := 2) sc_law.nd rfl (.inr rfl) (pe_makeC kK (r7 hr) (by rfl) TK.gC (pa_cons pe_str (pa_cons (pe_disp (pps_cons pe_str (pe_tupZ (pa_cons pe_str (pa_cons pe_str pa_nil))) pps_nil) rfl rfl (by decide) (by decide)) pa_nil))))
      (pss_cut (ps_asg (pe_lc (own := [("_law_key", 10)]) (g := gName 10) (tt := tYes) rfl sc_law.nd (pi_tup (pe_tup (pa_cons pe_int (pa_cons pe_int (pa_cons pe_int pa_nil))))) (blkOk_by (N := NLW) (sc := defScope s_law) (by decide +kernel)) (fun _ _ _ _ _ => pg_name (i := 10) sc_law.nd rfl (.inl rfl)) (fun _ _ _ _ _ => pts_nil)
          (fun _ _ _ _ _ => pe_makeC kI (r4 hr) (by rfl) TC.gC (pa_cons (pv 2) (pa_cons (pv 10) pa_nil))))
          (pg_lst (n := 3) rfl (pgs_cons (pg_name (i := 3) sc_law.nd rfl (.inl rfl)) (pgs_cons (pg_name (i := 4) sc_law.nd rfl (.inl rfl)) (pgs_cons (pg_name (i := 5) sc_law.nd rfl (.inl rfl)) pgs_nil)))))
      (pss_cut (ps_set (i := 6) sc_law.nd rfl (.inl rfl) (pe_cmX (E := fun _ => E0) (pe_glob (v := .ref C) (by rfl) TC.gC rfl) cf r8 (fun σ => neverAt σ) (pa_cons pe_str (pa_cons (pe_tup (pa_cons (pv 3) (pa_cons (pv 4) pa_nil))) pa_nil))))
      (pss_cut (ps_set (i := 7) sc_law.nd rfl (.inl rfl) (pe_cmX (E := fun _ => E0) (pe_glob (v := .ref C) (by rfl) TC.gC rfl) cf r8 (fun σ => neverAt σ) (pa_cons pe_str (pa_cons (pe_tup (pa_cons (pv 6) (pa_cons
          (pe_cmX (E := fun _ => E0) (pe_glob (v := .ref C) (by rfl) TC.gC rfl) cf r8 (fun σ => neverAt σ) (pa_cons pe_str (pa_cons (pe_tup (pa_cons (pv 5) (pa_cons (pv 5) pa_nil))) pa_nil))) pa_nil))) pa_nil))))
      (pss_cut (ps_set (i := 8) sc_law.nd rfl (.inl rfl) (pe_lst (pa_cons (pe_callTy (call_strM kStr (hr.mono (by decide))) (by rfl) T.b_str (by decide +kernel) (pa_cons (pv 7) pa_nil)) (pa_cons (pe_propC (pv 7) TC.cl kWay r1 rfl) (pa_cons (pe_propC (pv 7) TC.cl kCon (hr.mono (by decide)) rfl)
          (pa_cons (pe_lc (own := [("_law_tree", 11)]) (g := gName 11) (tt := tYes) rfl sc_law.nd (pi_tup (pe_ix ix_tup (pe_methC0 (pv 7) TC.cl cb r8) pe_int (fun _ _ => rfl))) (blkOk_by (N := NLW) (sc := defScope s_law) (by decide +kernel)) (fun _ _ _ _ _ => pg_name (i := 11) sc_law.nd rfl (.inl rfl)) (fun _ _ _ _ _ => pts_nil)
            (fun _ _ _ _ _ => pe_propC (pv 11) TC.cl kKey r1 rfl)) pa_nil))))))
      (pss_cut (ps_set (i := 8) sc_law.nd rfl (.inl rfl) (pe_op op_cat (pv 8) (pe_lst (pa_cons (pe_listG (pgen_call (k := 4) (E := E0) (ok_no (P := P) (w := w) (base := base) Fn T TC) (hr.mono (by decide)) (by rfl) gn Fn.kp bn .nil (pa_cons (pv 7) pa_nil)) passX0 nostop0 (hr.mono (by decide)) (by rfl) T.b_list (by decide +kernel))
          (pa_cons (pe_glob (v := .int 5000) (by rfl) gN ⟨_, rfl⟩) pa_nil)))))
      (pss_cut (ps_set (i := 9) sc_law.nd rfl (.inl rfl) (pe_lst (pa_cons pe_str (pa_cons (pe_tup (pa_cons pe_str (pa_cons pe_str (pa_cons pe_str pa_nil)))) (pa_cons (pe_tup (pa_cons pe_int (pa_cons pe_int (pa_cons pe_int (pa_cons pe_int pa_nil))))) (pa_cons (pe_lst (pa_cons pe_int pa_nil)) pa_nil))))))
      (pss_one (ps_ret (pe_cmpR (op_eqD hr.units) (pv 8) (pe_op op_cat (pv 9) (pe_lst (pa_cons (pe_lst (pa_cons (pe_tup (pa_cons pe_int (pa_cons pe_int pa_nil))) (pa_cons (pe_tup (pa_cons pe_int (pa_cons pe_int pa_nil))) (pa_cons (pe_tup (pa_cons pe_int (pa_cons pe_int pa_nil))) (pa_cons (pe_tup (pa_cons pe_int (pa_cons pe_int pa_nil))) pa_nil))))) (pa_cons pe_int pa_nil)))) (by rfl))))))))))), ?_⟩
    have big : 100000 ≤ sizeLine := by decide
    -- the cells
    refine ⟨fun σ' G => (∃ y1 : Option V, σ' = [some (.ref a), y1, none, none, none, none, none, none, none, none, none, none]) ∧ Tabs Tb G, ?_, ?_⟩
    · refine ⟨_, rfl, a, _, rfl, .inl hS, _, _, rfl, _, _, rfl, _, rfl, ?_, ?_, ?_⟩
      · split <;> split <;> omega
      · split <;> split <;> omega
      refine for_range (lo := 0) (fun i σ' G => (∃ y1 : Option V, σ' = [some (.ref a), y1, none, none, none, none, none, none, none, none, none, none]) ∧ SqL K G a (ns.map V.int) ∧ Tabs Tb G) ⟨⟨_, rfl⟩, hS, hTb⟩ (fun i σ' G hi hP => ?_) (fun σ' G hP => ⟨hP.1, hP.2.2⟩)
      obtain ⟨⟨y1, rfl⟩, hSG, t0⟩ := hP
      refine ⟨_, rfl, _, rfl, a, ns, i, ?_, hSG, hlen, ?_, fun d x0 b0 nd => ⟨d, rfl, ⟨x0, b0, 0, upd_same⟩, t0.ext (same_new (Same.refl G) nd), fun G3 x3 t3 hd3 => ⟨_, rfl, ?_⟩⟩⟩
      · show [V.ref a, V.int (0 + (i : Int))] = _
        rw [Int.zero_add]
      · have : i < 6 := by
          revert hi
          split <;> split <;> omega
        omega
      show (if (!true) = true then _ else _)
      rw [if_neg (by decide)]
      exact ⟨⟨_, rfl⟩, sqL_xnew nd ((ExtX.of (same_new (Same.refl G) nd)).trans x3) hSG, t3⟩
    rintro σ' G0 ⟨⟨y1, rfl⟩, t0⟩
    -- the kinds
    refine ⟨fun σ' G => ∃ (kx md : Addr) (M : Mak) (ks : List Str), σ' = [some (.ref a), y1, some (.ref kx), none, none, none, none, none, none, none, none, none] ∧ KindsAt Ck G kx md "a" M ks ∧ OrdOf MKA M ∧ IsNames "a" (keysOf MKA) ks ∧ Tabs Tb G, ?_, ?_⟩
    · refine fun mk nmk => ⟨by decide, fun t1 H1 z1 n1 k1 => ?_⟩
      have s1 := same_k n1 k1
      refine ⟨s1 _ _ upd_same, [(Sum.inr "a", .ref t1)], rfl, by show 1 ≤ 15; omega, ?_⟩
      rw [merge_nil (by show ([Sum.inr "a"] : List Key).Nodup; decide +kernel)]
      obtain ⟨sA, hMk⟩ := disp_end (kvs := [((Sum.inr "a" : Key), V.ref t1)]) (M := MKA) nmk s1 (.cons ⟨rfl, t1, rfl, z1⟩ .nil)
      refine fun kx dx nx ndx nxx => init_by hMk vldA nx ndx fun G2 md M ks hK hO hN s3 => ⟨rfl, ?_⟩
      exact ⟨kx, md, M, ks, rfl, hK, hO, hN, (t0.ext sA).ext s3⟩
    rintro σ' G1 ⟨kx, md, M, ks, rfl, hK, hO, hN, t1⟩
    have hV := hO.vld vldA
    have hlook : lookM M "a" = some (["a", "a"] : List Str) := by rw [hO.look]; decide +kernel
    have hks : ("a" : Str) ∈ ks := (hN.mem _).mpr (.inl rfl)
    -- three nodes
    refine ⟨fun σ' G => ∃ x1 x2 x3 : Addr, σ' = [some (.ref a), y1, some (.ref kx), some (.ref x1), some (.ref x2), some (.ref x3), none, none, none, none, none, none] ∧ Same G1 G ∧ TreeAt K C kx G (nA 5) x1 ∧ TreeAt K C kx G (nA 3) x2 ∧ TreeAt K C kx G (nA 3) x3, ?_, ?_⟩
    · refine ⟨by show 3 ≤ sizeLine; omega, fun tp ntp => ?_⟩
      have s3 := same_new (o := .tup [.int 5, .int 3, .int 3]) (Same.refl G1) ntp
      have e3 : (upd G1 tp (.tup [.int 5, .int 3, .int 3])) tp = some (.tup [.int 5, .int 3, .int 3]) := upd_same
      generalize upd G1 tp (.tup [.int 5, .int 3, .int 3]) = G2 at s3 e3
      refine ⟨tp, rfl, ⟨_, .inl (.inl e3)⟩, fun D hD => ?_⟩
      have k5 : ∀ i : Int, i = 5 ∨ i = 3 → intV (.int i) = true := fun i h => by rcases h with rfl | rfl <;> rfl
      refine lc_it (g := gName 10) (tt := tYes) (vs := [10]) (walk_tup (K := K) (a := tp) (xs := ([5, 3, 3] : List Int).map V.int)) (fun j G => ∃ rs : List Addr, G D = some (.lst (rs.map V.ref)) ∧ rs.length = j ∧ Paired (fun r t => TreeAt K C kx G t r) rs ((([5, 3, 3] : List Int).map nA).take j) ∧ Same G2 G)
        ⟨[], upd_same, rfl, .nil, same_new (Same.refl G2) hD⟩ (fun j G _ h => by obtain ⟨_, _, _, _, sm⟩ := h; exact .inl (.inl (sm _ _ e3))) (fun j u Gx G hj h hy => ?_) (fun G h => ?_)
      · obtain ⟨rs, eD, lr, hP, sm⟩ := h
        obtain ⟨rfl, hu⟩ := hy
        rw [List.getElem?_map] at hu
        obtain ⟨i, hi, rfl⟩ := Option.map_eq_some_iff.mp hu
        have hi2 : i = 5 ∨ i = 3 := by
          have := List.mem_of_getElem? hi
          simpa using this
        have hat : (([5, 3, 3] : List Int).map nA)[j]? = some (nA i) := by rw [List.getElem?_map, hi]; rfl
        refine ⟨rfl, _, rfl, _, rfl, ?_⟩
        refine mk_tree (hK.same fun b o e => sm _ _ (s3 _ _ e)) (k5 _ hi2) (fun x G' s4 h4 => ?_)
        have eD2 := s4 _ _ eD
        refine ⟨_, eD2, ?_, rs ++ [x], ?_, by rw [List.length_append, lr]; rfl, ?_, fun b o e => by rw [upd_ne (ne_of_none e hD)]; exact s4 _ _ (sm _ _ e)⟩
        · rw [List.length_map, lr]
          have : j < 3 := hj
          exact Nat.lt_of_le_of_lt (show j ≤ 3 by omega) (by decide)
        · rw [upd_same, List.map_append]
          rfl
        · rw [take_snoc' hat]
          exact paired_snoc (L2.Paired.mapP hP fun _ _ q => (q.same s4).atl eD2) (h4.atl eD2)
      · obtain ⟨rs, eD, lr, hP, sm⟩ := h
        have hP : Paired (fun r t => TreeAt K C kx G t r) rs [nA 5, nA 3, nA 3] := hP
        obtain ⟨x1, x2, x3, rfl, h1, h2, h3⟩ : ∃ x1 x2 x3, rs = [x1, x2, x3] ∧ TreeAt K C kx G (nA 5) x1 ∧ TreeAt K C kx G (nA 3) x2 ∧ TreeAt K C kx G (nA 3) x3 := by
          cases hP with
          | cons a1 hP =>
            cases hP with
            | cons a2 hP =>
              cases hP with
              | cons a3 hP =>
                cases hP
                exact ⟨_, _, _, rfl, a1, a2, a3⟩
        exact ⟨D, _, rfl, .inl (.inl eD), rfl, _, _, rfl, _, _, rfl, _, _, rfl, rfl, x1, x2, x3, rfl, fun b o e => sm _ _ (s3 _ _ e), h1, h2, h3⟩
    rintro σ' G2 ⟨x1, x2, x3, rfl, s2, h1, h2, h3⟩
    have hK2 := hK.same s2
    have t2 := t1.ext s2
    have hall : ∀ (n : Nat) (L : List Tr), (∀ t ∈ L, t.rank = n ∧ t.way ≠ [] ∧ intV (.int t.key) = true ∧ t.way.length ≤ 1000) → ∀ t ∈ (Trs.of L).list, t.rank = n ∧ t.way ≠ [] ∧ intV (.int t.key) = true ∧ t.way.length ≤ 1000 := fun n L h t ht => by
      rw [Trs.of_list] at ht
      exact h t ht
    -- a pair
    refine ⟨fun σ' G => ∃ x6 : Addr, σ' = [some (.ref a), y1, some (.ref kx), some (.ref x1), some (.ref x2), some (.ref x3), some (.ref x6), none, none, none, none, none] ∧ Same G2 G ∧ TreeAt K C kx G prA x6, ?_, ?_⟩
    · refine ⟨rfl, _, rfl, _, rfl, by show 2 ≤ sizeLine; omega, fun tp ntp => ?_⟩
      have s4 := same_new (o := .tup [.ref x1, .ref x2]) (Same.refl G2) ntp
      refine ⟨tp, kx, md, "a", [x1, x2], Trs.of [nA 5, nA 3], 0, "a", M, ks, ["a", "a"], rfl, .inl (.inl upd_same), trs_of (.cons (h1.same s4) (.cons (h2.same s4) .nil)), Nat.le_refl 2, (by show 2 ≤ 3; decide), by decide, hall 0 _ ?_, hK2.same s4, hV, eqB_self hV.nd, hks, hlook, srt2 _, ?_, by decide, fun y G3 j t s5 hw hT => ?_⟩
      · intro t ht
        simp only [List.mem_cons, List.not_mem_nil, or_false] at ht
        rcases ht with rfl | rfl <;> exact ⟨rfl, List.cons_ne_nil _ _, rfl, by decide⟩
      · rw [Trs.of_list]
        exact .refl _
      obtain ⟨rfl, rfl⟩ := win_one winP hw
      exact ⟨y, rfl, fun b o e => s5 _ _ (s4 _ _ e), hT⟩
    rintro σ' G3 ⟨x6, rfl, s3, h6⟩
    have hK3 := hK2.same s3
    have h33 := h3.same s3
    -- four nodes
    refine ⟨fun σ' G => ∃ x7 : Addr, σ' = [some (.ref a), y1, some (.ref kx), some (.ref x1), some (.ref x2), some (.ref x3), some (.ref x6), some (.ref x7), none, none, none, none] ∧ Same G3 G ∧ TreeAt K C kx G fourA x7, ?_, ?_⟩
    · refine ⟨rfl, _, rfl, rfl, _, rfl, _, rfl, by show 2 ≤ sizeLine; omega, fun tp ntp => ?_⟩
      have s4 := same_new (o := .tup [.ref x3, .ref x3]) (Same.refl G3) ntp
      refine ⟨tp, kx, md, "a", [x3, x3], Trs.of [nA 3, nA 3], 0, "a", M, ks, ["a", "a"], rfl, .inl (.inl upd_same), trs_of (.cons (h33.same s4) (.cons (h33.same s4) .nil)), Nat.le_refl 2, (by show 2 ≤ 3; decide), by decide, hall 0 _ ?_, hK3.same s4, hV, eqB_self hV.nd, hks, hlook, srt2 _, ?_, by decide, fun y G4 j t s5 hw hT => ?_⟩
      · intro t ht
        simp only [List.mem_cons, List.not_mem_nil, or_false] at ht
        rcases ht with rfl | rfl <;> exact ⟨rfl, List.cons_ne_nil _ _, rfl, by decide⟩
      · rw [Trs.of_list]
        exact .refl _
      obtain ⟨rfl, rfl⟩ := win_one winS hw
      have s35 : Same G3 G4 := fun b o e => s5 _ _ (s4 _ _ e)
      refine ⟨by show 2 ≤ sizeLine; omega, fun tp2 ntp2 => ?_⟩
      have s6 := same_new (o := .tup [.ref x6, .ref y]) (Same.refl G4) ntp2
      refine ⟨tp2, kx, md, "a", [x6, y], Trs.of [prA, secA], 1, "a", M, ks, ["a", "a"], rfl, .inl (.inl upd_same), trs_of (.cons ((h6.same s35).same s6) (.cons (hT.same s6) .nil)), Nat.le_refl 2, (by show 2 ≤ 3; decide), by decide, hall 1 _ ?_, (hK3.same s35).same s6, hV, eqB_self hV.nd, hks, hlook, srt2 _, ?_, by decide, fun z G5 j t s7 hw2 hT2 => ?_⟩
      · intro t ht
        simp only [List.mem_cons, List.not_mem_nil, or_false] at ht
        rcases ht with rfl | rfl <;> exact ⟨rfl, List.cons_ne_nil _ _, rfl, by decide⟩
      · rw [Trs.of_list]
        exact .refl _
      obtain ⟨rfl, rfl⟩ := win_one winF hw2
      exact ⟨z, rfl, fun b o e => s7 _ _ (s6 _ _ (s35 _ _ e)), hT2⟩
    rintro σ' G4 ⟨x7, rfl, s4, h7⟩
    have t4 := (t2.ext s3).ext s4
    have hsz : fourA.size ≤ 5000 := by decide
    have hne : fourA.way ≠ [] := List.cons_ne_nil _ _
    clear h1 h2 h3 h6 h33 hK hK2 hK3
    generalize hf : fourA = t at h7 hsz hne
    obtain ⟨dx, wl, cl, das, m0, hx, _, _, _⟩ := treeAt_ins h7
    -- what it tells
    refine ⟨fun σ' G => ∃ p8 : Addr, σ' = [some (.ref a), y1, some (.ref kx), some (.ref x1), some (.ref x2), some (.ref x3), some (.ref x6), some (.ref x7), some (.ref p8), none, none, none] ∧ ExtN G4 G ∧ Tabs Tb G ∧ ∃ p9 p10 p11 : Addr, G p8 = some (.lst [.str "a of rank 2 with 4 keys from 3 on", .ref p9, .ref p10, .ref p11]) ∧ SqT K G p9 (([("a" : Str), "a", "a"] : List Str).map V.str) ∧ SqT K G p10 (([3, 3, 3, 5] : List Int).map V.int) ∧ G p11 = some (.lst [.int 3]), ?_, ?_⟩
    · refine ⟨_, rfl, x7, dx, _, rfl, hx, x7, kx, t, rfl, h7, hsz, hne, by rw [← hf]; decide, by rw [← hf]; decide, by rw [← hf]; decide, _, rfl, _, rfl, x7, dx, _, rfl, hx, x7, kx, t, rfl, h7, fun wl' hw' => ?_⟩
      have hw9 : SqT K G4 wl' (([("a" : Str), "a", "a"] : List Str).map V.str) := by rw [← hf] at hw'; exact hw'
      refine ⟨_, rfl, x7, dx, _, rfl, hx, x7, kx, t, rfl, h7, hsz, fun cp G5 ks' s5 hcp hper hsort => ?_⟩
      have hks' : ks' = [3, 3, 3, 5] := by
        refine List.Perm.eq_of_pairwise (fun a b _ _ h1 h2 => Int.le_antisymm h1 h2) hsort (by decide) (hper.trans ?_)
        rw [← hf, fourK]
        decide
      subst hks'
      have h75 := h7.same s5
      refine ⟨_, rfl, x7, dx, _, rfl, s5 _ _ hx, tf_bro _ _ _ _ _, x7, kx, t, rfl, h75, hsz, by rw [← hf]; decide, ?_, t4.ext s5, fun pb G6 e6 t6 hB => ?_⟩
      · intro u hu
        rw [← hf] at hu
        have hu : u ∈ ([nA 5, secA] : List Tr) := hu
        simp only [List.mem_cons, List.not_mem_nil, or_false] at hu
        rcases hu with rfl | rfl <;> exact List.cons_ne_nil _ _
      obtain ⟨as, hp, hBd⟩ := hB
      rw [← hf] at hBd
      have hBd : Paired (BdAt K C kx G6) as [Trs.cons (nA 5) .nil, Trs.cons secA .nil] := hBd
      obtain ⟨b1, b2, rfl, hb⟩ : ∃ b1 b2, as = [b1, b2] ∧ BdAt K C kx G6 b2 (Trs.cons secA .nil) := by
        cases hBd with
        | cons a1 hP =>
          cases hP with
          | cons a2 hP =>
            cases hP
            exact ⟨_, _, rfl, a2⟩
      obtain ⟨zs, hz, hon⟩ := hb
      have hon : Paired (fun x t => TreeAt K C kx G6 t x) zs [secA] := by
        have e : byKind (Trs.cons secA .nil).list = [secA] := List.mergeSort_singleton secA
        rw [e] at hon
        exact hon
      obtain ⟨z, rfl, hzt⟩ : ∃ z, zs = [z] ∧ TreeAt K C kx G6 secA z := by
        cases hon with
        | cons a1 hP =>
          cases hP
          exact ⟨_, rfl, a1⟩
      obtain ⟨dz, wz, cz, daz, _, hzx, _, _, _⟩ := treeAt_ins hzt
      refine ⟨pb, _, _, .ref b2, rfl, rfl, hp, atI_nat (j := 1) rfl, b2, rfl, ⟨_, hz⟩, fun D hD => ?_⟩
      refine lc_it (g := gName 11) (tt := tYes) (vs := [11]) (walk_tup (K := K) (a := b2) (xs := [z].map V.ref)) (fun j G => G D = some (.lst ((([3] : List Int).take j).map V.int)) ∧ Same G6 G)
        ⟨upd_same, same_new (Same.refl G6) hD⟩ (fun j G _ h => sqT_st h.2 hz) (fun j u Gx G hj h hy => ?_) (fun G h => ?_)
      · obtain ⟨eD, sm⟩ := h
        obtain ⟨rfl, hu⟩ := hy
        obtain rfl : j = 0 := by
          have : j < 1 := hj
          omega
        cases hu
        refine ⟨rfl, _, rfl, z, dz, _, rfl, sm _ _ hzx, z, kx, secA, rfl, hzt.same sm, _, eD, by decide, upd_same, fun b o e => by rw [upd_ne (ne_of_none e hD)]; exact sm _ _ e⟩
      · obtain ⟨eD, sm⟩ := h
        refine ⟨by show 4 ≤ sizeLine; omega, fun p8 n8 => ?_⟩
        have s8 := same_new (o := .lst [.str (strT t.kind t.rank t.size t.key), .ref wl', .ref cp, .ref D]) sm n8
        have x8 : ExtN G5 (upd G p8 (.lst [.str (strT t.kind t.rank t.size t.key), .ref wl', .ref cp, .ref D])) := e6.trans (.of s8)
        refine ⟨p8, rfl, (ExtN.of s5).trans x8, t6.ext s8, wl', cp, D, ?_, sqT_exN x8 (sqT_st s5 hw9), sqT_exN x8 hcp, (same_new (Same.refl G) n8) _ _ eD⟩
        rw [upd_same, ← hf, fourS]
    rintro σ' G5 ⟨p8, rfl, x5, t5, p9, p10, p11, e8, e9, e10, e11⟩
    have h75 := h7.exN x5
    -- the nodes and the limit
    refine ⟨fun σ' G => ∃ p12 : Addr, σ' = [some (.ref a), y1, some (.ref kx), some (.ref x1), some (.ref x2), some (.ref x3), some (.ref x6), some (.ref x7), some (.ref p12), none, none, none] ∧ Dp K G (.ref p12) (.list [.str "a of rank 2 with 4 keys from 3 on", .tuple [.str "a", .str "a", .str "a"], .tuple [.int 3, .int 3, .int 3, .int 5], .list [.int 3], .list (ndD [(3, 0), (5, 1), (3, 1), (3, 2)]), .int 5000]), ?_, ?_⟩
    · refine ⟨_, rfl, _, rfl, x7, kx, t, rfl, h75, hsz, fun rs G6 s6 hN p np => ⟨by show 2 ≤ sizeLine; omega, fun q2 nq2 => ?_⟩⟩
      have sp := same_new (o := .lst (rs.map V.ref)) s6 np
      have ep : (upd G6 p (.lst (rs.map V.ref))) p = some (.lst (rs.map V.ref)) := upd_same
      have hN2 := L2.Paired.mapP hN fun _ _ q => sqT_st (same_new (o := .lst (rs.map V.ref)) (Same.refl G6) np) q
      generalize upd G6 p (.lst (rs.map V.ref)) = G7 at sp ep nq2 hN2
      have sq := same_new (o := .lst [.ref p, .int 5000]) (Same.refl G7) nq2
      have eq : (upd G7 q2 (.lst [.ref p, .int 5000])) q2 = some (.lst [.ref p, .int 5000]) := upd_same
      generalize upd G7 q2 (.lst [.ref p, .int 5000]) = G8 at sq eq
      have s58 : Same G5 G8 := fun b o e => sq _ _ (sp _ _ e)
      refine ⟨p8, q2, _, _, rfl, rfl, s58 _ _ e8, eq, by show 6 ≤ sizeLine; omega, fun p12 n12 => ?_⟩
      have s9 := same_new (o := .lst [.str "a of rank 2 with 4 keys from 3 on", .ref p9, .ref p10, .ref p11, .ref p, .int 5000]) (Same.refl G8) n12
      have s59 : Same G5 (upd G8 p12 (.lst [.str "a of rank 2 with 4 keys from 3 on", .ref p9, .ref p10, .ref p11, .ref p, .int 5000])) := fun b o e => s9 _ _ (s58 _ _ e)
      refine ⟨p12, rfl, .lst (.inl (.inl upd_same)) (.cons (.str _) (.cons (.tup (sqT_st s59 e9) (dp_texts _)) (.cons (.tup (sqT_st s59 e10) (dp_ints _)) (.cons (.lst (.inl (.inl (s59 _ _ e11))) (.cons (.int _) .nil)) (.cons (.lst (.inl (.inl (s9 _ _ (sq _ _ ep)))) ?_) (.cons (.int _) .nil))))))⟩
      refine dp_nodes (L2.Paired.mapP ?_ fun _ _ q => sqT_st (fun b o e => s9 _ _ (sq _ _ e)) q)
      rw [← hf, fourN] at hN2
      exact hN2
    rintro σ' G6 ⟨p12, rfl, hD1⟩
    -- what is due
    refine ⟨fun σ' G => ∃ p13 p14 p15 p16 : Addr, σ' = [some (.ref a), y1, some (.ref kx), some (.ref x1), some (.ref x2), some (.ref x3), some (.ref x6), some (.ref x7), some (.ref p12), some (.ref p13), none, none] ∧ Same G6 G ∧ G p13 = some (.lst [.str "a of rank 2 with 4 keys from 3 on", .ref p14, .ref p15, .ref p16]) ∧ G p14 = some (.tup (([("a" : Str), "a", "a"] : List Str).map V.str)) ∧ G p15 = some (.tup (([3, 3, 3, 5] : List Int).map V.int)) ∧ G p16 = some (.lst [.int 3]), ?_, ?_⟩
    · refine ⟨by show 3 ≤ sizeLine; omega, fun p14 n14 => ⟨by show 4 ≤ sizeLine; omega, fun p15 n15 => ⟨by show 1 ≤ sizeLine; omega, fun p16 n16 => ⟨by show 4 ≤ sizeLine; omega, fun p13 n13 => ?_⟩⟩⟩⟩
      have u1 := same_new (o := .tup [.str "a", .str "a", .str "a"]) (Same.refl G6) n14
      have v1 : (upd G6 p14 (.tup [.str "a", .str "a", .str "a"])) p14 = some (.tup [.str "a", .str "a", .str "a"]) := upd_same
      generalize upd G6 p14 (.tup [.str "a", .str "a", .str "a"]) = G7 at u1 v1 n15 n16 n13
      have u2 := same_new (o := .tup [.int 3, .int 3, .int 3, .int 5]) (Same.refl G7) n15
      have v2 : (upd G7 p15 (.tup [.int 3, .int 3, .int 3, .int 5])) p15 = some (.tup [.int 3, .int 3, .int 3, .int 5]) := upd_same
      generalize upd G7 p15 (.tup [.int 3, .int 3, .int 3, .int 5]) = G8 at u2 v2 n16 n13
      have u3 := same_new (o := .lst [.int 3]) (Same.refl G8) n16
      have v3 : (upd G8 p16 (.lst [.int 3])) p16 = some (.lst [.int 3]) := upd_same
      generalize upd G8 p16 (.lst [.int 3]) = G9 at u3 v3 n13
      have u4 := same_new (o := .lst [.str "a of rank 2 with 4 keys from 3 on", .ref p14, .ref p15, .ref p16]) (Same.refl G9) n13
      exact ⟨p13, p14, p15, p16, rfl, fun b o e => u4 _ _ (u3 _ _ (u2 _ _ (u1 _ _ e))), upd_same, u4 _ _ (u3 _ _ (u2 _ _ v1)), u4 _ _ (u3 _ _ v2), u4 _ _ v3⟩
    rintro σ' G7 ⟨p13, p14, p15, p16, rfl, s7, e13, e14, e15, e16⟩
    refine ⟨_, rfl, _, rfl, ?_⟩
    refine ⟨by show 2 ≤ sizeLine; omega, fun q1 n1 => ⟨by show 2 ≤ sizeLine; omega, fun q2 n2 => ⟨by show 2 ≤ sizeLine; omega, fun q3 n3 => ⟨by show 2 ≤ sizeLine; omega, fun q4 n4 => ⟨by show 4 ≤ sizeLine; omega, fun q5 n5 => ⟨by show 2 ≤ sizeLine; omega, fun q6 n6 => ?_⟩⟩⟩⟩⟩⟩
    have w1 := same_new (o := .tup [.int 3, .int 0]) (Same.refl G7) n1
    have f1 : (upd G7 q1 (.tup [.int 3, .int 0])) q1 = some (.tup [.int 3, .int 0]) := upd_same
    generalize upd G7 q1 (.tup [.int 3, .int 0]) = J1 at w1 f1 n2 n3 n4 n5 n6 ⊢
    have w2 := same_new (o := .tup [.int 5, .int 1]) (Same.refl J1) n2
    have f2 : (upd J1 q2 (.tup [.int 5, .int 1])) q2 = some (.tup [.int 5, .int 1]) := upd_same
    generalize upd J1 q2 (.tup [.int 5, .int 1]) = J2 at w2 f2 n3 n4 n5 n6 ⊢
    have w3 := same_new (o := .tup [.int 3, .int 1]) (Same.refl J2) n3
    have f3 : (upd J2 q3 (.tup [.int 3, .int 1])) q3 = some (.tup [.int 3, .int 1]) := upd_same
    generalize upd J2 q3 (.tup [.int 3, .int 1]) = J3 at w3 f3 n4 n5 n6 ⊢
    have w4 := same_new (o := .tup [.int 3, .int 2]) (Same.refl J3) n4
    have f4 : (upd J3 q4 (.tup [.int 3, .int 2])) q4 = some (.tup [.int 3, .int 2]) := upd_same
    generalize upd J3 q4 (.tup [.int 3, .int 2]) = J4 at w4 f4 n5 n6 ⊢
    have w5 := same_new (o := .lst [.ref q1, .ref q2, .ref q3, .ref q4]) (Same.refl J4) n5
    have f5 : (upd J4 q5 (.lst [.ref q1, .ref q2, .ref q3, .ref q4])) q5 = some (.lst [.ref q1, .ref q2, .ref q3, .ref q4]) := upd_same
    generalize upd J4 q5 (.lst [.ref q1, .ref q2, .ref q3, .ref q4]) = J5 at w5 f5 n6 ⊢
    have w6 := same_new (o := .lst [.ref q5, .int 5000]) (Same.refl J5) n6
    have f6 : (upd J5 q6 (.lst [.ref q5, .int 5000])) q6 = some (.lst [.ref q5, .int 5000]) := upd_same
    generalize upd J5 q6 (.lst [.ref q5, .int 5000]) = J6 at w6 f6 ⊢
    have w76 : Same G7 J6 := fun b o e => w6 _ _ (w5 _ _ (w4 _ _ (w3 _ _ (w2 _ _ (w1 _ _ e)))))
    refine ⟨p13, q6, _, _, rfl, rfl, w76 _ _ e13, f6, by show 6 ≤ sizeLine; omega, fun q7 n7 => ?_⟩
    have w7 := same_new (o := .lst [.str "a of rank 2 with 4 keys from 3 on", .ref p14, .ref p15, .ref p16, .ref q5, .int 5000]) (Same.refl J6) n7
    have w77 : Same G7 (upd J6 q7 (.lst [.str "a of rank 2 with 4 keys from 3 on", .ref p14, .ref p15, .ref p16, .ref q5, .int 5000])) := fun b o e => w7 _ _ (w76 _ _ e)
    have hD2 : Dp K (upd J6 q7 (.lst [.str "a of rank 2 with 4 keys from 3 on", .ref p14, .ref p15, .ref p16, .ref q5, .int 5000])) (.ref q7) (.list [.str "a of rank 2 with 4 keys from 3 on", .tuple [.str "a", .str "a", .str "a"], .tuple [.int 3, .int 3, .int 3, .int 5], .list [.int 3], .list (ndD [(3, 0), (5, 1), (3, 1), (3, 2)]), .int 5000]) := by
      refine .lst (.inl (.inl upd_same)) (.cons (.str _) (.cons (.tup (.inl (.inl (w77 _ _ e14))) (dp_texts _)) (.cons (.tup (.inl (.inl (w77 _ _ e15))) (dp_ints _)) (.cons (.lst (.inl (.inl (w77 _ _ e16))) (.cons (.int _) .nil)) (.cons (.lst (.inl (.inl (w7 _ _ (w6 _ _ f5)))) ?_) (.cons (.int _) .nil))))))
      exact dp_nodes (rs := [q1, q2, q3, q4]) (.cons (.inl (.inl (w7 _ _ (w6 _ _ (w5 _ _ (w4 _ _ (w3 _ _ (w2 _ _ f1)))))))) (.cons (.inl (.inl (w7 _ _ (w6 _ _ (w5 _ _ (w4 _ _ (w3 _ _ f2))))))) (.cons (.inl (.inl (w7 _ _ (w6 _ _ (w5 _ _ (w4 _ _ f3)))))) (.cons (.inl (.inl (w7 _ _ (w6 _ _ (w5 _ _ f4))))) .nil))))
    have hsh : SeqAt.shaped (.list [.str "a of rank 2 with 4 keys from 3 on", .tuple [.str "a", .str "a", .str "a"], .tuple [.int 3, .int 3, .int 3, .int 5], .list [.int 3], .list (ndD [(3, 0), (5, 1), (3, 1), (3, 2)]), .int 5000]) = true := by decide +kernel
    refine ⟨_, _, hD1.st (fun b o e => w77 _ _ (s7 _ _ e)), hD2, hsh, hsh, ?_⟩
    rw [PySem.SeqAt.eqv_refl _ (PySem.SeqAt.canLay_of_shaped hsh)]
    exact q _
theorem ok_law {f c1 P1 : Addr} {fd : FuncData} {Tb : List (Addr × Str)} (F : Fun K "law" "law" s_law f fd) (gl : mg "law" = some (.ref f))
    (hB : ∀ C, mg "Tree" = some (.ref C) → (∃ (f : Addr) (fd : FuncData), Fun K "broken" "Tree.broken" s_Tree_broken f fd ∧ Meth K C "broken" f ∧ Binds K fd ["self"] [] ∧ PySem.W.fnIn K f = true ∧ fd.code = .ref c1) ∧ TabB base mg c1 P1 ∧ (P1, ln "Tree.broken") ∈ Tb ∧ ∀ p ∈ Tb, p.1 = P1 → p.2 = ln "Tree.broken")
    (T : Top K mg) : FnG P w K mg base CX0 40 f fd ["_law_script"] (spLaw K Tb) := by
  refine ok_law0 F T fun C hC => ?_
  obtain ⟨C2, TC⟩ := T.c_Tree
  obtain rfl : C2 = C := by
    have := TC.gC.symm.trans hC
    cases this
    rfl
  obtain ⟨⟨fb, fdb, Fb, me, bb, fi, hc⟩, tb, mem, one⟩ := hB _ hC
  exact ⟨fb, fdb, (ok_br Fb hc tb mem one T TC).mono (by decide), me, bb, fi⟩
end
end Kl

set_option maxRecDepth 100000
set_option maxHeartbeats 4000000
/-! ### own end, where methods make lambdas: the tables are those that KNestM's head leaves -/
namespace Gx
open PySem PySem.Spec PyProof.Rows L2
theorem walkGM {l : PySem.W.OpenLaw} {n k : Nat} {q : Program} {loose : List Str} {XP : (Str → Option Value) → Heap → Prop} {YP : World → Heap → Prop} {d : DefRec} {K : Params → PySem.W.Frag} {CX : World → CXT} {x : Str} {ts : List Addr}
    (most : l.most = some n) (small : n ≤ sizeLine) (plain : d.params.defaults = []) (room : Room k callerA) (hY : ∀ (w : World) (h : Heap), YP w h → (K w.params).In h)
    (hT : ∀ (w : World) (h : Heap), YP w h → ∀ P ∈ ts, h.get? P = some (PySem.W.tabObj #[]))
    (F : ∀ (w : World) (mg : Str → Option Value) (fa : Addr) (h : Heap), (K w.params).In h → h.Ns mainGlobals mg → mg d.name = some (.ref fa) →
      ∃ (fd : FuncData) (cs : List (Addr × Addr)) (sp : Sp), (∀ c ∈ cs, (PySem.W.codeHdIn (K w.params) c.1 c.2 = true ∧ c.2 ∈ ts) ∧ (K w.params).lookup c.2 = none) ∧
        (∀ (s : Shared) (u : Value), BindsTo s fd ⟨[u], []⟩ [(x, u)]) ∧
        (∀ (H : Hp) (a : Addr) (ns : List Int), ns.length ≤ n → (∀ c ∈ cs, H c.2 = some (.tbl #[])) → SqL (K w.params) H a (ns.map V.int) → sp [.ref a] H (fun v _ => v = .bl true) fun _ _ _ => False) ∧
        ∀ base : Heap, (K w.params).In base → base.Ns mainGlobals mg → (∀ c ∈ cs, LamX.TabB base mg c.1 c.2) → FnG l.prog w (K w.params) mg base (CX w) k fa fd [x] sp)
    (noErr : ∀ (w : World) (H : Hp) (s : Shared) (e : Value) (s' : Shared), CX w [] H s (fun _ _ _ => False) e s' → False) :
    PySem.W.WalkO q loose XP YP l.row.toRowW d [] (fun f vs => PySem.call f vs) := by
  refine Att.attach_call most plain fun w s₀ t mg mb fa o pm cd doc a vs ns G Y ho hd hcd hmg scr hints hlen gens => ?_
  obtain ⟨fd, cs, sp, tabs, bind, want, body⟩ := F w mg fa _ (hY w _ Y) G.T.g hmg
  have th : ∀ c ∈ cs, PySem.W.CodeHd t.heap c.1 c.2 ∧ t.heap.get? c.2 = some (PySem.W.tabObj #[]) := fun c hc => by
    obtain ⟨⟨h1, h2⟩, _⟩ := tabs c hc
    exact ⟨PySem.W.codeHd_of_K (hY w _ Y) h1, hT w _ Y _ h2⟩
  exact lawGT (hY w _ Y) G.T.g G.T.b G.T.builtins G.T.nolimit gens ⟨fun c hc => (th c hc).1, fun c hc => (th c hc).2, fun c hc => (tabs c hc).2⟩ G.T.bmain scr hints (Nat.le_trans hlen small) room body bind
    (fun H hO hS => want H a ns hlen hO hS) fun H e s' => noErr w H t e s'
end Gx

set_option maxRecDepth 100000
set_option maxHeartbeats 4000000
namespace Kl
open PySem PySem.Spec PyProof.Rows L2 Gx LamX
/-! ### the end -/
theorem all_mk {l : PySem.W.OpenLaw} {w : World} {K : PySem.W.Frag} {h : Heap} {mg : Str → Option Value} {fa : Addr} (X : K.In h) (G : h.Ns mainGlobals mg) (hfa : mg "law" = some (.ref fa))
    {Cy0 : Addr} {nmy0 qny0 : Str} {Ny0 : Addr} {bsy0 bmy0 : List Value} {hdy0 : Bool} {sny0 : List Str} {suby0 : List Value} {aby0 : Bool} {coly0 : Option Bool} {ddy0 : Option Addr} {k0y0 k1y0 k2y0 k3y0 k5y0 : Option Value}
    {Cy1 : Addr} {nmy1 qny1 : Str} {Ny1 : Addr} {bsy1 bmy1 : List Value} {hdy1 : Bool} {sny1 : List Str} {suby1 : List Value} {aby1 : Bool} {coly1 : Option Bool} {ddy1 : Option Addr} {k0y1 k1y1 k2y1 k3y1 k5y1 : Option Value}
    {Cy2 : Addr} {nmy2 qny2 : Str} {Ny2 : Addr} {bsy2 bmy2 : List Value} {hdy2 : Bool} {sny2 : List Str} {suby2 : List Value} {aby2 : Bool} {coly2 : Option Bool} {ddy2 : Option Addr} {k0y2 k1y2 k2y2 k3y2 k5y2 : Option Value}
    {f0 : Addr} {od0 an0 : Option Addr} {sl0 : Array (Option Value)} {oc0 kV0 dc0 pm0 cd0 ct0 : Value}
    {f1 : Addr} {od1 an1 : Option Addr} {sl1 : Array (Option Value)} {oc1 kV1 dc1 pm1 cd1 ct1 : Value}
    {f2 : Addr} {od2 an2 : Option Addr} {sl2 : Array (Option Value)} {oc2 kV2 dc2 pm2 cd2 ct2 : Value}
    {f3 : Addr} {od3 an3 : Option Addr} {sl3 : Array (Option Value)} {oc3 kV3 dc3 pm3 cd3 ct3 : Value}
    {f4 : Addr} {od4 an4 : Option Addr} {sl4 : Array (Option Value)} {oc4 kV4 dc4 pm4 cd4 ct4 : Value}
    {f5 : Addr} {od5 an5 : Option Addr} {sl5 : Array (Option Value)} {oc5 kV5 dc5 pm5 cd5 ct5 : Value}
    {f6 : Addr} {od6 an6 : Option Addr} {sl6 : Array (Option Value)} {oc6 kV6 dc6 pm6 cd6 ct6 : Value}
    {f7 : Addr} {od7 an7 : Option Addr} {sl7 : Array (Option Value)} {oc7 kV7 dc7 pm7 cd7 ct7 : Value}
    {f8 : Addr} {od8 an8 : Option Addr} {sl8 : Array (Option Value)} {oc8 kV8 dc8 pm8 cd8 ct8 : Value}
    {f9 : Addr} {od9 an9 : Option Addr} {sl9 : Array (Option Value)} {oc9 kV9 dc9 pm9 cd9 ct9 : Value}
    {f10 : Addr} {od10 an10 : Option Addr} {sl10 : Array (Option Value)} {oc10 kV10 dc10 pm10 cd10 ct10 : Value}
    {f11 : Addr} {od11 an11 : Option Addr} {sl11 : Array (Option Value)} {oc11 kV11 dc11 pm11 cd11 ct11 : Value}
    {f12 : Addr} {od12 an12 : Option Addr} {sl12 : Array (Option Value)} {oc12 kV12 dc12 pm12 cd12 ct12 : Value}
    {f13 : Addr} {od13 an13 : Option Addr} {sl13 : Array (Option Value)} {oc13 kV13 dc13 pm13 cd13 ct13 : Value}
    {f14 : Addr} {od14 an14 : Option Addr} {sl14 : Array (Option Value)} {oc14 kV14 dc14 pm14 cd14 ct14 : Value}
    {f15 : Addr} {od15 an15 : Option Addr} {sl15 : Array (Option Value)} {oc15 kV15 dc15 pm15 cd15 ct15 : Value}
    {f16 : Addr} {od16 an16 : Option Addr} {sl16 : Array (Option Value)} {oc16 kV16 dc16 pm16 cd16 ct16 : Value}
    {f17 : Addr} {od17 an17 : Option Addr} {sl17 : Array (Option Value)} {oc17 kV17 dc17 pm17 cd17 ct17 : Value}
    {f18 : Addr} {od18 an18 : Option Addr} {sl18 : Array (Option Value)} {oc18 kV18 dc18 pm18 cd18 ct18 : Value}
    {f19 : Addr} {od19 an19 : Option Addr} {sl19 : Array (Option Value)} {oc19 kV19 dc19 pm19 cd19 ct19 : Value}
    {f20 : Addr} {od20 an20 : Option Addr} {sl20 : Array (Option Value)} {oc20 kV20 dc20 pm20 cd20 ct20 : Value}
    {f21 : Addr} {od21 an21 : Option Addr} {sl21 : Array (Option Value)} {oc21 kV21 dc21 pm21 cd21 ct21 : Value}
    {f22 : Addr} {od22 an22 : Option Addr} {sl22 : Array (Option Value)} {oc22 kV22 dc22 pm22 cd22 ct22 : Value}
    {f23 : Addr} {od23 an23 : Option Addr} {sl23 : Array (Option Value)} {oc23 kV23 dc23 pm23 cd23 ct23 : Value}
    {f24 : Addr} {od24 an24 : Option Addr} {sl24 : Array (Option Value)} {oc24 kV24 dc24 pm24 cd24 ct24 : Value}
    {f25 : Addr} {od25 an25 : Option Addr} {sl25 : Array (Option Value)} {oc25 kV25 dc25 pm25 cd25 ct25 : Value}
    {f26 : Addr} {od26 an26 : Option Addr} {sl26 : Array (Option Value)} {oc26 kV26 dc26 pm26 cd26 ct26 : Value}
    {f27 : Addr} {od27 an27 : Option Addr} {sl27 : Array (Option Value)} {oc27 kV27 dc27 pm27 cd27 ct27 : Value}
    {f28 : Addr} {od28 an28 : Option Addr} {sl28 : Array (Option Value)} {oc28 kV28 dc28 pm28 cd28 ct28 : Value}
    {f29 : Addr} {od29 an29 : Option Addr} {sl29 : Array (Option Value)} {oc29 kV29 dc29 pm29 cd29 ct29 : Value}
    {f30 : Addr} {od30 an30 : Option Addr} {sl30 : Array (Option Value)} {oc30 kV30 dc30 pm30 cd30 ct30 : Value}
    {CoKinds : Addr}
    {fM0Kinds : Addr} {odM0Kinds anM0Kinds : Option Addr} {slM0Kinds : Array (Option Value)} {ocM0Kinds kVM0Kinds dcM0Kinds pmM0Kinds cdM0Kinds ctM0Kinds : Value}
    {fM2Kinds : Addr} {odM2Kinds anM2Kinds : Option Addr} {slM2Kinds : Array (Option Value)} {ocM2Kinds kVM2Kinds dcM2Kinds pmM2Kinds cdM2Kinds ctM2Kinds : Value}
    {qM2Kinds : Addr} {rsM2Kinds : List Value}
    {fM3Kinds : Addr} {odM3Kinds anM3Kinds : Option Addr} {slM3Kinds : Array (Option Value)} {ocM3Kinds kVM3Kinds dcM3Kinds pmM3Kinds cdM3Kinds ctM3Kinds : Value}
    {qM3Kinds : Addr} {rsM3Kinds : List Value}
    {fM4Kinds : Addr} {odM4Kinds anM4Kinds : Option Addr} {slM4Kinds : Array (Option Value)} {ocM4Kinds kVM4Kinds dcM4Kinds pmM4Kinds cdM4Kinds ctM4Kinds : Value}
    {qM4Kinds : Addr} {rsM4Kinds : List Value}
    {fM7Kinds : Addr} {odM7Kinds anM7Kinds : Option Addr} {slM7Kinds : Array (Option Value)} {ocM7Kinds kVM7Kinds dcM7Kinds pmM7Kinds cdM7Kinds ctM7Kinds : Value}
    {fM9Kinds : Addr} {odM9Kinds anM9Kinds : Option Addr} {slM9Kinds : Array (Option Value)} {ocM9Kinds kVM9Kinds dcM9Kinds pmM9Kinds cdM9Kinds ctM9Kinds : Value}
    {fM10Kinds : Addr} {odM10Kinds anM10Kinds : Option Addr} {slM10Kinds : Array (Option Value)} {ocM10Kinds kVM10Kinds dcM10Kinds pmM10Kinds cdM10Kinds ctM10Kinds : Value}
    {fM12Kinds : Addr} {odM12Kinds anM12Kinds : Option Addr} {slM12Kinds : Array (Option Value)} {ocM12Kinds kVM12Kinds dcM12Kinds pmM12Kinds cdM12Kinds ctM12Kinds : Value}
    {fM13Kinds : Addr} {odM13Kinds anM13Kinds : Option Addr} {slM13Kinds : Array (Option Value)} {ocM13Kinds kVM13Kinds dcM13Kinds pmM13Kinds cdM13Kinds ctM13Kinds : Value}
    {fM14Kinds : Addr} {odM14Kinds anM14Kinds : Option Addr} {slM14Kinds : Array (Option Value)} {ocM14Kinds kVM14Kinds dcM14Kinds pmM14Kinds cdM14Kinds ctM14Kinds : Value}
    {CoTree : Addr}
    {fM0Tree : Addr} {odM0Tree anM0Tree : Option Addr} {slM0Tree : Array (Option Value)} {ocM0Tree kVM0Tree dcM0Tree pmM0Tree cdM0Tree ctM0Tree : Value}
    {fM2Tree : Addr} {odM2Tree anM2Tree : Option Addr} {slM2Tree : Array (Option Value)} {ocM2Tree kVM2Tree dcM2Tree pmM2Tree cdM2Tree ctM2Tree : Value}
    {qM2Tree : Addr} {rsM2Tree : List Value}
    {fM3Tree : Addr} {odM3Tree anM3Tree : Option Addr} {slM3Tree : Array (Option Value)} {ocM3Tree kVM3Tree dcM3Tree pmM3Tree cdM3Tree ctM3Tree : Value}
    {qM3Tree : Addr} {rsM3Tree : List Value}
    {fM4Tree : Addr} {odM4Tree anM4Tree : Option Addr} {slM4Tree : Array (Option Value)} {ocM4Tree kVM4Tree dcM4Tree pmM4Tree cdM4Tree ctM4Tree : Value}
    {qM4Tree : Addr} {rsM4Tree : List Value}
    {fM5Tree : Addr} {odM5Tree anM5Tree : Option Addr} {slM5Tree : Array (Option Value)} {ocM5Tree kVM5Tree dcM5Tree pmM5Tree cdM5Tree ctM5Tree : Value}
    {qM5Tree : Addr} {rsM5Tree : List Value}
    {fM6Tree : Addr} {odM6Tree anM6Tree : Option Addr} {slM6Tree : Array (Option Value)} {ocM6Tree kVM6Tree dcM6Tree pmM6Tree cdM6Tree ctM6Tree : Value}
    {qM6Tree : Addr} {rsM6Tree : List Value}
    {fM7Tree : Addr} {odM7Tree anM7Tree : Option Addr} {slM7Tree : Array (Option Value)} {ocM7Tree kVM7Tree dcM7Tree pmM7Tree cdM7Tree ctM7Tree : Value}
    {qM7Tree : Addr} {rsM7Tree : List Value}
    {fM8Tree : Addr} {odM8Tree anM8Tree : Option Addr} {slM8Tree : Array (Option Value)} {ocM8Tree kVM8Tree dcM8Tree pmM8Tree cdM8Tree ctM8Tree : Value}
    {qM8Tree : Addr} {rsM8Tree : List Value}
    {fM9Tree : Addr} {odM9Tree anM9Tree : Option Addr} {slM9Tree : Array (Option Value)} {ocM9Tree kVM9Tree dcM9Tree pmM9Tree cdM9Tree ctM9Tree : Value}
    {qM9Tree : Addr} {rsM9Tree : List Value}
    {fM10Tree : Addr} {odM10Tree anM10Tree : Option Addr} {slM10Tree : Array (Option Value)} {ocM10Tree kVM10Tree dcM10Tree pmM10Tree cdM10Tree ctM10Tree : Value}
    {fM13Tree : Addr} {odM13Tree anM13Tree : Option Addr} {slM13Tree : Array (Option Value)} {ocM13Tree kVM13Tree dcM13Tree pmM13Tree cdM13Tree ctM13Tree : Value}
    {fM14Tree : Addr} {odM14Tree anM14Tree : Option Addr} {slM14Tree : Array (Option Value)} {ocM14Tree kVM14Tree dcM14Tree pmM14Tree cdM14Tree ctM14Tree : Value}
    {fM15Tree : Addr} {odM15Tree anM15Tree : Option Addr} {slM15Tree : Array (Option Value)} {ocM15Tree kVM15Tree dcM15Tree pmM15Tree cdM15Tree ctM15Tree : Value}
    {fM16Tree : Addr} {odM16Tree anM16Tree : Option Addr} {slM16Tree : Array (Option Value)} {ocM16Tree kVM16Tree dcM16Tree pmM16Tree cdM16Tree ctM16Tree : Value}
    {fQ1Tree qQ1Tree : Addr} {odQ1Tree anQ1Tree : Option Addr} {slQ1Tree : Array (Option Value)} {ocQ1Tree kVQ1Tree dcQ1Tree pmQ1Tree cdQ1Tree ctQ1Tree : Value} {rsQ1Tree : List Value}
    {t0 : Tok}
    {t1 : Tok}
    {t2 : Tok}
    {t3 : Tok}
    {t4 : Tok}
    {ts : List Addr}
    {cT0 PT0 : Addr} {ucT0 : Value} {odT0 : Option Addr} {vsT0 : Array Value} {slT0 : Array (Option Value)}
    (gy0 : PySem.W.nsIn K mainGlobals "InvalidTree" = some (some (.ref Cy0))) (hy0 : K.lookup Cy0 = some (excClassObj nmy0 qny0 Cy0 Ny0 bsy0 bmy0 hdy0 sny0 suby0 aby0 coly0 ddy0 k0y0 k1y0 k2y0 k3y0 k5y0 "ValueError.__new__")) (ty0 : PySem.W.excTail [.type "ValueError", .type "Exception", .type "BaseException", .type "object"] bmy0 = true) (iy0 : PySem.W.findIn K (.ref Cy0) "__init__" = some (some (.builtin "ValueError.__init__"))) (ky0 : PySem.W.keepIn K (.ref Cy0) = true) (by0 : PySem.W.subIn K (.ref Cy0) (.type "BaseException") = some true) (wy0 : PySem.W.typeIn K (.ref Cy0) = some (.type "type")) (xy0 : PySem.W.isClsIn K Cy0 = true) (ry0 : PySem.W.subIn K (.ref Cy0) (.ref Cy0) = some true) (zy0 : xclsB K Cy0 = true)
    (gy1 : PySem.W.nsIn K mainGlobals "InvalidOperation" = some (some (.ref Cy1))) (hy1 : K.lookup Cy1 = some (excClassObj nmy1 qny1 Cy1 Ny1 bsy1 bmy1 hdy1 sny1 suby1 aby1 coly1 ddy1 k0y1 k1y1 k2y1 k3y1 k5y1 "ValueError.__new__")) (ty1 : PySem.W.excTail [.type "ValueError", .type "Exception", .type "BaseException", .type "object"] bmy1 = true) (iy1 : PySem.W.findIn K (.ref Cy1) "__init__" = some (some (.builtin "ValueError.__init__"))) (ky1 : PySem.W.keepIn K (.ref Cy1) = true) (by1 : PySem.W.subIn K (.ref Cy1) (.type "BaseException") = some true) (wy1 : PySem.W.typeIn K (.ref Cy1) = some (.type "type")) (xy1 : PySem.W.isClsIn K Cy1 = true) (ry1 : PySem.W.subIn K (.ref Cy1) (.ref Cy1) = some true) (zy1 : xclsB K Cy1 = true)
    (gy2 : PySem.W.nsIn K mainGlobals "InvalidKinds" = some (some (.ref Cy2))) (hy2 : K.lookup Cy2 = some (excClassObj nmy2 qny2 Cy2 Ny2 bsy2 bmy2 hdy2 sny2 suby2 aby2 coly2 ddy2 k0y2 k1y2 k2y2 k3y2 k5y2 "ValueError.__new__")) (ty2 : PySem.W.excTail [.type "ValueError", .type "Exception", .type "BaseException", .type "object"] bmy2 = true) (iy2 : PySem.W.findIn K (.ref Cy2) "__init__" = some (some (.builtin "ValueError.__init__"))) (ky2 : PySem.W.keepIn K (.ref Cy2) = true) (by2 : PySem.W.subIn K (.ref Cy2) (.type "BaseException") = some true) (wy2 : PySem.W.typeIn K (.ref Cy2) = some (.type "type")) (xy2 : PySem.W.isClsIn K Cy2 = true) (ry2 : PySem.W.subIn K (.ref Cy2) (.ref Cy2) = some true) (zy2 : xclsB K Cy2 = true)
    (a0 : PySem.W.nsIn K mainGlobals "_wall" = some (some (.ref f0))) (l0 : K.lookup f0 = some ⟨oc0, od0, .func (PySem.W.fnOf "_wall" "_wall" (defArgs s_wall) (defBody s_wall) (defScope s_wall) .none kV0 dc0 pm0 an0 cd0 ct0), sl0⟩) (c0 : PySem.W.codeIn K cd0 "_wall" = true) (k0 : PySem.W.keepIn K (.ref f0) = true)
    (a1 : PySem.W.nsIn K mainGlobals "is_integer" = some (some (.ref f1))) (l1 : K.lookup f1 = some ⟨oc1, od1, .func (PySem.W.fnOf "is_integer" "is_integer" (defArgs s_is_integer) (defBody s_is_integer) (defScope s_is_integer) .none kV1 dc1 pm1 an1 cd1 ct1), sl1⟩) (c1 : PySem.W.codeIn K cd1 "is_integer" = true) (k1 : PySem.W.keepIn K (.ref f1) = true)
    (a2 : PySem.W.nsIn K mainGlobals "is_count" = some (some (.ref f2))) (l2 : K.lookup f2 = some ⟨oc2, od2, .func (PySem.W.fnOf "is_count" "is_count" (defArgs s_is_count) (defBody s_is_count) (defScope s_is_count) .none kV2 dc2 pm2 an2 cd2 ct2), sl2⟩) (c2 : PySem.W.codeIn K cd2 "is_count" = true) (k2 : PySem.W.keepIn K (.ref f2) = true)
    (a3 : PySem.W.nsIn K mainGlobals "is_name" = some (some (.ref f3))) (l3 : K.lookup f3 = some ⟨oc3, od3, .func (PySem.W.fnOf "is_name" "is_name" (defArgs s_is_name) (defBody s_is_name) (defScope s_is_name) .none kV3 dc3 pm3 an3 cd3 ct3), sl3⟩) (c3 : PySem.W.codeIn K cd3 "is_name" = true) (k3 : PySem.W.keepIn K (.ref f3) = true)
    (a4 : PySem.W.nsIn K mainGlobals "is_sorted" = some (some (.ref f4))) (l4 : K.lookup f4 = some ⟨oc4, od4, .func (PySem.W.fnOf "is_sorted" "is_sorted" (defArgs s_is_sorted) (defBody s_is_sorted) (defScope s_is_sorted) .none kV4 dc4 pm4 an4 cd4 ct4), sl4⟩) (c4 : PySem.W.codeIn K cd4 "is_sorted" = true) (k4 : PySem.W.keepIn K (.ref f4) = true)
    (a5 : PySem.W.nsIn K mainGlobals "_is_making" = some (some (.ref f5))) (l5 : K.lookup f5 = some ⟨oc5, od5, .func (PySem.W.fnOf "_is_making" "_is_making" (defArgs s_is_making) (defBody s_is_making) (defScope s_is_making) .none kV5 dc5 pm5 an5 cd5 ct5), sl5⟩) (c5 : PySem.W.codeIn K cd5 "_is_making" = true) (k5 : PySem.W.keepIn K (.ref f5) = true)
    (a6 : PySem.W.nsIn K mainGlobals "_all_names" = some (some (.ref f6))) (l6 : K.lookup f6 = some ⟨oc6, od6, .func (PySem.W.fnOf "_all_names" "_all_names" (defArgs s_all_names) (defBody s_all_names) (defScope s_all_names) .none kV6 dc6 pm6 an6 cd6 ct6), sl6⟩) (c6 : PySem.W.codeIn K cd6 "_all_names" = true) (k6 : PySem.W.keepIn K (.ref f6) = true)
    (a7 : PySem.W.nsIn K mainGlobals "_are_kinds" = some (some (.ref f7))) (l7 : K.lookup f7 = some ⟨oc7, od7, .func (PySem.W.fnOf "_are_kinds" "_are_kinds" (defArgs s_are_kinds) (defBody s_are_kinds) (defScope s_are_kinds) .none kV7 dc7 pm7 an7 cd7 ct7), sl7⟩) (c7 : PySem.W.codeIn K cd7 "_are_kinds" = true) (k7 : PySem.W.keepIn K (.ref f7) = true)
    (a8 : PySem.W.nsIn K mainGlobals "_are_fit" = some (some (.ref f8))) (l8 : K.lookup f8 = some ⟨oc8, od8, .func (PySem.W.fnOf "_are_fit" "_are_fit" (defArgs s_are_fit) (defBody s_are_fit) (defScope s_are_fit) .none kV8 dc8 pm8 an8 cd8 ct8), sl8⟩) (c8 : PySem.W.codeIn K cd8 "_are_fit" = true) (k8 : PySem.W.keepIn K (.ref f8) = true)
    (a9 : PySem.W.nsIn K mainGlobals "_tree_of" = some (some (.ref f9))) (l9 : K.lookup f9 = some ⟨oc9, od9, .func (PySem.W.fnOf "_tree_of" "_tree_of" (defArgs s_tree_of) (defBody s_tree_of) (defScope s_tree_of) .none kV9 dc9 pm9 an9 cd9 ct9), sl9⟩) (c9 : PySem.W.codeIn K cd9 "_tree_of" = true) (k9 : PySem.W.keepIn K (.ref f9) = true)
    (a10 : PySem.W.nsIn K mainGlobals "_keys_in" = some (some (.ref f10))) (l10 : K.lookup f10 = some ⟨oc10, od10, .func (PySem.W.fnOf "_keys_in" "_keys_in" (defArgs s_keys_in) (defBody s_keys_in) (defScope s_keys_in) .none kV10 dc10 pm10 an10 cd10 ct10), sl10⟩) (c10 : PySem.W.codeIn K cd10 "_keys_in" = true) (k10 : PySem.W.keepIn K (.ref f10) = true)
    (a11 : PySem.W.nsIn K mainGlobals "nodes_of" = some (some (.ref f11))) (l11 : K.lookup f11 = some ⟨oc11, od11, .func (PySem.W.fnOf "nodes_of" "nodes_of" (defArgs s_nodes_of) (defBody s_nodes_of) (defScope s_nodes_of) .none kV11 dc11 pm11 an11 cd11 ct11), sl11⟩) (c11 : PySem.W.codeIn K cd11 "nodes_of" = true) (k11 : PySem.W.keepIn K (.ref f11) = true)
    (a12 : PySem.W.nsIn K mainGlobals "_law_dice" = some (some (.ref f12))) (l12 : K.lookup f12 = some ⟨oc12, od12, .func (PySem.W.fnOf "_law_dice" "_law_dice" (defArgs s_law_dice) (defBody s_law_dice) (defScope s_law_dice) .none kV12 dc12 pm12 an12 cd12 ct12), sl12⟩) (c12 : PySem.W.codeIn K cd12 "_law_dice" = true) (k12 : PySem.W.keepIn K (.ref f12) = true)
    (a13 : PySem.W.nsIn K mainGlobals "_law_roll" = some (some (.ref f13))) (l13 : K.lookup f13 = some ⟨oc13, od13, .func (PySem.W.fnOf "_law_roll" "_law_roll" (defArgs s_law_roll) (defBody s_law_roll) (defScope s_law_roll) .none kV13 dc13 pm13 an13 cd13 ct13), sl13⟩) (c13 : PySem.W.codeIn K cd13 "_law_roll" = true) (k13 : PySem.W.keepIn K (.ref f13) = true)
    (a14 : PySem.W.nsIn K mainGlobals "_law_pick" = some (some (.ref f14))) (l14 : K.lookup f14 = some ⟨oc14, od14, .func (PySem.W.fnOf "_law_pick" "_law_pick" (defArgs s_law_pick) (defBody s_law_pick) (defScope s_law_pick) .none kV14 dc14 pm14 an14 cd14 ct14), sl14⟩) (c14 : PySem.W.codeIn K cd14 "_law_pick" = true) (k14 : PySem.W.keepIn K (.ref f14) = true)
    (a15 : PySem.W.nsIn K mainGlobals "_law_mixed" = some (some (.ref f15))) (l15 : K.lookup f15 = some ⟨oc15, od15, .func (PySem.W.fnOf "_law_mixed" "_law_mixed" (defArgs s_law_mixed) (defBody s_law_mixed) (defScope s_law_mixed) .none kV15 dc15 pm15 an15 cd15 ct15), sl15⟩) (c15 : PySem.W.codeIn K cd15 "_law_mixed" = true) (k15 : PySem.W.keepIn K (.ref f15) = true)
    (a16 : PySem.W.nsIn K mainGlobals "_law_made_kinds" = some (some (.ref f16))) (l16 : K.lookup f16 = some ⟨oc16, od16, .func (PySem.W.fnOf "_law_made_kinds" "_law_made_kinds" (defArgs s_law_made_kinds) (defBody s_law_made_kinds) (defScope s_law_made_kinds) .none kV16 dc16 pm16 an16 cd16 ct16), sl16⟩) (c16 : PySem.W.codeIn K cd16 "_law_made_kinds" = true) (k16 : PySem.W.keepIn K (.ref f16) = true)
    (a17 : PySem.W.nsIn K mainGlobals "_law_sizes" = some (some (.ref f17))) (l17 : K.lookup f17 = some ⟨oc17, od17, .func (PySem.W.fnOf "_law_sizes" "_law_sizes" (defArgs s_law_sizes) (defBody s_law_sizes) (defScope s_law_sizes) .none kV17 dc17 pm17 an17 cd17 ct17), sl17⟩) (c17 : PySem.W.codeIn K cd17 "_law_sizes" = true) (k17 : PySem.W.keepIn K (.ref f17) = true)
    (a18 : PySem.W.nsIn K mainGlobals "_law_pool_names" = some (some (.ref f18))) (l18 : K.lookup f18 = some ⟨oc18, od18, .func (PySem.W.fnOf "_law_pool_names" "_law_pool_names" (defArgs s_law_pool_names) (defBody s_law_pool_names) (defScope s_law_pool_names) .none kV18 dc18 pm18 an18 cd18 ct18), sl18⟩) (c18 : PySem.W.codeIn K cd18 "_law_pool_names" = true) (k18 : PySem.W.keepIn K (.ref f18) = true)
    (a19 : PySem.W.nsIn K mainGlobals "_law_drawn_makings" = some (some (.ref f19))) (l19 : K.lookup f19 = some ⟨oc19, od19, .func (PySem.W.fnOf "_law_drawn_makings" "_law_drawn_makings" (defArgs s_law_drawn_makings) (defBody s_law_drawn_makings) (defScope s_law_drawn_makings) .none kV19 dc19 pm19 an19 cd19 ct19), sl19⟩) (c19 : PySem.W.codeIn K cd19 "_law_drawn_makings" = true) (k19 : PySem.W.keepIn K (.ref f19) = true)
    (a20 : PySem.W.nsIn K mainGlobals "_law_link_plain" = some (some (.ref f20))) (l20 : K.lookup f20 = some ⟨oc20, od20, .func (PySem.W.fnOf "_law_link_plain" "_law_link_plain" (defArgs s_law_link_plain) (defBody s_law_link_plain) (defScope s_law_link_plain) .none kV20 dc20 pm20 an20 cd20 ct20), sl20⟩) (c20 : PySem.W.codeIn K cd20 "_law_link_plain" = true) (k20 : PySem.W.keepIn K (.ref f20) = true)
    (a21 : PySem.W.nsIn K mainGlobals "_law_tree_key" = some (some (.ref f21))) (l21 : K.lookup f21 = some ⟨oc21, od21, .func (PySem.W.fnOf "_law_tree_key" "_law_tree_key" (defArgs s_law_tree_key) (defBody s_law_tree_key) (defScope s_law_tree_key) .none kV21 dc21 pm21 an21 cd21 ct21), sl21⟩) (c21 : PySem.W.codeIn K cd21 "_law_tree_key" = true) (k21 : PySem.W.keepIn K (.ref f21) = true)
    (a22 : PySem.W.nsIn K mainGlobals "_law_grown_pair" = some (some (.ref f22))) (l22 : K.lookup f22 = some ⟨oc22, od22, .func (PySem.W.fnOf "_law_grown_pair" "_law_grown_pair" (defArgs s_law_grown_pair) (defBody s_law_grown_pair) (defScope s_law_grown_pair) .none kV22 dc22 pm22 an22 cd22 ct22), sl22⟩) (c22 : PySem.W.codeIn K cd22 "_law_grown_pair" = true) (k22 : PySem.W.keepIn K (.ref f22) = true)
    (a23 : PySem.W.nsIn K mainGlobals "_law_drawn_place" = some (some (.ref f23))) (l23 : K.lookup f23 = some ⟨oc23, od23, .func (PySem.W.fnOf "_law_drawn_place" "_law_drawn_place" (defArgs s_law_drawn_place) (defBody s_law_drawn_place) (defScope s_law_drawn_place) .none kV23 dc23 pm23 an23 cd23 ct23), sl23⟩) (c23 : PySem.W.codeIn K cd23 "_law_drawn_place" = true) (k23 : PySem.W.keepIn K (.ref f23) = true)
    (a24 : PySem.W.nsIn K mainGlobals "_law_tree_nodes" = some (some (.ref f24))) (l24 : K.lookup f24 = some ⟨oc24, od24, .func (PySem.W.fnOf "_law_tree_nodes" "_law_tree_nodes" (defArgs s_law_tree_nodes) (defBody s_law_tree_nodes) (defScope s_law_tree_nodes) .none kV24 dc24 pm24 an24 cd24 ct24), sl24⟩) (c24 : PySem.W.codeIn K cd24 "_law_tree_nodes" = true) (k24 : PySem.W.keepIn K (.ref f24) = true)
    (a25 : PySem.W.nsIn K mainGlobals "_law_plain_keys" = some (some (.ref f25))) (l25 : K.lookup f25 = some ⟨oc25, od25, .func (PySem.W.fnOf "_law_plain_keys" "_law_plain_keys" (defArgs s_law_plain_keys) (defBody s_law_plain_keys) (defScope s_law_plain_keys) .none kV25 dc25 pm25 an25 cd25 ct25), sl25⟩) (c25 : PySem.W.codeIn K cd25 "_law_plain_keys" = true) (k25 : PySem.W.keepIn K (.ref f25) = true)
    (a26 : PySem.W.nsIn K mainGlobals "_law_is_tree_like" = some (some (.ref f26))) (l26 : K.lookup f26 = some ⟨oc26, od26, .func (PySem.W.fnOf "_law_is_tree_like" "_law_is_tree_like" (defArgs s_law_is_tree_like) (defBody s_law_is_tree_like) (defScope s_law_is_tree_like) .none kV26 dc26 pm26 an26 cd26 ct26), sl26⟩) (c26 : PySem.W.codeIn K cd26 "_law_is_tree_like" = true) (k26 : PySem.W.keepIn K (.ref f26) = true)
    (a27 : PySem.W.nsIn K mainGlobals "_law_is_broken_right" = some (some (.ref f27))) (l27 : K.lookup f27 = some ⟨oc27, od27, .func (PySem.W.fnOf "_law_is_broken_right" "_law_is_broken_right" (defArgs s_law_is_broken_right) (defBody s_law_is_broken_right) (defScope s_law_is_broken_right) .none kV27 dc27 pm27 an27 cd27 ct27), sl27⟩) (c27 : PySem.W.codeIn K cd27 "_law_is_broken_right" = true) (k27 : PySem.W.keepIn K (.ref f27) = true)
    (a28 : PySem.W.nsIn K mainGlobals "_law_told_right" = some (some (.ref f28))) (l28 : K.lookup f28 = some ⟨oc28, od28, .func (PySem.W.fnOf "_law_told_right" "_law_told_right" (defArgs s_law_told_right) (defBody s_law_told_right) (defScope s_law_told_right) .none kV28 dc28 pm28 an28 cd28 ct28), sl28⟩) (c28 : PySem.W.codeIn K cd28 "_law_told_right" = true) (k28 : PySem.W.keepIn K (.ref f28) = true)
    (a29 : PySem.W.nsIn K mainGlobals "_law_right" = some (some (.ref f29))) (l29 : K.lookup f29 = some ⟨oc29, od29, .func (PySem.W.fnOf "_law_right" "_law_right" (defArgs s_law_right) (defBody s_law_right) (defScope s_law_right) .none kV29 dc29 pm29 an29 cd29 ct29), sl29⟩) (c29 : PySem.W.codeIn K cd29 "_law_right" = true) (k29 : PySem.W.keepIn K (.ref f29) = true)
    (a30 : PySem.W.nsIn K mainGlobals "law" = some (some (.ref f30))) (l30 : K.lookup f30 = some ⟨oc30, od30, .func (PySem.W.fnOf "law" "law" (defArgs s_law) (defBody s_law) (defScope s_law) .none kV30 dc30 pm30 an30 cd30 ct30), sl30⟩) (c30 : PySem.W.codeIn K cd30 "law" = true) (k30 : PySem.W.keepIn K (.ref f30) = true)
    (goKinds : PySem.W.nsIn K mainGlobals "Kinds" = some (some (.ref CoKinds)))
    (pgoKinds : PySem.W.plainGet K CoKinds Str.empty = true)
    (hdoKinds : PySem.W.hasDictIn K CoKinds = true)
    (pooKinds : PySem.W.plainOver K CoKinds = true)
    (saoKinds : PySem.W.findIn K (.ref CoKinds) "__setattr__" = some (some (.builtin "object.__setattr__")))
    (mkoKinds : PySem.W.makesIn K CoKinds = true)
    (kcoKinds : PySem.W.keepIn K (.ref CoKinds) = true)
    (neoKinds : PySem.W.findIn K (.ref CoKinds) "__ne__" = some (some (.builtin "object.__ne__")))
    (oboKinds : PySem.W.mroIn K CoKinds (.type "object") = some true)
    (kioKinds : PySem.W.kitOne K (.ref CoKinds) (.ref CoKinds) = some true)
    (ktoKinds : PySem.W.kitOne K (.type "tuple") (.ref CoKinds) = some false)
    (kdoKinds : PySem.W.kitOne K (.type "dict") (.ref CoKinds) = some false)
    (kroKinds : PySem.W.kitOne K (.ref CoKinds) (.type "tuple") = some false)
    (ksoKinds : PySem.W.kitOne K (.ref CoKinds) (.type "str") = some false)
    (kNoneTypeoKinds : PySem.W.kitOne K (.type "NoneType") (.ref CoKinds) = some false)
    (kintoKinds : PySem.W.kitOne K (.type "int") (.ref CoKinds) = some false)
    (kbooloKinds : PySem.W.kitOne K (.type "bool") (.ref CoKinds) = some false)
    (kstroKinds : PySem.W.kitOne K (.type "str") (.ref CoKinds) = some false)
    (klistoKinds : PySem.W.kitOne K (.type "list") (.ref CoKinds) = some false)
    (caoKinds : PySem.W.findIn K (.ref CoKinds) "__class__" = some (some (.builtin "object.__class__")))
    (cgoKinds : PySem.W.specialIn K (.builtin "object.__class__") "__get__" = some (some (.builtin "getset_descriptor.__get__")))
    (ctoKinds : PySem.W.takesIn K (.builtin "object.__class__") = some true)
    (n_leafoKinds : PySem.W.findIn K (.ref CoKinds) "_leaf" = some none)
    (n_makingsoKinds : PySem.W.findIn K (.ref CoKinds) "_makings" = some none)
    (n_namesoKinds : PySem.W.findIn K (.ref CoKinds) "_names" = some none)
    (atM0Kinds : PySem.W.findIn K (.ref CoKinds) "__init__" = some (some (.ref fM0Kinds)))
    (ifM0Kinds : PySem.W.isFn K (.ref fM0Kinds) = true)
    (lM0Kinds : K.lookup fM0Kinds = some ⟨ocM0Kinds, odM0Kinds, .func (PySem.W.fnOf "__init__" "Kinds.__init__" (defArgs s_Kinds_init) (defBody s_Kinds_init) (defScope s_Kinds_init) .none kVM0Kinds dcM0Kinds pmM0Kinds anM0Kinds cdM0Kinds ctM0Kinds), slM0Kinds⟩)
    (cM0Kinds : PySem.W.codeIn K cdM0Kinds "Kinds.__init__" = true)
    (kM0Kinds : PySem.W.keepIn K (.ref fM0Kinds) = true)
    (atM2Kinds : PySem.W.findIn K (.ref CoKinds) "leaf" = some (some (.ref qM2Kinds)))
    (geM2Kinds : PySem.W.specialIn K (.ref qM2Kinds) "__get__" = some (some (.builtin "property.__get__")))
    (taM2Kinds : PySem.W.takesIn K (.ref qM2Kinds) = some true)
    (reM2Kinds : PySem.W.recIn K qM2Kinds "property" = some (.ref fM2Kinds :: rsM2Kinds))
    (lM2Kinds : K.lookup fM2Kinds = some ⟨ocM2Kinds, odM2Kinds, .func (PySem.W.fnOf "leaf" "Kinds.leaf" (defArgs s_Kinds_leaf) (defBody s_Kinds_leaf) (defScope s_Kinds_leaf) .none kVM2Kinds dcM2Kinds pmM2Kinds anM2Kinds cdM2Kinds ctM2Kinds), slM2Kinds⟩)
    (cM2Kinds : PySem.W.codeIn K cdM2Kinds "Kinds.leaf" = true)
    (kM2Kinds : PySem.W.keepIn K (.ref fM2Kinds) = true)
    (atM3Kinds : PySem.W.findIn K (.ref CoKinds) "makings" = some (some (.ref qM3Kinds)))
    (geM3Kinds : PySem.W.specialIn K (.ref qM3Kinds) "__get__" = some (some (.builtin "property.__get__")))
    (taM3Kinds : PySem.W.takesIn K (.ref qM3Kinds) = some true)
    (reM3Kinds : PySem.W.recIn K qM3Kinds "property" = some (.ref fM3Kinds :: rsM3Kinds))
    (lM3Kinds : K.lookup fM3Kinds = some ⟨ocM3Kinds, odM3Kinds, .func (PySem.W.fnOf "makings" "Kinds.makings" (defArgs s_Kinds_makings) (defBody s_Kinds_makings) (defScope s_Kinds_makings) .none kVM3Kinds dcM3Kinds pmM3Kinds anM3Kinds cdM3Kinds ctM3Kinds), slM3Kinds⟩)
    (cM3Kinds : PySem.W.codeIn K cdM3Kinds "Kinds.makings" = true)
    (kM3Kinds : PySem.W.keepIn K (.ref fM3Kinds) = true)
    (atM4Kinds : PySem.W.findIn K (.ref CoKinds) "names" = some (some (.ref qM4Kinds)))
    (geM4Kinds : PySem.W.specialIn K (.ref qM4Kinds) "__get__" = some (some (.builtin "property.__get__")))
    (taM4Kinds : PySem.W.takesIn K (.ref qM4Kinds) = some true)
    (reM4Kinds : PySem.W.recIn K qM4Kinds "property" = some (.ref fM4Kinds :: rsM4Kinds))
    (lM4Kinds : K.lookup fM4Kinds = some ⟨ocM4Kinds, odM4Kinds, .func (PySem.W.fnOf "names" "Kinds.names" (defArgs s_Kinds_names) (defBody s_Kinds_names) (defScope s_Kinds_names) .none kVM4Kinds dcM4Kinds pmM4Kinds anM4Kinds cdM4Kinds ctM4Kinds), slM4Kinds⟩)
    (cM4Kinds : PySem.W.codeIn K cdM4Kinds "Kinds.names" = true)
    (kM4Kinds : PySem.W.keepIn K (.ref fM4Kinds) = true)
    (atM7Kinds : PySem.W.findIn K (.ref CoKinds) "losers" = some (some (.ref fM7Kinds)))
    (ifM7Kinds : PySem.W.isFn K (.ref fM7Kinds) = true)
    (lM7Kinds : K.lookup fM7Kinds = some ⟨ocM7Kinds, odM7Kinds, .func (PySem.W.fnOf "losers" "Kinds.losers" (defArgs s_Kinds_losers) (defBody s_Kinds_losers) (defScope s_Kinds_losers) .none kVM7Kinds dcM7Kinds pmM7Kinds anM7Kinds cdM7Kinds ctM7Kinds), slM7Kinds⟩)
    (cM7Kinds : PySem.W.codeIn K cdM7Kinds "Kinds.losers" = true)
    (kM7Kinds : PySem.W.keepIn K (.ref fM7Kinds) = true)
    (atM9Kinds : PySem.W.findIn K (.ref CoKinds) "__contains__" = some (some (.ref fM9Kinds)))
    (ifM9Kinds : PySem.W.isFn K (.ref fM9Kinds) = true)
    (lM9Kinds : K.lookup fM9Kinds = some ⟨ocM9Kinds, odM9Kinds, .func (PySem.W.fnOf "__contains__" "Kinds.__contains__" (defArgs s_Kinds_contains) (defBody s_Kinds_contains) (defScope s_Kinds_contains) .none kVM9Kinds dcM9Kinds pmM9Kinds anM9Kinds cdM9Kinds ctM9Kinds), slM9Kinds⟩)
    (cM9Kinds : PySem.W.codeIn K cdM9Kinds "Kinds.__contains__" = true)
    (kM9Kinds : PySem.W.keepIn K (.ref fM9Kinds) = true)
    (atM10Kinds : PySem.W.findIn K (.ref CoKinds) "__getitem__" = some (some (.ref fM10Kinds)))
    (ifM10Kinds : PySem.W.isFn K (.ref fM10Kinds) = true)
    (lM10Kinds : K.lookup fM10Kinds = some ⟨ocM10Kinds, odM10Kinds, .func (PySem.W.fnOf "__getitem__" "Kinds.__getitem__" (defArgs s_Kinds_getitem) (defBody s_Kinds_getitem) (defScope s_Kinds_getitem) .none kVM10Kinds dcM10Kinds pmM10Kinds anM10Kinds cdM10Kinds ctM10Kinds), slM10Kinds⟩)
    (cM10Kinds : PySem.W.codeIn K cdM10Kinds "Kinds.__getitem__" = true)
    (kM10Kinds : PySem.W.keepIn K (.ref fM10Kinds) = true)
    (atM12Kinds : PySem.W.findIn K (.ref CoKinds) "__len__" = some (some (.ref fM12Kinds)))
    (ifM12Kinds : PySem.W.isFn K (.ref fM12Kinds) = true)
    (lM12Kinds : K.lookup fM12Kinds = some ⟨ocM12Kinds, odM12Kinds, .func (PySem.W.fnOf "__len__" "Kinds.__len__" (defArgs s_Kinds_len) (defBody s_Kinds_len) (defScope s_Kinds_len) .none kVM12Kinds dcM12Kinds pmM12Kinds anM12Kinds cdM12Kinds ctM12Kinds), slM12Kinds⟩)
    (cM12Kinds : PySem.W.codeIn K cdM12Kinds "Kinds.__len__" = true)
    (kM12Kinds : PySem.W.keepIn K (.ref fM12Kinds) = true)
    (atM13Kinds : PySem.W.findIn K (.ref CoKinds) "__eq__" = some (some (.ref fM13Kinds)))
    (ifM13Kinds : PySem.W.isFn K (.ref fM13Kinds) = true)
    (lM13Kinds : K.lookup fM13Kinds = some ⟨ocM13Kinds, odM13Kinds, .func (PySem.W.fnOf "__eq__" "Kinds.__eq__" (defArgs s_Kinds_eq) (defBody s_Kinds_eq) (defScope s_Kinds_eq) .none kVM13Kinds dcM13Kinds pmM13Kinds anM13Kinds cdM13Kinds ctM13Kinds), slM13Kinds⟩)
    (cM13Kinds : PySem.W.codeIn K cdM13Kinds "Kinds.__eq__" = true)
    (kM13Kinds : PySem.W.keepIn K (.ref fM13Kinds) = true)
    (atM14Kinds : PySem.W.findIn K (.ref CoKinds) "__str__" = some (some (.ref fM14Kinds)))
    (ifM14Kinds : PySem.W.isFn K (.ref fM14Kinds) = true)
    (lM14Kinds : K.lookup fM14Kinds = some ⟨ocM14Kinds, odM14Kinds, .func (PySem.W.fnOf "__str__" "Kinds.__str__" (defArgs s_Kinds_str) (defBody s_Kinds_str) (defScope s_Kinds_str) .none kVM14Kinds dcM14Kinds pmM14Kinds anM14Kinds cdM14Kinds ctM14Kinds), slM14Kinds⟩)
    (cM14Kinds : PySem.W.codeIn K cdM14Kinds "Kinds.__str__" = true)
    (kM14Kinds : PySem.W.keepIn K (.ref fM14Kinds) = true)
    (goTree : PySem.W.nsIn K mainGlobals "Tree" = some (some (.ref CoTree)))
    (pgoTree : PySem.W.plainGet K CoTree Str.empty = true)
    (hdoTree : PySem.W.hasDictIn K CoTree = true)
    (pooTree : PySem.W.plainOver K CoTree = true)
    (saoTree : PySem.W.findIn K (.ref CoTree) "__setattr__" = some (some (.builtin "object.__setattr__")))
    (mkoTree : PySem.W.makesIn K CoTree = true)
    (kcoTree : PySem.W.keepIn K (.ref CoTree) = true)
    (neoTree : PySem.W.findIn K (.ref CoTree) "__ne__" = some (some (.builtin "object.__ne__")))
    (oboTree : PySem.W.mroIn K CoTree (.type "object") = some true)
    (kioTree : PySem.W.kitOne K (.ref CoTree) (.ref CoTree) = some true)
    (ktoTree : PySem.W.kitOne K (.type "tuple") (.ref CoTree) = some false)
    (kdoTree : PySem.W.kitOne K (.type "dict") (.ref CoTree) = some false)
    (kroTree : PySem.W.kitOne K (.ref CoTree) (.type "tuple") = some false)
    (ksoTree : PySem.W.kitOne K (.ref CoTree) (.type "str") = some false)
    (kNoneTypeoTree : PySem.W.kitOne K (.type "NoneType") (.ref CoTree) = some false)
    (kintoTree : PySem.W.kitOne K (.type "int") (.ref CoTree) = some false)
    (kbooloTree : PySem.W.kitOne K (.type "bool") (.ref CoTree) = some false)
    (kstroTree : PySem.W.kitOne K (.type "str") (.ref CoTree) = some false)
    (klistoTree : PySem.W.kitOne K (.type "list") (.ref CoTree) = some false)
    (caoTree : PySem.W.findIn K (.ref CoTree) "__class__" = some (some (.builtin "object.__class__")))
    (cgoTree : PySem.W.specialIn K (.builtin "object.__class__") "__get__" = some (some (.builtin "getset_descriptor.__get__")))
    (ctoTree : PySem.W.takesIn K (.builtin "object.__class__") = some true)
    (n_kindsoTree : PySem.W.findIn K (.ref CoTree) "_kinds" = some none)
    (n_keyoTree : PySem.W.findIn K (.ref CoTree) "_key" = some none)
    (n_wayoTree : PySem.W.findIn K (.ref CoTree) "_way" = some none)
    (n_childrenoTree : PySem.W.findIn K (.ref CoTree) "_children" = some none)
    (n_sizeoTree : PySem.W.findIn K (.ref CoTree) "_size" = some none)
    (atM0Tree : PySem.W.findIn K (.ref CoTree) "__init__" = some (some (.ref fM0Tree)))
    (ifM0Tree : PySem.W.isFn K (.ref fM0Tree) = true)
    (lM0Tree : K.lookup fM0Tree = some ⟨ocM0Tree, odM0Tree, .func (PySem.W.fnOf "__init__" "Tree.__init__" (defArgs s_Tree_init) (defBody s_Tree_init) (defScope s_Tree_init) .none kVM0Tree dcM0Tree pmM0Tree anM0Tree cdM0Tree ctM0Tree), slM0Tree⟩)
    (cM0Tree : PySem.W.codeIn K cdM0Tree "Tree.__init__" = true)
    (kM0Tree : PySem.W.keepIn K (.ref fM0Tree) = true)
    (atM2Tree : PySem.W.findIn K (.ref CoTree) "kinds" = some (some (.ref qM2Tree)))
    (geM2Tree : PySem.W.specialIn K (.ref qM2Tree) "__get__" = some (some (.builtin "property.__get__")))
    (taM2Tree : PySem.W.takesIn K (.ref qM2Tree) = some true)
    (reM2Tree : PySem.W.recIn K qM2Tree "property" = some (.ref fM2Tree :: rsM2Tree))
    (lM2Tree : K.lookup fM2Tree = some ⟨ocM2Tree, odM2Tree, .func (PySem.W.fnOf "kinds" "Tree.kinds" (defArgs s_Tree_kinds) (defBody s_Tree_kinds) (defScope s_Tree_kinds) .none kVM2Tree dcM2Tree pmM2Tree anM2Tree cdM2Tree ctM2Tree), slM2Tree⟩)
    (cM2Tree : PySem.W.codeIn K cdM2Tree "Tree.kinds" = true)
    (kM2Tree : PySem.W.keepIn K (.ref fM2Tree) = true)
    (atM3Tree : PySem.W.findIn K (.ref CoTree) "key" = some (some (.ref qM3Tree)))
    (geM3Tree : PySem.W.specialIn K (.ref qM3Tree) "__get__" = some (some (.builtin "property.__get__")))
    (taM3Tree : PySem.W.takesIn K (.ref qM3Tree) = some true)
    (reM3Tree : PySem.W.recIn K qM3Tree "property" = some (.ref fM3Tree :: rsM3Tree))
    (lM3Tree : K.lookup fM3Tree = some ⟨ocM3Tree, odM3Tree, .func (PySem.W.fnOf "key" "Tree.key" (defArgs s_Tree_key) (defBody s_Tree_key) (defScope s_Tree_key) .none kVM3Tree dcM3Tree pmM3Tree anM3Tree cdM3Tree ctM3Tree), slM3Tree⟩)
    (cM3Tree : PySem.W.codeIn K cdM3Tree "Tree.key" = true)
    (kM3Tree : PySem.W.keepIn K (.ref fM3Tree) = true)
    (atM4Tree : PySem.W.findIn K (.ref CoTree) "kind" = some (some (.ref qM4Tree)))
    (geM4Tree : PySem.W.specialIn K (.ref qM4Tree) "__get__" = some (some (.builtin "property.__get__")))
    (taM4Tree : PySem.W.takesIn K (.ref qM4Tree) = some true)
    (reM4Tree : PySem.W.recIn K qM4Tree "property" = some (.ref fM4Tree :: rsM4Tree))
    (lM4Tree : K.lookup fM4Tree = some ⟨ocM4Tree, odM4Tree, .func (PySem.W.fnOf "kind" "Tree.kind" (defArgs s_Tree_kind) (defBody s_Tree_kind) (defScope s_Tree_kind) .none kVM4Tree dcM4Tree pmM4Tree anM4Tree cdM4Tree ctM4Tree), slM4Tree⟩)
    (cM4Tree : PySem.W.codeIn K cdM4Tree "Tree.kind" = true)
    (kM4Tree : PySem.W.keepIn K (.ref fM4Tree) = true)
    (atM5Tree : PySem.W.findIn K (.ref CoTree) "rank" = some (some (.ref qM5Tree)))
    (geM5Tree : PySem.W.specialIn K (.ref qM5Tree) "__get__" = some (some (.builtin "property.__get__")))
    (taM5Tree : PySem.W.takesIn K (.ref qM5Tree) = some true)
    (reM5Tree : PySem.W.recIn K qM5Tree "property" = some (.ref fM5Tree :: rsM5Tree))
    (lM5Tree : K.lookup fM5Tree = some ⟨ocM5Tree, odM5Tree, .func (PySem.W.fnOf "rank" "Tree.rank" (defArgs s_Tree_rank) (defBody s_Tree_rank) (defScope s_Tree_rank) .none kVM5Tree dcM5Tree pmM5Tree anM5Tree cdM5Tree ctM5Tree), slM5Tree⟩)
    (cM5Tree : PySem.W.codeIn K cdM5Tree "Tree.rank" = true)
    (kM5Tree : PySem.W.keepIn K (.ref fM5Tree) = true)
    (atM6Tree : PySem.W.findIn K (.ref CoTree) "size" = some (some (.ref qM6Tree)))
    (geM6Tree : PySem.W.specialIn K (.ref qM6Tree) "__get__" = some (some (.builtin "property.__get__")))
    (taM6Tree : PySem.W.takesIn K (.ref qM6Tree) = some true)
    (reM6Tree : PySem.W.recIn K qM6Tree "property" = some (.ref fM6Tree :: rsM6Tree))
    (lM6Tree : K.lookup fM6Tree = some ⟨ocM6Tree, odM6Tree, .func (PySem.W.fnOf "size" "Tree.size" (defArgs s_Tree_size) (defBody s_Tree_size) (defScope s_Tree_size) .none kVM6Tree dcM6Tree pmM6Tree anM6Tree cdM6Tree ctM6Tree), slM6Tree⟩)
    (cM6Tree : PySem.W.codeIn K cdM6Tree "Tree.size" = true)
    (kM6Tree : PySem.W.keepIn K (.ref fM6Tree) = true)
    (atM7Tree : PySem.W.findIn K (.ref CoTree) "way" = some (some (.ref qM7Tree)))
    (geM7Tree : PySem.W.specialIn K (.ref qM7Tree) "__get__" = some (some (.builtin "property.__get__")))
    (taM7Tree : PySem.W.takesIn K (.ref qM7Tree) = some true)
    (reM7Tree : PySem.W.recIn K qM7Tree "property" = some (.ref fM7Tree :: rsM7Tree))
    (lM7Tree : K.lookup fM7Tree = some ⟨ocM7Tree, odM7Tree, .func (PySem.W.fnOf "way" "Tree.way" (defArgs s_Tree_way) (defBody s_Tree_way) (defScope s_Tree_way) .none kVM7Tree dcM7Tree pmM7Tree anM7Tree cdM7Tree ctM7Tree), slM7Tree⟩)
    (cM7Tree : PySem.W.codeIn K cdM7Tree "Tree.way" = true)
    (kM7Tree : PySem.W.keepIn K (.ref fM7Tree) = true)
    (atM8Tree : PySem.W.findIn K (.ref CoTree) "content" = some (some (.ref qM8Tree)))
    (geM8Tree : PySem.W.specialIn K (.ref qM8Tree) "__get__" = some (some (.builtin "property.__get__")))
    (taM8Tree : PySem.W.takesIn K (.ref qM8Tree) = some true)
    (reM8Tree : PySem.W.recIn K qM8Tree "property" = some (.ref fM8Tree :: rsM8Tree))
    (lM8Tree : K.lookup fM8Tree = some ⟨ocM8Tree, odM8Tree, .func (PySem.W.fnOf "content" "Tree.content" (defArgs s_Tree_content) (defBody s_Tree_content) (defScope s_Tree_content) .none kVM8Tree dcM8Tree pmM8Tree anM8Tree cdM8Tree ctM8Tree), slM8Tree⟩)
    (cM8Tree : PySem.W.codeIn K cdM8Tree "Tree.content" = true)
    (kM8Tree : PySem.W.keepIn K (.ref fM8Tree) = true)
    (atM9Tree : PySem.W.findIn K (.ref CoTree) "children" = some (some (.ref qM9Tree)))
    (geM9Tree : PySem.W.specialIn K (.ref qM9Tree) "__get__" = some (some (.builtin "property.__get__")))
    (taM9Tree : PySem.W.takesIn K (.ref qM9Tree) = some true)
    (reM9Tree : PySem.W.recIn K qM9Tree "property" = some (.ref fM9Tree :: rsM9Tree))
    (lM9Tree : K.lookup fM9Tree = some ⟨ocM9Tree, odM9Tree, .func (PySem.W.fnOf "children" "Tree.children" (defArgs s_Tree_children) (defBody s_Tree_children) (defScope s_Tree_children) .none kVM9Tree dcM9Tree pmM9Tree anM9Tree cdM9Tree ctM9Tree), slM9Tree⟩)
    (cM9Tree : PySem.W.codeIn K cdM9Tree "Tree.children" = true)
    (kM9Tree : PySem.W.keepIn K (.ref fM9Tree) = true)
    (atM10Tree : PySem.W.findIn K (.ref CoTree) "broken" = some (some (.ref fM10Tree)))
    (ifM10Tree : PySem.W.isFn K (.ref fM10Tree) = true)
    (lM10Tree : K.lookup fM10Tree = some ⟨ocM10Tree, odM10Tree, .func (PySem.W.fnOf "broken" "Tree.broken" (defArgs s_Tree_broken) (defBody s_Tree_broken) (defScope s_Tree_broken) .none kVM10Tree dcM10Tree pmM10Tree anM10Tree cdM10Tree ctM10Tree), slM10Tree⟩)
    (cM10Tree : PySem.W.codeIn K cdM10Tree "Tree.broken" = true)
    (kM10Tree : PySem.W.keepIn K (.ref fM10Tree) = true)
    (atM13Tree : PySem.W.findIn K (.ref CoTree) "__contains__" = some (some (.ref fM13Tree)))
    (ifM13Tree : PySem.W.isFn K (.ref fM13Tree) = true)
    (lM13Tree : K.lookup fM13Tree = some ⟨ocM13Tree, odM13Tree, .func (PySem.W.fnOf "__contains__" "Tree.__contains__" (defArgs s_Tree_contains) (defBody s_Tree_contains) (defScope s_Tree_contains) .none kVM13Tree dcM13Tree pmM13Tree anM13Tree cdM13Tree ctM13Tree), slM13Tree⟩)
    (cM13Tree : PySem.W.codeIn K cdM13Tree "Tree.__contains__" = true)
    (kM13Tree : PySem.W.keepIn K (.ref fM13Tree) = true)
    (atM14Tree : PySem.W.findIn K (.ref CoTree) "__len__" = some (some (.ref fM14Tree)))
    (ifM14Tree : PySem.W.isFn K (.ref fM14Tree) = true)
    (lM14Tree : K.lookup fM14Tree = some ⟨ocM14Tree, odM14Tree, .func (PySem.W.fnOf "__len__" "Tree.__len__" (defArgs s_Tree_len) (defBody s_Tree_len) (defScope s_Tree_len) .none kVM14Tree dcM14Tree pmM14Tree anM14Tree cdM14Tree ctM14Tree), slM14Tree⟩)
    (cM14Tree : PySem.W.codeIn K cdM14Tree "Tree.__len__" = true)
    (kM14Tree : PySem.W.keepIn K (.ref fM14Tree) = true)
    (atM15Tree : PySem.W.findIn K (.ref CoTree) "__eq__" = some (some (.ref fM15Tree)))
    (ifM15Tree : PySem.W.isFn K (.ref fM15Tree) = true)
    (lM15Tree : K.lookup fM15Tree = some ⟨ocM15Tree, odM15Tree, .func (PySem.W.fnOf "__eq__" "Tree.__eq__" (defArgs s_Tree_eq) (defBody s_Tree_eq) (defScope s_Tree_eq) .none kVM15Tree dcM15Tree pmM15Tree anM15Tree cdM15Tree ctM15Tree), slM15Tree⟩)
    (cM15Tree : PySem.W.codeIn K cdM15Tree "Tree.__eq__" = true)
    (kM15Tree : PySem.W.keepIn K (.ref fM15Tree) = true)
    (atM16Tree : PySem.W.findIn K (.ref CoTree) "__str__" = some (some (.ref fM16Tree)))
    (ifM16Tree : PySem.W.isFn K (.ref fM16Tree) = true)
    (lM16Tree : K.lookup fM16Tree = some ⟨ocM16Tree, odM16Tree, .func (PySem.W.fnOf "__str__" "Tree.__str__" (defArgs s_Tree_str) (defBody s_Tree_str) (defScope s_Tree_str) .none kVM16Tree dcM16Tree pmM16Tree anM16Tree cdM16Tree ctM16Tree), slM16Tree⟩)
    (cM16Tree : PySem.W.codeIn K cdM16Tree "Tree.__str__" = true)
    (kM16Tree : PySem.W.keepIn K (.ref fM16Tree) = true)
    (rdQ1Tree : PySem.W.readsIn K CoTree (.type "type") = true)
    (gaQ1Tree : PySem.W.specialIn K (.ref CoTree) "__getattribute__" = some (some (.builtin "type.__getattribute__")))
    (atQ1Tree : PySem.W.findCls K (.ref CoTree) (.type "type") "linked" = some (.get (.builtin "classmethod.__get__") (.ref qQ1Tree) .none (.ref CoTree)))
    (reQ1Tree : PySem.W.recIn K qQ1Tree "classmethod" = some (.ref fQ1Tree :: rsQ1Tree))
    (lQ1Tree : K.lookup fQ1Tree = some ⟨ocQ1Tree, odQ1Tree, .func (PySem.W.fnOf "linked" "Tree.linked" (defArgs s_Tree_linked) (defBody s_Tree_linked) (defScope s_Tree_linked) .none kVQ1Tree dcQ1Tree pmQ1Tree anQ1Tree cdQ1Tree ctQ1Tree), slQ1Tree⟩)
    (cQ1Tree : PySem.W.codeIn K cdQ1Tree "Tree.linked" = true)
    (kQ1Tree : PySem.W.keepIn K (.ref fQ1Tree) = true)
    (m0 : PySem.W.nsIn K mainGlobals "MAX_LETTERS" = some (some (.int 8 t0)))
    (m1 : PySem.W.nsIn K mainGlobals "_TOO_LONG" = some (some (.int 1000000000000000000000000000000000000000000000000000000000000 t1)))
    (m2 : PySem.W.nsIn K mainGlobals "MAX_KINDS" = some (some (.int 6 t2)))
    (m3 : PySem.W.nsIn K mainGlobals "MAX_PARTS" = some (some (.int 3 t3)))
    (m4 : PySem.W.nsIn K mainGlobals "MAX_NODES" = some (some (.int 5000 t4)))
    (z0 : PySem.W.nsIn K mainGlobals "IndexError" = some none)
    (z1 : PySem.W.nsIn K mainGlobals "KeyError" = some none)
    (z2 : PySem.W.nsIn K mainGlobals "OverflowError" = some none)
    (z3 : PySem.W.nsIn K mainGlobals "TypeError" = some none)
    (z4 : PySem.W.nsIn K mainGlobals "ValueError" = some none)
    (z5 : PySem.W.nsIn K mainGlobals "abs" = some none)
    (z6 : PySem.W.nsIn K mainGlobals "all" = some none)
    (z7 : PySem.W.nsIn K mainGlobals "bool" = some none)
    (z8 : PySem.W.nsIn K mainGlobals "classmethod" = some none)
    (z9 : PySem.W.nsIn K mainGlobals "dict" = some none)
    (z10 : PySem.W.nsIn K mainGlobals "int" = some none)
    (z11 : PySem.W.nsIn K mainGlobals "isinstance" = some none)
    (z12 : PySem.W.nsIn K mainGlobals "len" = some none)
    (z13 : PySem.W.nsIn K mainGlobals "list" = some none)
    (z14 : PySem.W.nsIn K mainGlobals "max" = some none)
    (z15 : PySem.W.nsIn K mainGlobals "min" = some none)
    (z16 : PySem.W.nsIn K mainGlobals "property" = some none)
    (z17 : PySem.W.nsIn K mainGlobals "range" = some none)
    (z18 : PySem.W.nsIn K mainGlobals "repr" = some none)
    (z19 : PySem.W.nsIn K mainGlobals "set" = some none)
    (z20 : PySem.W.nsIn K mainGlobals "sorted" = some none)
    (z21 : PySem.W.nsIn K mainGlobals "str" = some none)
    (z22 : PySem.W.nsIn K mainGlobals "sum" = some none)
    (z23 : PySem.W.nsIn K mainGlobals "tuple" = some none)
    (z24 : PySem.W.nsIn K mainGlobals "zip" = some none)
    (tc0 : cdM10Tree = .ref cT0) (tl0 : K.lookup cT0 = some ⟨ucT0, odT0, .fields vsT0, slT0⟩) (tp0 : vsT0[11]? = some (.ref PT0)) (tn0 : K.lookup PT0 = none) (th0 : PySem.W.codeHdIn K cT0 PT0 = true) (tm0 : PT0 ∈ ts)
    (tdd : ([PT0] : List Addr).Nodup) :
    ∃ (fd : FuncData) (cs : List (Addr × Addr)) (sp : Sp), (∀ c ∈ cs, (PySem.W.codeHdIn K c.1 c.2 = true ∧ c.2 ∈ ts) ∧ K.lookup c.2 = none) ∧ (∀ (s : Shared) (u : Value), BindsTo s fd ⟨[u], []⟩ [("_law_script", u)]) ∧ (∀ (H : Hp) (a : Addr) (ns : List Int), ns.length ≤ 63 → (∀ c ∈ cs, H c.2 = some (.tbl #[])) → SqL K H a (ns.map V.int) → sp [.ref a] H (fun v _ => v = .bl true) fun _ _ _ => False) ∧ ∀ base : Heap, K.In base → base.Ns mainGlobals mg → (∀ c ∈ cs, LamX.TabB base mg c.1 c.2) → FnG l.prog w K mg base CX0 40 fa fd ["_law_script"] sp := by
  have e := hfa.symm.trans (PySem.W.mg_of X G a30)
  cases e
  have T : Top K mg := {
    p_InvalidTree := ⟨Cy0, ⟨PySem.W.mg_of X G gy0, ⟨_, _, _, _, _, _, _, _, _, _, _, _, _, _, _, _, hy0, ty0⟩, iy0, ky0⟩, xclsB_ok zy0, exm_own by0 xy0 wy0 ry0⟩
    p_InvalidOperation := ⟨Cy1, ⟨PySem.W.mg_of X G gy1, ⟨_, _, _, _, _, _, _, _, _, _, _, _, _, _, _, _, hy1, ty1⟩, iy1, ky1⟩, xclsB_ok zy1, exm_own by1 xy1 wy1 ry1⟩
    p_InvalidKinds := ⟨Cy2, ⟨PySem.W.mg_of X G gy2, ⟨_, _, _, _, _, _, _, _, _, _, _, _, _, _, _, _, hy2, ty2⟩, iy2, ky2⟩, xclsB_ok zy2, exm_own by2 xy2 wy2 ry2⟩
    d_wall := ⟨_, _, fun_mk l0 c0 k0, (fun_mk (st := s_wall) l0 c0 k0).binds (ps := ["k"]) fun _ _ _ _ _ _ us hl => match us, hl with | [_], _ => rfl, PySem.W.mg_of X G a0⟩
    d_is_integer := ⟨_, _, fun_mk l1 c1 k1, (fun_mk (st := s_is_integer) l1 c1 k1).binds (ps := ["value"]) fun _ _ _ _ _ _ us hl => match us, hl with | [_], _ => rfl, PySem.W.mg_of X G a1⟩
    d_is_count := ⟨_, _, fun_mk l2 c2 k2, (fun_mk (st := s_is_count) l2 c2 k2).binds (ps := ["value"]) fun _ _ _ _ _ _ us hl => match us, hl with | [_], _ => rfl, PySem.W.mg_of X G a2⟩
    d_is_name := ⟨_, _, fun_mk l3 c3 k3, (fun_mk (st := s_is_name) l3 c3 k3).binds (ps := ["value"]) fun _ _ _ _ _ _ us hl => match us, hl with | [_], _ => rfl, PySem.W.mg_of X G a3⟩
    d_is_sorted := ⟨_, _, fun_mk l4 c4 k4, kbn_of fun us ws h1 h2 => match us, ws, h1, h2 with | [_], [_], _, _ => by first | rfl | with_unfolding_all rfl, PySem.W.mg_of X G a4⟩
    d_is_making := ⟨_, _, fun_mk l5 c5 k5, (fun_mk (st := s_is_making) l5 c5 k5).binds (ps := ["value"]) fun _ _ _ _ _ _ us hl => match us, hl with | [_], _ => rfl, PySem.W.mg_of X G a5⟩
    d_all_names := ⟨_, _, fun_mk l6 c6 k6, (fun_mk (st := s_all_names) l6 c6 k6).binds (ps := ["leaf", "makings"]) fun _ _ _ _ _ _ us hl => match us, hl with | [_, _], _ => rfl, PySem.W.mg_of X G a6⟩
    d_are_kinds := ⟨_, _, fun_mk l7 c7 k7, (fun_mk (st := s_are_kinds) l7 c7 k7).binds (ps := ["leaf", "makings"]) fun _ _ _ _ _ _ us hl => match us, hl with | [_, _], _ => rfl, PySem.W.mg_of X G a7⟩
    d_are_fit := ⟨_, _, fun_mk l8 c8 k8, (fun_mk (st := s_are_fit) l8 c8 k8).binds (ps := ["trees"]) fun _ _ _ _ _ _ us hl => match us, hl with | [_], _ => rfl, PySem.W.mg_of X G a8⟩
    d_tree_of := ⟨_, _, fun_mk l9 c9 k9, (fun_mk (st := s_tree_of) l9 c9 k9).binds (ps := ["kinds", "key", "way", "children"]) fun _ _ _ _ _ _ us hl => match us, hl with | [_, _, _, _], _ => rfl, PySem.W.mg_of X G a9⟩
    d_keys_in := ⟨_, _, fun_mk l10 c10 k10, (fun_mk (st := s_keys_in) l10 c10 k10).binds (ps := ["tree"]) fun _ _ _ _ _ _ us hl => match us, hl with | [_], _ => rfl, PySem.W.mg_of X G a10⟩
    d_nodes_of := ⟨_, _, fun_mk l11 c11 k11, (fun_mk (st := s_nodes_of) l11 c11 k11).binds (ps := ["tree"]) fun _ _ _ _ _ _ us hl => match us, hl with | [_], _ => rfl, PySem.W.mg_of X G a11⟩
    d_law_dice := ⟨_, _, fun_mk l12 c12 k12, (fun_mk (st := s_law_dice) l12 c12 k12).binds (ps := ["_law_script", "_law_spot"]) fun _ _ _ _ _ _ us hl => match us, hl with | [_, _], _ => rfl, PySem.W.mg_of X G a12⟩
    d_law_roll := ⟨_, _, fun_mk l13 c13 k13, (fun_mk (st := s_law_roll) l13 c13 k13).binds (ps := ["_law_dice_here", "_law_total"]) fun _ _ _ _ _ _ us hl => match us, hl with | [_, _], _ => rfl, PySem.W.mg_of X G a13⟩
    d_law_pick := ⟨_, _, fun_mk l14 c14 k14, (fun_mk (st := s_law_pick) l14 c14 k14).binds (ps := ["_law_dice_here", "_law_items"]) fun _ _ _ _ _ _ us hl => match us, hl with | [_, _], _ => rfl, PySem.W.mg_of X G a14⟩
    d_law_mixed := ⟨_, _, fun_mk l15 c15 k15, (fun_mk (st := s_law_mixed) l15 c15 k15).binds (ps := ["_law_dice_here", "_law_items"]) fun _ _ _ _ _ _ us hl => match us, hl with | [_, _], _ => rfl, PySem.W.mg_of X G a15⟩
    d_law_made_kinds := ⟨_, _, fun_mk l16 c16 k16, (fun_mk (st := s_law_made_kinds) l16 c16 k16).binds (ps := ["_law_plain"]) fun _ _ _ _ _ _ us hl => match us, hl with | [_], _ => rfl, PySem.W.mg_of X G a16⟩
    d_law_sizes := ⟨_, _, fun_mk l17 c17 k17, (fun_mk (st := s_law_sizes) l17 c17 k17).binds (ps := ["_law_plain", "_law_bound"]) fun _ _ _ _ _ _ us hl => match us, hl with | [_, _], _ => rfl, PySem.W.mg_of X G a17⟩
    d_law_pool_names := ⟨_, _, fun_mk l18 c18 k18, (fun_mk (st := s_law_pool_names) l18 c18 k18).binds (ps := ["_law_dice_here", "_law_many"]) fun _ _ _ _ _ _ us hl => match us, hl with | [_, _], _ => rfl, PySem.W.mg_of X G a18⟩
    d_law_drawn_makings := ⟨_, _, fun_mk l19 c19 k19, (fun_mk (st := s_law_drawn_makings) l19 c19 k19).binds (ps := ["_law_dice_here"]) fun _ _ _ _ _ _ us hl => match us, hl with | [_], _ => rfl, PySem.W.mg_of X G a19⟩
    d_law_link_plain := ⟨_, _, fun_mk l20 c20 k20, (fun_mk (st := s_law_link_plain) l20 c20 k20).binds (ps := ["_law_name", "_law_trees"]) fun _ _ _ _ _ _ us hl => match us, hl with | [_, _], _ => rfl, PySem.W.mg_of X G a20⟩
    d_law_tree_key := ⟨_, _, fun_mk l21 c21 k21, (fun_mk (st := s_law_tree_key) l21 c21 k21).binds (ps := ["_law_dice_here"]) fun _ _ _ _ _ _ us hl => match us, hl with | [_], _ => rfl, PySem.W.mg_of X G a21⟩
    d_law_grown_pair := ⟨_, _, fun_mk l22 c22 k22, (fun_mk (st := s_law_grown_pair) l22 c22 k22).binds (ps := ["_law_dice_here", "_law_plain", "_law_kinds", "_law_name", "_law_rank"]) fun _ _ _ _ _ _ us hl => match us, hl with | [_, _, _, _, _], _ => rfl, PySem.W.mg_of X G a22⟩
    d_law_drawn_place := ⟨_, _, fun_mk l23 c23 k23, (fun_mk (st := s_law_drawn_place) l23 c23 k23).binds (ps := ["_law_dice_here", "_law_plain", "_law_most"]) fun _ _ _ _ _ _ us hl => match us, hl with | [_, _, _], _ => rfl, PySem.W.mg_of X G a23⟩
    d_law_tree_nodes := ⟨_, _, fun_mk l24 c24 k24, (fun_mk (st := s_law_tree_nodes) l24 c24 k24).binds (ps := ["_law_tree", "_law_depth"]) fun _ _ _ _ _ _ us hl => match us, hl with | [_, _], _ => rfl, PySem.W.mg_of X G a24⟩
    d_law_plain_keys := ⟨_, _, fun_mk l25 c25 k25, (fun_mk (st := s_law_plain_keys) l25 c25 k25).binds (ps := ["_law_tree"]) fun _ _ _ _ _ _ us hl => match us, hl with | [_], _ => rfl, PySem.W.mg_of X G a25⟩
    d_law_is_tree_like := ⟨_, _, fun_mk l26 c26 k26, (fun_mk (st := s_law_is_tree_like) l26 c26 k26).binds (ps := ["_law_made", "_law_tree"]) fun _ _ _ _ _ _ us hl => match us, hl with | [_, _], _ => rfl, PySem.W.mg_of X G a26⟩
    d_law_is_broken_right := ⟨_, _, fun_mk l27 c27 k27, (fun_mk (st := s_law_is_broken_right) l27 c27 k27).binds (ps := ["_law_made", "_law_tree"]) fun _ _ _ _ _ _ us hl => match us, hl with | [_, _], _ => rfl, PySem.W.mg_of X G a27⟩
    d_law_told_right := ⟨_, _, fun_mk l28 c28 k28, (fun_mk (st := s_law_told_right) l28 c28 k28).binds (ps := ["_law_made", "_law_tree", "_law_kinds"]) fun _ _ _ _ _ _ us hl => match us, hl with | [_, _, _], _ => rfl, PySem.W.mg_of X G a28⟩
    d_law_right := ⟨_, _, fun_mk l29 c29 k29, (fun_mk (st := s_law_right) l29 c29 k29).binds (ps := ["_law_dice_here"]) fun _ _ _ _ _ _ us hl => match us, hl with | [_], _ => rfl, PySem.W.mg_of X G a29⟩
    c_Kinds := ⟨CoKinds, { gC := PySem.W.mg_of X G goKinds, cl := ⟨pgoKinds, hdoKinds, pooKinds, saoKinds⟩, ne := neoKinds, ob := oboKinds, kit := kioKinds, kitT := ktoKinds, kitD := kdoKinds, ca := caoKinds, cg := cgoKinds, ct := ctoKinds, kitR := kroKinds, kitS := ksoKinds, kit_NoneType := kNoneTypeoKinds, kit_int := kintoKinds, kit_bool := kbooloKinds, kit_str := kstroKinds, kit_list := klistoKinds, n_leaf := n_leafoKinds, n_makings := n_makingsoKinds, n_names := n_namesoKinds, made := ⟨_, _, ⟨mkoKinds, atM0Kinds, ifM0Kinds, kcoKinds⟩, fun_mk (st := s_Kinds_init) lM0Kinds cM0Kinds kM0Kinds, (fun_mk (st := s_Kinds_init) lM0Kinds cM0Kinds kM0Kinds).binds (ps := ["self", "leaf", "makings"]) fun _ _ _ _ _ _ us hl => match us, hl with | [_, _, _], _ => rfl⟩, p_leaf := ⟨_, _, _, ⟨atM2Kinds, geM2Kinds, taM2Kinds, ⟨_, reM2Kinds⟩⟩, fun_mk (st := s_Kinds_leaf) lM2Kinds cM2Kinds kM2Kinds, (fun_mk (st := s_Kinds_leaf) lM2Kinds cM2Kinds kM2Kinds).binds (ps := ["self"]) fun _ _ _ _ _ _ us hl => match us, hl with | [_], _ => rfl⟩, p_makings := ⟨_, _, _, ⟨atM3Kinds, geM3Kinds, taM3Kinds, ⟨_, reM3Kinds⟩⟩, fun_mk (st := s_Kinds_makings) lM3Kinds cM3Kinds kM3Kinds, (fun_mk (st := s_Kinds_makings) lM3Kinds cM3Kinds kM3Kinds).binds (ps := ["self"]) fun _ _ _ _ _ _ us hl => match us, hl with | [_], _ => rfl⟩, p_names := ⟨_, _, _, ⟨atM4Kinds, geM4Kinds, taM4Kinds, ⟨_, reM4Kinds⟩⟩, fun_mk (st := s_Kinds_names) lM4Kinds cM4Kinds kM4Kinds, (fun_mk (st := s_Kinds_names) lM4Kinds cM4Kinds kM4Kinds).binds (ps := ["self"]) fun _ _ _ _ _ _ us hl => match us, hl with | [_], _ => rfl⟩, m_losers := ⟨_, _, fun_mk (st := s_Kinds_losers) lM7Kinds cM7Kinds kM7Kinds, ⟨atM7Kinds, ifM7Kinds, kM7Kinds⟩, ((fun_mk (st := s_Kinds_losers) lM7Kinds cM7Kinds kM7Kinds).binds (ps := ["self", "name", "winner"]) fun _ _ _ _ _ _ us hl => match us, hl with | [_, _, _], _ => rfl), fn_in lM7Kinds⟩, m_contains := ⟨_, _, fun_mk (st := s_Kinds_contains) lM9Kinds cM9Kinds kM9Kinds, ⟨atM9Kinds, ifM9Kinds, kM9Kinds⟩, ((fun_mk (st := s_Kinds_contains) lM9Kinds cM9Kinds kM9Kinds).binds (ps := ["self", "value"]) fun _ _ _ _ _ _ us hl => match us, hl with | [_, _], _ => rfl), fn_in lM9Kinds⟩, m_getitem := ⟨_, _, fun_mk (st := s_Kinds_getitem) lM10Kinds cM10Kinds kM10Kinds, ⟨atM10Kinds, ifM10Kinds, kM10Kinds⟩, ((fun_mk (st := s_Kinds_getitem) lM10Kinds cM10Kinds kM10Kinds).binds (ps := ["self", "name"]) fun _ _ _ _ _ _ us hl => match us, hl with | [_, _], _ => rfl), fn_in lM10Kinds⟩, m_len := ⟨_, _, fun_mk (st := s_Kinds_len) lM12Kinds cM12Kinds kM12Kinds, ⟨atM12Kinds, ifM12Kinds, kM12Kinds⟩, ((fun_mk (st := s_Kinds_len) lM12Kinds cM12Kinds kM12Kinds).binds (ps := ["self"]) fun _ _ _ _ _ _ us hl => match us, hl with | [_], _ => rfl), fn_in lM12Kinds⟩, m_eq := ⟨_, _, fun_mk (st := s_Kinds_eq) lM13Kinds cM13Kinds kM13Kinds, ⟨atM13Kinds, ifM13Kinds, kM13Kinds⟩, ((fun_mk (st := s_Kinds_eq) lM13Kinds cM13Kinds kM13Kinds).binds (ps := ["self", "other"]) fun _ _ _ _ _ _ us hl => match us, hl with | [_, _], _ => rfl), fn_in lM13Kinds⟩, m_str := ⟨_, _, fun_mk (st := s_Kinds_str) lM14Kinds cM14Kinds kM14Kinds, ⟨atM14Kinds, ifM14Kinds, kM14Kinds⟩, ((fun_mk (st := s_Kinds_str) lM14Kinds cM14Kinds kM14Kinds).binds (ps := ["self"]) fun _ _ _ _ _ _ us hl => match us, hl with | [_], _ => rfl), fn_in lM14Kinds⟩ }⟩
    c_Tree := ⟨CoTree, { gC := PySem.W.mg_of X G goTree, cl := ⟨pgoTree, hdoTree, pooTree, saoTree⟩, ne := neoTree, ob := oboTree, kit := kioTree, kitT := ktoTree, kitD := kdoTree, ca := caoTree, cg := cgoTree, ct := ctoTree, kitR := kroTree, kitS := ksoTree, kit_NoneType := kNoneTypeoTree, kit_int := kintoTree, kit_bool := kbooloTree, kit_str := kstroTree, kit_list := klistoTree, n_kinds := n_kindsoTree, n_key := n_keyoTree, n_way := n_wayoTree, n_children := n_childrenoTree, n_size := n_sizeoTree, made := ⟨_, _, ⟨mkoTree, atM0Tree, ifM0Tree, kcoTree⟩, fun_mk (st := s_Tree_init) lM0Tree cM0Tree kM0Tree, (fun_mk (st := s_Tree_init) lM0Tree cM0Tree kM0Tree).binds (ps := ["self", "kinds", "key"]) fun _ _ _ _ _ _ us hl => match us, hl with | [_, _, _], _ => rfl⟩, p_kinds := ⟨_, _, _, ⟨atM2Tree, geM2Tree, taM2Tree, ⟨_, reM2Tree⟩⟩, fun_mk (st := s_Tree_kinds) lM2Tree cM2Tree kM2Tree, (fun_mk (st := s_Tree_kinds) lM2Tree cM2Tree kM2Tree).binds (ps := ["self"]) fun _ _ _ _ _ _ us hl => match us, hl with | [_], _ => rfl⟩, p_key := ⟨_, _, _, ⟨atM3Tree, geM3Tree, taM3Tree, ⟨_, reM3Tree⟩⟩, fun_mk (st := s_Tree_key) lM3Tree cM3Tree kM3Tree, (fun_mk (st := s_Tree_key) lM3Tree cM3Tree kM3Tree).binds (ps := ["self"]) fun _ _ _ _ _ _ us hl => match us, hl with | [_], _ => rfl⟩, p_kind := ⟨_, _, _, ⟨atM4Tree, geM4Tree, taM4Tree, ⟨_, reM4Tree⟩⟩, fun_mk (st := s_Tree_kind) lM4Tree cM4Tree kM4Tree, (fun_mk (st := s_Tree_kind) lM4Tree cM4Tree kM4Tree).binds (ps := ["self"]) fun _ _ _ _ _ _ us hl => match us, hl with | [_], _ => rfl⟩, p_rank := ⟨_, _, _, ⟨atM5Tree, geM5Tree, taM5Tree, ⟨_, reM5Tree⟩⟩, fun_mk (st := s_Tree_rank) lM5Tree cM5Tree kM5Tree, (fun_mk (st := s_Tree_rank) lM5Tree cM5Tree kM5Tree).binds (ps := ["self"]) fun _ _ _ _ _ _ us hl => match us, hl with | [_], _ => rfl⟩, p_size := ⟨_, _, _, ⟨atM6Tree, geM6Tree, taM6Tree, ⟨_, reM6Tree⟩⟩, fun_mk (st := s_Tree_size) lM6Tree cM6Tree kM6Tree, (fun_mk (st := s_Tree_size) lM6Tree cM6Tree kM6Tree).binds (ps := ["self"]) fun _ _ _ _ _ _ us hl => match us, hl with | [_], _ => rfl⟩, p_way := ⟨_, _, _, ⟨atM7Tree, geM7Tree, taM7Tree, ⟨_, reM7Tree⟩⟩, fun_mk (st := s_Tree_way) lM7Tree cM7Tree kM7Tree, (fun_mk (st := s_Tree_way) lM7Tree cM7Tree kM7Tree).binds (ps := ["self"]) fun _ _ _ _ _ _ us hl => match us, hl with | [_], _ => rfl⟩, p_content := ⟨_, _, _, ⟨atM8Tree, geM8Tree, taM8Tree, ⟨_, reM8Tree⟩⟩, fun_mk (st := s_Tree_content) lM8Tree cM8Tree kM8Tree, (fun_mk (st := s_Tree_content) lM8Tree cM8Tree kM8Tree).binds (ps := ["self"]) fun _ _ _ _ _ _ us hl => match us, hl with | [_], _ => rfl⟩, p_children := ⟨_, _, _, ⟨atM9Tree, geM9Tree, taM9Tree, ⟨_, reM9Tree⟩⟩, fun_mk (st := s_Tree_children) lM9Tree cM9Tree kM9Tree, (fun_mk (st := s_Tree_children) lM9Tree cM9Tree kM9Tree).binds (ps := ["self"]) fun _ _ _ _ _ _ us hl => match us, hl with | [_], _ => rfl⟩, m_broken := ⟨_, _, fun_mk (st := s_Tree_broken) lM10Tree cM10Tree kM10Tree, ⟨atM10Tree, ifM10Tree, kM10Tree⟩, ((fun_mk (st := s_Tree_broken) lM10Tree cM10Tree kM10Tree).binds (ps := ["self"]) fun _ _ _ _ _ _ us hl => match us, hl with | [_], _ => rfl), fn_in lM10Tree⟩, m_contains := ⟨_, _, fun_mk (st := s_Tree_contains) lM13Tree cM13Tree kM13Tree, ⟨atM13Tree, ifM13Tree, kM13Tree⟩, ((fun_mk (st := s_Tree_contains) lM13Tree cM13Tree kM13Tree).binds (ps := ["self", "value"]) fun _ _ _ _ _ _ us hl => match us, hl with | [_, _], _ => rfl), fn_in lM13Tree⟩, m_len := ⟨_, _, fun_mk (st := s_Tree_len) lM14Tree cM14Tree kM14Tree, ⟨atM14Tree, ifM14Tree, kM14Tree⟩, ((fun_mk (st := s_Tree_len) lM14Tree cM14Tree kM14Tree).binds (ps := ["self"]) fun _ _ _ _ _ _ us hl => match us, hl with | [_], _ => rfl), fn_in lM14Tree⟩, m_eq := ⟨_, _, fun_mk (st := s_Tree_eq) lM15Tree cM15Tree kM15Tree, ⟨atM15Tree, ifM15Tree, kM15Tree⟩, ((fun_mk (st := s_Tree_eq) lM15Tree cM15Tree kM15Tree).binds (ps := ["self", "other"]) fun _ _ _ _ _ _ us hl => match us, hl with | [_, _], _ => rfl), fn_in lM15Tree⟩, m_str := ⟨_, _, fun_mk (st := s_Tree_str) lM16Tree cM16Tree kM16Tree, ⟨atM16Tree, ifM16Tree, kM16Tree⟩, ((fun_mk (st := s_Tree_str) lM16Tree cM16Tree kM16Tree).binds (ps := ["self"]) fun _ _ _ _ _ _ us hl => match us, hl with | [_], _ => rfl), fn_in lM16Tree⟩, k_linked := ⟨qQ1Tree, fQ1Tree, _, ⟨rdQ1Tree, gaQ1Tree⟩, ⟨atQ1Tree, ⟨_, reQ1Tree⟩, fn_in lQ1Tree⟩, fun_mk (st := s_Tree_linked) lQ1Tree cQ1Tree kQ1Tree, (fun_mk (st := s_Tree_linked) lQ1Tree cQ1Tree kQ1Tree).binds (ps := ["cls", "name", "trees"]) fun _ _ _ _ _ _ us hl => match us, hl with | [_, _, _], _ => rfl⟩ }⟩
    g_MAX_LETTERS := ⟨_, PySem.W.mg_of X G m0⟩
    g__TOO_LONG := ⟨_, PySem.W.mg_of X G m1⟩
    g_MAX_KINDS := ⟨_, PySem.W.mg_of X G m2⟩
    g_MAX_PARTS := ⟨_, PySem.W.mg_of X G m3⟩
    g_MAX_NODES := ⟨_, PySem.W.mg_of X G m4⟩
    b_IndexError := PySem.W.mg_none_of X G z0
    b_KeyError := PySem.W.mg_none_of X G z1
    b_OverflowError := PySem.W.mg_none_of X G z2
    b_TypeError := PySem.W.mg_none_of X G z3
    b_ValueError := PySem.W.mg_none_of X G z4
    b_abs := PySem.W.mg_none_of X G z5
    b_all := PySem.W.mg_none_of X G z6
    b_bool := PySem.W.mg_none_of X G z7
    b_classmethod := PySem.W.mg_none_of X G z8
    b_dict := PySem.W.mg_none_of X G z9
    b_int := PySem.W.mg_none_of X G z10
    b_isinstance := PySem.W.mg_none_of X G z11
    b_len := PySem.W.mg_none_of X G z12
    b_list := PySem.W.mg_none_of X G z13
    b_max := PySem.W.mg_none_of X G z14
    b_min := PySem.W.mg_none_of X G z15
    b_property := PySem.W.mg_none_of X G z16
    b_range := PySem.W.mg_none_of X G z17
    b_repr := PySem.W.mg_none_of X G z18
    b_set := PySem.W.mg_none_of X G z19
    b_sorted := PySem.W.mg_none_of X G z20
    b_str := PySem.W.mg_none_of X G z21
    b_sum := PySem.W.mg_none_of X G z22
    b_tuple := PySem.W.mg_none_of X G z23
    b_zip := PySem.W.mg_none_of X G z24 }
  have tt0 : ∃ (f : Addr) (fd : FuncData), Fun K "broken" "Tree.broken" s_Tree_broken f fd ∧ Meth K CoTree "broken" f ∧ Binds K fd ["self"] [] ∧ PySem.W.fnIn K f = true ∧ fd.code = .ref cT0 := by
    subst tc0
    exact ⟨_, _, fun_mk (st := s_Tree_broken) lM10Tree cM10Tree kM10Tree, ⟨atM10Tree, ifM10Tree, kM10Tree⟩, ((fun_mk (st := s_Tree_broken) lM10Tree cM10Tree kM10Tree).binds (ps := ["self"]) fun _ _ _ _ _ _ us hl => match us, hl with | [_], _ => rfl), fn_in lM10Tree, rfl⟩
  have nd : (([(PT0, ln "Tree.broken")] : List (Addr × Str)).map (·.1)).Nodup := tdd
  refine ⟨PySem.W.fnOf "law" "law" (defArgs s_law) (defBody s_law) (defScope s_law) .none kV30 dc30 pm30 an30 cd30 ct30, [(cT0, PT0)], spLaw K [(PT0, ln "Tree.broken")], fun c hc => ?_, fun s v => .of_eq rfl, fun H a ns hl hc hS => ⟨a, ns, rfl, hS, hl, fun p hp => ?_, fun _ => rfl⟩, fun base KB GB TB => ok_law (fun_mk (st := s_law) l30 c30 k30) (PySem.W.mg_of X G a30) (fun C hC => by cases hC.symm.trans (PySem.W.mg_of X G goTree); exact ⟨tt0, TB _ (.head _), (.head _), one_of nd (.head _)⟩) T ⟩
  · simp only [List.mem_cons, List.not_mem_nil, or_false] at hc
    rcases hc with rfl
    · exact ⟨⟨th0, tm0⟩, tn0⟩
  · simp only [List.mem_cons, List.not_mem_nil, or_false] at hp
    rcases hp with rfl
    · exact .nil (hc _ (.head _))
end Kl
open PySem PySem.W PyProof.Rows
set_option maxHeartbeats 0 in
theorem PySem.Challenge.cw_linkbooks_k47_trees_told_holds : PySem.Challenge.rw_linkbooks_k47_trees_told.Holds := by
  w_on; o_law; k_head; (case hw => w_witness2)
  k_fill
  refine Gx.walkGM (l := PySem.Challenge.rw_linkbooks_k47_trees_told) (n := 63) (k := 40) (x := "_law_script") (CX := fun _ => L2.CX0) rfl (by decide) rfl ⟨rfl, by decide, by decide⟩ (fun w h Y => PySem.W.km_in_of Y) (fun w h Y => PySem.W.km_tabs_of Y) ?F (fun _ _ _ _ _ h => h)
  case F =>
    intro w mg fa h KX G hmg
    refine' Kl.all_mk KX G hmg ?gy0 ?hy0 ?ty0 ?iy0 ?ky0 ?by0 ?wy0 ?xy0 ?ry0 ?zy0 ?gy1 ?hy1 ?ty1 ?iy1 ?ky1 ?by1 ?wy1 ?xy1 ?ry1 ?zy1 ?gy2 ?hy2 ?ty2 ?iy2 ?ky2 ?by2 ?wy2 ?xy2 ?ry2 ?zy2 ?a0 ?l0 ?c0 ?k0 ?a1 ?l1 ?c1 ?k1 ?a2 ?l2 ?c2 ?k2 ?a3 ?l3 ?c3 ?k3 ?a4 ?l4 ?c4 ?k4 ?a5 ?l5 ?c5 ?k5 ?a6 ?l6 ?c6 ?k6 ?a7 ?l7 ?c7 ?k7 ?a8 ?l8 ?c8 ?k8 ?a9 ?l9 ?c9 ?k9 ?a10 ?l10 ?c10 ?k10 ?a11 ?l11 ?c11 ?k11 ?a12 ?l12 ?c12 ?k12 ?a13 ?l13 ?c13 ?k13 ?a14 ?l14 ?c14 ?k14 ?a15 ?l15 ?c15 ?k15 ?a16 ?l16 ?c16 ?k16 ?a17 ?l17 ?c17 ?k17 ?a18 ?l18 ?c18 ?k18 ?a19 ?l19 ?c19 ?k19 ?a20 ?l20 ?c20 ?k20 ?a21 ?l21 ?c21 ?k21 ?a22 ?l22 ?c22 ?k22 ?a23 ?l23 ?c23 ?k23 ?a24 ?l24 ?c24 ?k24 ?a25 ?l25 ?c25 ?k25 ?a26 ?l26 ?c26 ?k26 ?a27 ?l27 ?c27 ?k27 ?a28 ?l28 ?c28 ?k28 ?a29 ?l29 ?c29 ?k29 ?a30 ?l30 ?c30 ?k30 ?goKinds ?pgoKinds ?hdoKinds ?pooKinds ?saoKinds ?mkoKinds ?kcoKinds ?neoKinds ?oboKinds ?kioKinds ?ktoKinds ?kdoKinds ?kroKinds ?ksoKinds ?kNoneTypeoKinds ?kintoKinds ?kbooloKinds ?kstroKinds ?klistoKinds ?caoKinds ?cgoKinds ?ctoKinds ?n_leafoKinds ?n_makingsoKinds ?n_namesoKinds ?atM0Kinds ?ifM0Kinds ?lM0Kinds ?cM0Kinds ?kM0Kinds ?atM2Kinds ?geM2Kinds ?taM2Kinds ?reM2Kinds ?lM2Kinds ?cM2Kinds ?kM2Kinds ?atM3Kinds ?geM3Kinds ?taM3Kinds ?reM3Kinds ?lM3Kinds ?cM3Kinds ?kM3Kinds ?atM4Kinds ?geM4Kinds ?taM4Kinds ?reM4Kinds ?lM4Kinds ?cM4Kinds ?kM4Kinds ?atM7Kinds ?ifM7Kinds ?lM7Kinds ?cM7Kinds ?kM7Kinds ?atM9Kinds ?ifM9Kinds ?lM9Kinds ?cM9Kinds ?kM9Kinds ?atM10Kinds ?ifM10Kinds ?lM10Kinds ?cM10Kinds ?kM10Kinds ?atM12Kinds ?ifM12Kinds ?lM12Kinds ?cM12Kinds ?kM12Kinds ?atM13Kinds ?ifM13Kinds ?lM13Kinds ?cM13Kinds ?kM13Kinds ?atM14Kinds ?ifM14Kinds ?lM14Kinds ?cM14Kinds ?kM14Kinds ?goTree ?pgoTree ?hdoTree ?pooTree ?saoTree ?mkoTree ?kcoTree ?neoTree ?oboTree ?kioTree ?ktoTree ?kdoTree ?kroTree ?ksoTree ?kNoneTypeoTree ?kintoTree ?kbooloTree ?kstroTree ?klistoTree ?caoTree ?cgoTree ?ctoTree ?n_kindsoTree ?n_keyoTree ?n_wayoTree ?n_childrenoTree ?n_sizeoTree ?atM0Tree ?ifM0Tree ?lM0Tree ?cM0Tree ?kM0Tree ?atM2Tree ?geM2Tree ?taM2Tree ?reM2Tree ?lM2Tree ?cM2Tree ?kM2Tree ?atM3Tree ?geM3Tree ?taM3Tree ?reM3Tree ?lM3Tree ?cM3Tree ?kM3Tree ?atM4Tree ?geM4Tree ?taM4Tree ?reM4Tree ?lM4Tree ?cM4Tree ?kM4Tree ?atM5Tree ?geM5Tree ?taM5Tree ?reM5Tree ?lM5Tree ?cM5Tree ?kM5Tree ?atM6Tree ?geM6Tree ?taM6Tree ?reM6Tree ?lM6Tree ?cM6Tree ?kM6Tree ?atM7Tree ?geM7Tree ?taM7Tree ?reM7Tree ?lM7Tree ?cM7Tree ?kM7Tree ?atM8Tree ?geM8Tree ?taM8Tree ?reM8Tree ?lM8Tree ?cM8Tree ?kM8Tree ?atM9Tree ?geM9Tree ?taM9Tree ?reM9Tree ?lM9Tree ?cM9Tree ?kM9Tree ?atM10Tree ?ifM10Tree ?lM10Tree ?cM10Tree ?kM10Tree ?atM13Tree ?ifM13Tree ?lM13Tree ?cM13Tree ?kM13Tree ?atM14Tree ?ifM14Tree ?lM14Tree ?cM14Tree ?kM14Tree ?atM15Tree ?ifM15Tree ?lM15Tree ?cM15Tree ?kM15Tree ?atM16Tree ?ifM16Tree ?lM16Tree ?cM16Tree ?kM16Tree ?rdQ1Tree ?gaQ1Tree ?atQ1Tree ?reQ1Tree ?lQ1Tree ?cQ1Tree ?kQ1Tree ?m0 ?m1 ?m2 ?m3 ?m4 ?z0 ?z1 ?z2 ?z3 ?z4 ?z5 ?z6 ?z7 ?z8 ?z9 ?z10 ?z11 ?z12 ?z13 ?z14 ?z15 ?z16 ?z17 ?z18 ?z19 ?z20 ?z21 ?z22 ?z23 ?z24 ?tc0 ?tl0 ?tp0 ?tn0 ?th0 ?tm0 ?tdd
    (case gy0 => k_is); (case hy0 => k_is); (case ty0 => decide +kernel); (case iy0 => k_is); (case ky0 => k_is); (case by0 => k_is); (case wy0 => k_is); (case xy0 => k_is); (case ry0 => first | rfl | k_is); (case zy0 => kernel_rfl); (case gy1 => k_is); (case hy1 => k_is); (case ty1 => decide +kernel); (case iy1 => k_is); (case ky1 => k_is); (case by1 => k_is); (case wy1 => k_is); (case xy1 => k_is); (case ry1 => first | rfl | k_is); (case zy1 => kernel_rfl); (case gy2 => k_is); (case hy2 => k_is); (case ty2 => decide +kernel); (case iy2 => k_is); (case ky2 => k_is); (case by2 => k_is); (case wy2 => k_is); (case xy2 => k_is); (case ry2 => first | rfl | k_is); (case zy2 => kernel_rfl); (case a0 => k_is); (case l0 => k_is); (case c0 => k_is); (case k0 => k_is); (case a1 => k_is); (case l1 => k_is); (case c1 => k_is); (case k1 => k_is); (case a2 => k_is); (case l2 => k_is); (case c2 => k_is); (case k2 => k_is); (case a3 => k_is); (case l3 => k_is); (case c3 => k_is); (case k3 => k_is); (case a4 => k_is); (case l4 => k_is); (case c4 => k_is); (case k4 => k_is); (case a5 => k_is); (case l5 => k_is); (case c5 => k_is); (case k5 => k_is); (case a6 => k_is); (case l6 => k_is); (case c6 => k_is); (case k6 => k_is); (case a7 => k_is); (case l7 => k_is); (case c7 => k_is); (case k7 => k_is); (case a8 => k_is); (case l8 => k_is); (case c8 => k_is); (case k8 => k_is); (case a9 => k_is); (case l9 => k_is); (case c9 => k_is); (case k9 => k_is); (case a10 => k_is); (case l10 => k_is); (case c10 => k_is); (case k10 => k_is); (case a11 => k_is); (case l11 => k_is); (case c11 => k_is); (case k11 => k_is); (case a12 => k_is); (case l12 => k_is); (case c12 => k_is); (case k12 => k_is); (case a13 => k_is); (case l13 => k_is); (case c13 => k_is); (case k13 => k_is); (case a14 => k_is); (case l14 => k_is); (case c14 => k_is); (case k14 => k_is); (case a15 => k_is); (case l15 => k_is); (case c15 => k_is); (case k15 => k_is); (case a16 => k_is); (case l16 => k_is); (case c16 => k_is); (case k16 => k_is); (case a17 => k_is); (case l17 => k_is); (case c17 => k_is); (case k17 => k_is); (case a18 => k_is); (case l18 => k_is); (case c18 => k_is); (case k18 => k_is); (case a19 => k_is); (case l19 => k_is); (case c19 => k_is); (case k19 => k_is); (case a20 => k_is); (case l20 => k_is); (case c20 => k_is); (case k20 => k_is); (case a21 => k_is); (case l21 => k_is); (case c21 => k_is); (case k21 => k_is); (case a22 => k_is); (case l22 => k_is); (case c22 => k_is); (case k22 => k_is); (case a23 => k_is); (case l23 => k_is); (case c23 => k_is); (case k23 => k_is); (case a24 => k_is); (case l24 => k_is); (case c24 => k_is); (case k24 => k_is); (case a25 => k_is); (case l25 => k_is); (case c25 => k_is); (case k25 => k_is); (case a26 => k_is); (case l26 => k_is); (case c26 => k_is); (case k26 => k_is); (case a27 => k_is); (case l27 => k_is); (case c27 => k_is); (case k27 => k_is); (case a28 => k_is); (case l28 => k_is); (case c28 => k_is); (case k28 => k_is); (case a29 => k_is); (case l29 => k_is); (case c29 => k_is); (case k29 => k_is); (case a30 => k_is); (case l30 => k_is); (case c30 => k_is); (case k30 => k_is); (case goKinds => k_is); (case pgoKinds => k_is); (case hdoKinds => k_is); (case pooKinds => k_is); (case saoKinds => k_is); (case mkoKinds => k_is); (case kcoKinds => k_is); (case neoKinds => k_is); (case oboKinds => k_is); (case kioKinds => first | rfl | k_is); (case ktoKinds => first | rfl | k_is); (case kdoKinds => first | rfl | k_is); (case kroKinds => first | rfl | k_is); (case ksoKinds => first | rfl | k_is); (case kNoneTypeoKinds => first | rfl | k_is); (case kintoKinds => first | rfl | k_is); (case kbooloKinds => first | rfl | k_is); (case kstroKinds => first | rfl | k_is); (case klistoKinds => first | rfl | k_is); (case caoKinds => k_is); (case cgoKinds => k_is); (case ctoKinds => k_is); (case n_leafoKinds => k_is); (case n_makingsoKinds => k_is); (case n_namesoKinds => k_is); (case atM0Kinds => k_is); (case ifM0Kinds => k_is); (case lM0Kinds => k_is); (case cM0Kinds => k_is); (case kM0Kinds => k_is); (case atM2Kinds => k_is); (case geM2Kinds => k_is); (case taM2Kinds => k_is); (case reM2Kinds => k_is); (case lM2Kinds => k_is); (case cM2Kinds => k_is); (case kM2Kinds => k_is); (case atM3Kinds => k_is); (case geM3Kinds => k_is); (case taM3Kinds => k_is); (case reM3Kinds => k_is); (case lM3Kinds => k_is); (case cM3Kinds => k_is); (case kM3Kinds => k_is); (case atM4Kinds => k_is); (case geM4Kinds => k_is); (case taM4Kinds => k_is); (case reM4Kinds => k_is); (case lM4Kinds => k_is); (case cM4Kinds => k_is); (case kM4Kinds => k_is); (case atM7Kinds => k_is); (case ifM7Kinds => k_is); (case lM7Kinds => k_is); (case cM7Kinds => k_is); (case kM7Kinds => k_is); (case atM9Kinds => k_is); (case ifM9Kinds => k_is); (case lM9Kinds => k_is); (case cM9Kinds => k_is); (case kM9Kinds => k_is); (case atM10Kinds => k_is); (case ifM10Kinds => k_is); (case lM10Kinds => k_is); (case cM10Kinds => k_is); (case kM10Kinds => k_is); (case atM12Kinds => k_is); (case ifM12Kinds => k_is); (case lM12Kinds => k_is); (case cM12Kinds => k_is); (case kM12Kinds => k_is); (case atM13Kinds => k_is); (case ifM13Kinds => k_is); (case lM13Kinds => k_is); (case cM13Kinds => k_is); (case kM13Kinds => k_is); (case atM14Kinds => k_is); (case ifM14Kinds => k_is); (case lM14Kinds => k_is); (case cM14Kinds => k_is); (case kM14Kinds => k_is); (case goTree => k_is); (case pgoTree => k_is); (case hdoTree => k_is); (case pooTree => k_is); (case saoTree => k_is); (case mkoTree => k_is); (case kcoTree => k_is); (case neoTree => k_is); (case oboTree => k_is); (case kioTree => first | rfl | k_is); (case ktoTree => first | rfl | k_is); (case kdoTree => first | rfl | k_is); (case kroTree => first | rfl | k_is); (case ksoTree => first | rfl | k_is); (case kNoneTypeoTree => first | rfl | k_is); (case kintoTree => first | rfl | k_is); (case kbooloTree => first | rfl | k_is); (case kstroTree => first | rfl | k_is); (case klistoTree => first | rfl | k_is); (case caoTree => k_is); (case cgoTree => k_is); (case ctoTree => k_is); (case n_kindsoTree => k_is); (case n_keyoTree => k_is); (case n_wayoTree => k_is); (case n_childrenoTree => k_is); (case n_sizeoTree => k_is); (case atM0Tree => k_is); (case ifM0Tree => k_is); (case lM0Tree => k_is); (case cM0Tree => k_is); (case kM0Tree => k_is); (case atM2Tree => k_is); (case geM2Tree => k_is); (case taM2Tree => k_is); (case reM2Tree => k_is); (case lM2Tree => k_is); (case cM2Tree => k_is); (case kM2Tree => k_is); (case atM3Tree => k_is); (case geM3Tree => k_is); (case taM3Tree => k_is); (case reM3Tree => k_is); (case lM3Tree => k_is); (case cM3Tree => k_is); (case kM3Tree => k_is); (case atM4Tree => k_is); (case geM4Tree => k_is); (case taM4Tree => k_is); (case reM4Tree => k_is); (case lM4Tree => k_is); (case cM4Tree => k_is); (case kM4Tree => k_is); (case atM5Tree => k_is); (case geM5Tree => k_is); (case taM5Tree => k_is); (case reM5Tree => k_is); (case lM5Tree => k_is); (case cM5Tree => k_is); (case kM5Tree => k_is); (case atM6Tree => k_is); (case geM6Tree => k_is); (case taM6Tree => k_is); (case reM6Tree => k_is); (case lM6Tree => k_is); (case cM6Tree => k_is); (case kM6Tree => k_is); (case atM7Tree => k_is); (case geM7Tree => k_is); (case taM7Tree => k_is); (case reM7Tree => k_is); (case lM7Tree => k_is); (case cM7Tree => k_is); (case kM7Tree => k_is); (case atM8Tree => k_is); (case geM8Tree => k_is); (case taM8Tree => k_is); (case reM8Tree => k_is); (case lM8Tree => k_is); (case cM8Tree => k_is); (case kM8Tree => k_is); (case atM9Tree => k_is); (case geM9Tree => k_is); (case taM9Tree => k_is); (case reM9Tree => k_is); (case lM9Tree => k_is); (case cM9Tree => k_is); (case kM9Tree => k_is); (case atM10Tree => k_is); (case ifM10Tree => k_is); (case lM10Tree => k_is); (case cM10Tree => k_is); (case kM10Tree => k_is); (case atM13Tree => k_is); (case ifM13Tree => k_is); (case lM13Tree => k_is); (case cM13Tree => k_is); (case kM13Tree => k_is); (case atM14Tree => k_is); (case ifM14Tree => k_is); (case lM14Tree => k_is); (case cM14Tree => k_is); (case kM14Tree => k_is); (case atM15Tree => k_is); (case ifM15Tree => k_is); (case lM15Tree => k_is); (case cM15Tree => k_is); (case kM15Tree => k_is); (case atM16Tree => k_is); (case ifM16Tree => k_is); (case lM16Tree => k_is); (case cM16Tree => k_is); (case kM16Tree => k_is); (case rdQ1Tree => first | rfl | k_is); (case gaQ1Tree => first | rfl | k_is); (case atQ1Tree => first | rfl | k_is); (case reQ1Tree => k_is); (case lQ1Tree => k_is); (case cQ1Tree => k_is); (case kQ1Tree => k_is); (case m0 => k_is); (case m1 => k_is); (case m2 => k_is); (case m3 => k_is); (case m4 => k_is); (case z0 => k_is); (case z1 => k_is); (case z2 => k_is); (case z3 => k_is); (case z4 => k_is); (case z5 => k_is); (case z6 => k_is); (case z7 => k_is); (case z8 => k_is); (case z9 => k_is); (case z10 => k_is); (case z11 => k_is); (case z12 => k_is); (case z13 => k_is); (case z14 => k_is); (case z15 => k_is); (case z16 => k_is); (case z17 => k_is); (case z18 => k_is); (case z19 => k_is); (case z20 => k_is); (case z21 => k_is); (case z22 => k_is); (case z23 => k_is); (case z24 => k_is); (case tc0 => rfl); (case tl0 => k_is); (case tp0 => rfl); (case tn0 => kernel_rfl); (case th0 => kernel_rfl); (case tm0 => decide); (case tdd => decide)
