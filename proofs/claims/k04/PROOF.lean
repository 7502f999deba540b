import PyProof.Rows.All
import Wide.All
import OpenK.AllK
import Wide.FinOn
import KE.KCallOwn
import KE.KEqDict
import PyProof.InstEq
import HandS.Base
import HandS.Call
import HandS.List
import HandS.Dict
import HandS.More
import HandS.Comp
import HandS.Words
import HandS.Property
import HandS.IsInst
import PyProof.Rows.SortShellAny
import PyProof.Rows.SetFrom
import HandS.Set
import PyProof.AssignAttr
import PyProof.Rows.StrCountLaw
import HandS.ForMost
import HandS.Wide
import HandS.StrMore
import HandS.Style
import PyProof.ReprReads
import HandS.Ends
import PyProof.ReprRoads
import PyProof.TupleOfSeq
import KE.KExcInit
import HandS.ForExc
import HandS.TryMany
import HandS.Defaults
import HandS.Deep
import HandS.ExcValue
import KE.KExcMake
import KE.KExcIs
import HandS.Lambda
import HandS.EndBits
import KE.KNest
import HandS.ClsMeth
import HandS.Star
import HandS.CallLocal
import HandS.Iter
import HandS.Walk
import KE.KDictKeyed
import KE.KDictWalk
import HandS.DictComp
import HandS.DictTup
import HandS.Conv
import KE.SortData
import KE.KDictCopyH
import HandS.DictEq
import KE.KDictPairs
import HandS.FStr
import HandS.ListItems
import HandS.TupAny
import HandS.Strs
import HandS.ReCall
import HandS.SetFor
import HandS.TupSets
import KE.KSortTup
import PyProof.Rows.StrSplitCount
import PyProof.Rows.StrSplitJoin
import HandS.Zip
import KE.GoesEnum
import HandS.SetBool
import PyProof.SetRoads
import HandS.Small
import PyProof.Rows.RegFStrParts
import KE.SortCalls
import KE.KExcLine
import PySem.Challenge.RW_linkbooks_k04_whole_lines_of_kinds
set_option Elab.async false
set_option linter.all false
set_option maxRecDepth 100000
set_option maxHeartbeats 4000000
namespace Gx
open PySem PySem.Spec PySem.Calls PyProof.Rows L2
/-! ### own protocols: in, [], len, str, == and != of instances -/
theorem rel_ref (a : Addr) : RelV (V.ref a) (Value.ref a) := rfl
/-- a method of the class at C that keeps the promise sp, by at most level k -/
def CalM (P : Program) (w : World) (K : PySem.W.Frag) (mg : Str → Option Value) (base : Heap) (C : Addr) (m : Str) (k : Nat) (ps : List Str) (sp : Sp) : Prop :=
  ∃ (f : Addr) (fd : FuncData), FnOk P w K mg base CX0 k f fd ps sp ∧ Meth K C m f ∧ Binds K fd ps [] ∧ PySem.W.fnIn K f = true
theorem CalM.mono {P : Program} {w : World} {K : PySem.W.Frag} {mg : Str → Option Value} {base : Heap} {C : Addr} {m : Str} {j k : Nat} {ps : List Str} {sp : Sp} (c : CalM P w K mg base C m j ps sp) (h : j ≤ k) : CalM P w K mg base C m k ps sp := by
  obtain ⟨f, fd, F, more⟩ := c
  exact ⟨f, fd, F.mono h, more⟩
section
variable {X : Cx} {C : Addr} {k : Nat} {ps : List Str} {sp : Sp} {m : Str}
/-- the method runs, somewhere below the body -/
theorem run_below {f : Addr} {fd : FuncData} {A : Around} {pins : List (Addr × Obj)} {σ : L2.St} {H : Hp} {s : Shared} {us : List Value} {vs : List V} {Q : VK} {E : Value → Shared → Prop} (F : FnOk X.prog X.w X.K X.mg X.base CX0 k f fd ps sp) (room : Room k A) (fr : A.frames = X.A.frames) (b : Binds X.K fd ps [])
    (I : Inv X pins σ H s) (r : Vals vs us) (want : sp vs H Q E0) : wpAny (model X.prog X.w) A (call (.ref f) us) (EP X pins σ Q) E s := by
  have e0 : Env0 X.prog X.w X.K X.mg X.base A X.stack s H := by
    have e := I.env0
    exact ⟨by rw [fr]; exact e.frames, e.mod, e.bs, e.bsz, e.funs, e.frf, e.hok, e.bare⟩
  have hl : us.length = ps.length := r.length.symm.trans (F.len _ _ _ _ want)
  have bt : BindsTo s fd ⟨us, []⟩ (ps.zip us) := by
    have q := b s us I.kIn (by rw [List.append_nil]; exact hl)
    rw [List.append_nil] at q
    exact q
  refine wpAny_call (codeAny_mono (F.run A X.stack s H ⟨us, []⟩ us vs Q E0 room e0 bt r want) fun res s' hres => ?_)
  match res, hres with
  | .error e, hres => exact hres.elim
  | .ok (.ret u), hres => exact I.after hres
/-- x in o, x not in o -/
def rInM (C : Addr) (sp : Sp) (neg : Bool) : R2 := fun x y H Q => ∃ a dx fs, y = .ref a ∧ H a = some (.ins C dx fs) ∧ sp [.ref a, x] H (fun v H' => ∃ b, v = .bl b ∧ Q (.bl (if neg then !b else b)) H') E0
theorem op_inM (c : CalM X.prog X.w X.K X.mg X.base C "__contains__" k ps sp) (hr : Room k X.A) : OpR X (compareOp .In) (rInM C sp false) := by
  intro pins s σ H x y v u Q I rx ry h
  obtain ⟨f, fd, F, me, b, _⟩ := c
  obtain ⟨a, dx, fs, rfl, ea, q⟩ := h
  obtain rfl : u = Value.ref a := ry
  obtain ⟨mA, O, _⟩ := ins_get I.hok ea
  obtain ⟨od, J, _⟩ := O.look
  obtain ⟨mm, hF⟩ := I.fr
  refine PySem.W.in_K hF I.ok.mod.kin J me.at_ me.fn (wpAny_mono (run_below F hr rfl b I (.cons (rel_ref a) (.cons rx .nil)) q) (fun r s' z => ?_) fun _ _ e => e)
  obtain ⟨v', H', I', rv, t, rfl, q'⟩ := z
  cases rv
  exact wpAny_truthy_bool ⟨.bl t, H', I', rfl, q'⟩
theorem op_notinM (c : CalM X.prog X.w X.K X.mg X.base C "__contains__" k ps sp) (hr : Room k X.A) : OpR X (compareOp .NotIn) (rInM C sp true) := by
  intro pins s σ H x y v u Q I rx ry h
  obtain ⟨f, fd, F, me, b, _⟩ := c
  obtain ⟨a, dx, fs, rfl, ea, q⟩ := h
  obtain rfl : u = Value.ref a := ry
  obtain ⟨mA, O, _⟩ := ins_get I.hok ea
  obtain ⟨od, J, _⟩ := O.look
  obtain ⟨mm, hF⟩ := I.fr
  refine PySem.W.notIn_K hF I.ok.mod.kin J me.at_ me.fn (wpAny_mono (run_below F hr rfl b I (.cons (rel_ref a) (.cons rx .nil)) q) (fun r s' z => ?_) fun _ _ e => e)
  obtain ⟨v', H', I', rv, t, rfl, q'⟩ := z
  cases rv
  exact wpAny_truthy_bool ⟨.bl (!t), H', I', rfl, q'⟩
/-- o[x] -/
def rIxM (C : Addr) (sp : Sp) : R2 := fun x y H Q => ∃ a dx fs, x = .ref a ∧ H a = some (.ins C dx fs) ∧ sp [.ref a, y] H Q E0
theorem pe_ixM {a b : Expr} {ta tb : TE} {pos : Pos} (c : CalM X.prog X.w X.K X.mg X.base C "__getitem__" k ps sp) (hr : Room (k + 1) X.A) (ha : PE X a ta) (hb : PE X b tb)
    (hs : ∀ v u, subscripted b true v u = runValue (.builtin "lifetime.subscript" ⟨[v, u], []⟩)) : PE X (.Subscript a b pos) (tOp (rIxM C sp) ta tb) := by
  obtain ⟨f, fd, F, me, bi, fi⟩ := c
  refine ⟨fun pins s σ H Q I h => ?_⟩
  refine Subscript_ (binT ha hb I h fun v u s2 x y H2 I2 rx ry q => ?_)
  obtain ⟨p, dx, fs, rfl, ea, q⟩ := q
  obtain rfl : v = Value.ref p := rx
  obtain ⟨mA, O, _⟩ := ins_get I2.hok ea
  obtain ⟨od, J, _⟩ := O.look
  obtain ⟨mm, hF⟩ := I2.fr
  exact PySem.W.sub_K hF I2.ok.mod.kin J me.at_ fi me.fn (run_below F hr.in1 rfl bi I2 (.cons (rel_ref _) (.cons ry .nil)) q) (hs _ _)
/-- len(o) -/
def rLenM (C : Addr) (sp : Sp) : List V → Hp → VK → Prop := fun vs H Q => ∃ a dx fs, vs = [.ref a] ∧ H a = some (.ins C dx fs) ∧ sp [.ref a] H (fun v H' => ∃ n : Nat, v = .int n ∧ n ≤ 1000000 ∧ Q (.int n) H') E0
theorem call_lenM (c : CalM X.prog X.w X.K X.mg X.base C "__len__" k ps sp) (hr : Room (k + 1) X.A) : CallR X (.builtin "len") (rLenM C sp) := by
  intro pins s σ H xs us Q I r h
  obtain ⟨f, fd, F, me, b, _⟩ := c
  obtain ⟨a, dx, fs, rfl, ea, q⟩ := h
  rw [Vals.ref1 r]
  obtain ⟨mA, O, _⟩ := ins_get I.hok ea
  obtain ⟨od, J, _⟩ := O.look
  obtain ⟨mm, hF⟩ := I.fr
  refine PySem.W.len_K hF I.ok.mod.kin J me.at_ me.fn (wpAny_mono (run_below F hr.in1 rfl b I (.cons (rel_ref a) .nil) q) (fun r s' z => ?_) fun _ _ e => e)
  obtain ⟨v', H', I', rv, n, rfl, hn, q'⟩ := z
  obtain ⟨t, rfl⟩ := (show ∃ t, r = Value.int n t from rv)
  exact ⟨⟨by omega, by omega⟩, .int n, H', I'.tok _, ⟨_, rfl⟩, q'⟩
/-- str(o) -/
def rStrM (C : Addr) (sp : Sp) : List V → Hp → VK → Prop := fun vs H Q => ∃ a dx fs, vs = [.ref a] ∧ H a = some (.ins C dx fs) ∧ sp [.ref a] H (fun v H' => ∃ z : Str, v = .str z ∧ Q (.str z) H') E0
theorem call_strM (c : CalM X.prog X.w X.K X.mg X.base C "__str__" k ps sp) (hr : Room (k + 2) X.A) : CallR X (.type "str") (rStrM C sp) := by
  intro pins s σ H xs us Q I r h
  obtain ⟨f, fd, F, me, b, _⟩ := c
  obtain ⟨a, dx, fs, rfl, ea, q⟩ := h
  rw [Vals.ref1 r]
  obtain ⟨mA, O, _⟩ := ins_get I.hok ea
  obtain ⟨od, J, _⟩ := O.look
  have r2 : Room k X.A.in1.in1 := (hr.in1).in1
  refine PySem.W.kso_call r2.units0 I.kIn J me.at_ me.fn (wpAny_mono (run_below F r2 rfl b I (.cons (rel_ref a) .nil) q) (fun r s' z => ?_) fun _ _ e => e)
  obtain ⟨v', H', I', rv, y, rfl, q'⟩ := z
  obtain ⟨t, rfl⟩ := (show ∃ t, r = Value.str y t from rv)
  exact ⟨.str y, H', I', ⟨_, rfl⟩, q'⟩
/-- what an instance of the class at C may be compared with: another one, a tuple, a dict -/
inductive Oth (K : PySem.W.Frag) (H : Hp) (C : Addr) : V → Value → Prop
  | ins {a dx : Addr} {fs : List (Str × V)} (e : H a = some (.ins C dx fs)) : Oth K H C (.ref a) (.ref C)
  | tup {a : Addr} {xs : List V} (e : SqT K H a xs) : Oth K H C (.ref a) (.type "tuple")
  | dict {a : Addr} {kvs : List (Key × V)} (e : H a = some (.dK kvs)) : Oth K H C (.ref a) (.type "dict")
theorem sub_tuple_own {K : PySem.W.Frag} {C : Addr} : PySem.W.subIn K (.type "tuple") (.ref C) = some false := by
  have e : fastBuiltinMro "tuple" = some [.type "tuple", .type "object"] := by decide +kernel
  show (fastBuiltinMro "tuple").map (·.contains (.ref C)) = some false
  rw [e]
  first
    | rfl
    | simp
theorem sub_dict_own {K : PySem.W.Frag} {C : Addr} : PySem.W.subIn K (.type "dict") (.ref C) = some false := by
  have e : fastBuiltinMro "dict" = some [.type "dict", .type "object"] := by decide +kernel
  show (fastBuiltinMro "dict").map (·.contains (.ref C)) = some false
  rw [e]
  first
    | rfl
    | simp
theorem Oth.looks {M : Model} {pins : List (Addr × Obj)} {σ : L2.St} {H : Hp} {s : Shared} {y : V} {u t : Value} (I : Inv X pins σ H s) (o : Oth X.K H C y t) (r : RelV y u) :
    PySem.W.Looks M s.heap (typeOf u) t ∧ PySem.W.notFirst X.K C t = true := by
  cases o with
  | @ins a dx fs e =>
    obtain rfl : u = Value.ref a := r
    obtain ⟨mA, O, _⟩ := ins_get I.hok e
    obtain ⟨od, J, _⟩ := O.look
    exact ⟨J.type, by simp [PySem.W.notFirst]⟩
  | @tup a xs e =>
    obtain rfl : u = Value.ref a := r
    obtain ⟨its, rv, ⟨ob, ho, hc, _⟩, _⟩ := I.tuple e
    refine ⟨?_, by simp [PySem.W.notFirst, sub_tuple_own]⟩
    intro A Q E s' kp q
    exact wpAny_typeOf (T := "tuple") ⟨ob, kp _ _ ho, hc⟩ q
  | @dict a kvs e =>
    obtain rfl : u = Value.ref a := r
    obtain ⟨_, _, vs, _, dd⟩ := dk_of I.hok e
    refine ⟨?_, by simp [PySem.W.notFirst, sub_dict_own]⟩
    intro A Q E s' kp q
    obtain ⟨ob, ho, hc⟩ := dd.typeIs
    exact wpAny_typeOf (T := "dict") ⟨ob, kp _ _ ho, hc⟩ q
/-- o == y by the class's own == -/
def rEqM (K : PySem.W.Frag) (C : Addr) (sp : Sp) : R2 := fun x y H Q => ∃ a dx fs t, x = .ref a ∧ H a = some (.ins C dx fs) ∧ Oth K H C y t ∧ sp [.ref a, y] H (fun v H' => ∃ b, v = .bl b ∧ Q (.bl b) H') E0
theorem op_eqM (c : CalM X.prog X.w X.K X.mg X.base C "__eq__" k ps sp) (hr : Room k X.A) : OpR X (compareOp .Eq) (rEqM X.K C sp) := by
  intro pins s σ H x y v u Q I rx ry h
  obtain ⟨f, fd, F, me, b, _⟩ := c
  obtain ⟨a, dx, fs, t, rfl, ea, o, q⟩ := h
  obtain rfl : v = Value.ref a := rx
  obtain ⟨mA, O, _⟩ := ins_get I.hok ea
  obtain ⟨od, J, _⟩ := O.look
  obtain ⟨mm, hF⟩ := I.fr
  obtain ⟨lk, nf⟩ := o.looks (M := model X.prog X.w) I ry
  show wpAny _ _ (richCompare .Eq (.ref a) u) _ _ _
  refine PySem.W.cmp_K (op := .Eq) hr.units0 hF I.ok.mod.kin J lk nf me.at_ me.fn (wpAny_mono (run_below F hr rfl b I (.cons (rel_ref _) (.cons ry .nil)) q) (fun r s' z => ?_) fun _ _ e => e)
  obtain ⟨v', H', I', rv, t, rfl, q'⟩ := z
  cases rv
  exact ⟨.bl t, H', I', rfl, q'⟩
end
section
variable {prog : Program} {w : World} {A : Around} {E : Value → Shared → Prop} {s : Shared} {K : PySem.W.Frag} {x C f : Addr} {ox : Obj} {od : Option Obj} {y : Value}
theorem objNe_by (inK : K.In s.heap) (J : PySem.W.InstAt s.heap x ox C od) (hs : PySem.W.findIn K (.ref C) "__eq__" = some (some (.ref f))) (hf : PySem.W.isFn K (.ref f) = true) (hu : A.units < cLine) {Q : Fin → Shared → Prop}
    (hcall : wpAny (model prog w) A (call (.ref f) [.ref x, y]) (fun v s' => ∃ b, v = .bool b ∧ Q (.done (.ret (.bool (!b)))) s') E s) : wpAny (model prog w) A (Builtin.«object.__ne__» ⟨[.ref x, y], []⟩) Q E s := by
  unfold Builtin.«object.__ne__»
  repeat (first
    | with_reducible refine wpAny_cRoomFor hu ?_
    | (refine wpAny_bind (m := callSpecialIfBound? (.ref x) (Str.ofString "__eq__") [y]) (PySem.W.ifBound_K inK J hs hf (wpAny_mono hcall (fun r s' hr => by
          obtain ⟨b, rfl, hq⟩ := hr
          repeat (first | exact hq | exact wpAny_pure hq | exact wpAny_truthy_bool hq | (refine wpAny_bind (m := truthy (.bool _)) (wpAny_truthy_bool ?_)) | wp_step)) fun _ _ e => e)))
    | wp_step)
theorem bound_ne {args : List Value} {Q : Option Value → Shared → Prop} (inK : K.In s.heap) (J : PySem.W.InstAt s.heap x ox C od) (hs : PySem.W.findIn K (.ref C) "__ne__" = some (some (.builtin "object.__ne__")))
    (h : wpAny (model prog w) A (call (.builtin "object.__ne__") (.ref x :: args)) (fun v => Q (some v)) E s) : wpAny (model prog w) A (callSpecialIfBound? (.ref x) "__ne__" args) Q E s := by
  simp only [callSpecialIfBound?, bindSpecialIfBound?]
  refine wpAny_holding (wpAny_bind (wpAny_bind (wpAny_bind (J.type.here ((PySem.W.looks_findIn inK hs).here ?_)))))
  refine wpAny_bind (wpAny_askSetting (wpAny_ite ?_))
  have last : wpAny (model prog w) A (call (.builtin "object.__ne__") ([.ref x] ++ args) >>= fun v => pure (some v)) Q E s := wpAny_bind (wpAny_mono h (fun v s' h' => wpAny_pure h') fun _ _ h' => h')
  split
  · exact wpAny_bind (wpAny_of_eq (PySem.F.cmp_object.ne.bind _) (wpAny_pure (by exact last)))
  · exact wpAny_tryCatch (wpAny_bind (wpAny_of_eq (PySem.F.cmp_object.ne.bind _) (wpAny_pure (by exact last))))
theorem rc_neM {tb : Value} {Q : Value → Shared → Prop} (inK : K.In s.heap) (J : PySem.W.InstAt s.heap x ox C od) (hm : PySem.W.mroIn K C (.type "object") = some true) (hn : PySem.W.findIn K (.ref C) "__ne__" = some (some (.builtin "object.__ne__")))
    (hs : PySem.W.findIn K (.ref C) "__eq__" = some (some (.ref f))) (hf : PySem.W.isFn K (.ref f) = true) (hu : A.units < cLine) (hu1 : A.in1.units < cLine) (lk : PySem.W.Looks (model prog w) s.heap (typeOf y) tb) (nf : PySem.W.notFirst K C tb = true)
    (hcall : wpAny (model prog w) A.in1 (call (.ref f) [.ref x, y]) (fun v s' => ∃ b, v = .bool b ∧ Q (.bool (!b)) s') E s) : wpAny (model prog w) A (richCompare .NotEq (.ref x) y) Q E s := by
  have one : wpAny (model prog w) A (tryCompare (.ref x) "__ne__" y) (fun r s' => ∃ v, r = some v ∧ Q v s') E s := by
    unfold tryCompare
    refine wpAny_bind (bound_ne inK J hn (wpAny_call (codeAny_call_builtin PySem.F.cmp_object.ne.plain PySem.F.cmpEntry_ne
      (PySem.W.check_slot PySem.F.cmpKind_ne PySem.F.cmpSplit_ne (J.type.andThen (PySem.W.looks_mroIn inK hm)) (PySem.F.cmpArgs_ne _ _) (objNe_by inK J hs hf hu1 (wpAny_mono hcall (fun v s' hv => ?_) fun _ _ e => e))))))
    obtain ⟨b, rfl, q⟩ := hv
    first
      | exact ⟨b, rfl, wpAny_pure ⟨_, rfl, q⟩⟩
      | exact ⟨b, rfl, wpAny_pure (wpAny_pure ⟨_, rfl, q⟩)⟩
      | exact ⟨b, rfl, ⟨_, rfl, q⟩⟩
  unfold richCompare
  simp only [oneThing_ref]
  refine wpAny_holding (wpAny_bind (wpAny_cRoomFor hu ?_))
  refine wpAny_bind (J.type.here (wpAny_bind (lk.here ?_)))
  split
  · rename_i q
    have e : PySem.W.subIn K tb (.ref C) = some false := by
      rcases Bool.or_eq_true_iff.mp nf with e | e
      · rw [beq_iff_eq.mp e] at q
        simp at q
      · exact beq_iff_eq.mp e
    refine wpAny_bind ((PySem.W.looks_subIn inK e).here ?_)
    simp only [Bool.false_eq_true, if_false]
    refine wpAny_bind (wpAny_mono one (fun r s' z => ?_) fun _ _ e => e)
    obtain ⟨v, rfl, hq⟩ := z
    exact wpAny_pure hq
  · refine wpAny_bind (wpAny_pure ?_)
    simp only [Bool.false_eq_true, if_false]
    refine wpAny_bind (wpAny_mono one (fun r s' z => ?_) fun _ _ e => e)
    obtain ⟨v, rfl, hq⟩ := z
    exact wpAny_pure hq
end
section
variable {X : Cx} {C : Addr} {k : Nat} {ps : List Str} {sp : Sp}
/-- o != y, the class having no != of its own -/
def rNeM (K : PySem.W.Frag) (C : Addr) (sp : Sp) : R2 := fun x y H Q => ∃ a dx fs t, x = .ref a ∧ H a = some (.ins C dx fs) ∧ Oth K H C y t ∧ sp [.ref a, y] H (fun v H' => ∃ b, v = .bl b ∧ Q (.bl (!b)) H') E0
theorem op_neM (c : CalM X.prog X.w X.K X.mg X.base C "__eq__" k ps sp) (hn : PySem.W.findIn X.K (.ref C) "__ne__" = some (some (.builtin "object.__ne__"))) (hm : PySem.W.mroIn X.K C (.type "object") = some true) (hr : Room (k + 1) X.A) :
    OpR X (compareOp .NotEq) (rNeM X.K C sp) := by
  intro pins s σ H x y v u Q I rx ry h
  obtain ⟨f, fd, F, me, b, _⟩ := c
  obtain ⟨a, dx, fs, t, rfl, ea, o, q⟩ := h
  obtain rfl : v = Value.ref a := rx
  obtain ⟨mA, O, _⟩ := ins_get I.hok ea
  obtain ⟨od, J, _⟩ := O.look
  obtain ⟨lk, nf⟩ := o.looks (M := model X.prog X.w) I ry
  show wpAny _ _ (richCompare .NotEq (.ref a) u) _ _ _
  refine rc_neM I.kIn J hm hn me.at_ me.fn hr.units0 hr.in1.units0 lk nf (wpAny_mono (run_below F hr.in1 rfl b I (.cons (rel_ref _) (.cons ry .nil)) q) (fun r s' z => ?_) fun _ _ e => e)
  obtain ⟨v', H', I', rv, t, rfl, q'⟩ := z
  cases rv
  exact ⟨t, rfl, .bl (!t), H', I', rfl, q'⟩
/-! ### dicts of data compared -/
/-- the pairs ks, one by one, in the dict of the pairs ls -/
inductive HitsV (K : PySem.W.Frag) (H : Hp) (ls : List (Key × V)) : List (Key × V) → Bool → Prop
  | nil : HitsV K H ls [] true
  | miss {p : Key × V} {r : List (Key × V)} (e : valV ls p.1 = none) : HitsV K H ls (p :: r) false
  | hit {p : Key × V} {r : List (Key × V)} {y : V} {d e : PyData} {b : Bool} (at_ : valV ls p.1 = some y) (hd : Dp K H p.2 d) (he : Dp K H y e) (sd : SeqAt.shaped d = true) (se : SeqAt.shaped e = true) (more : HitsV K H ls r b) : HitsV K H ls (p :: r) (PyData.eqv d e && b)
theorem HitsV.raw {pins : List (Addr × Obj)} {σ : L2.St} {H : Hp} {s : Shared} (I : Inv X pins σ H s) (hu : X.A.in1.units + 64 < cLine) {ls : List (Key × V)} {vb : List (Key × Value)} (rb : KV ls vb) {ks : List (Key × V)} {r : Bool} (h : HitsV X.K H ls ks r) :
    ∀ {va : List (Key × Value)}, KV ks va → PySem.W.KeqHits X.A.in1 s vb va r := by
  induction h with
  | nil =>
    intro va ra
    unfold KV at ra
    cases ra
    exact .nil
  | @miss p r e =>
    intro va ra
    unfold KV at ra
    cases ra with
    | @cons _ q _ qs h t =>
      obtain ⟨k, v⟩ := q
      obtain ⟨h1, h2⟩ := h
      have h1' : p.1 = k := h1
      have rr := rb.val p.1
      rw [e, h1'] at rr
      refine .miss ?_
      cases c : valueAt vb k with
      | none => rfl
      | some z => rw [c] at rr; exact rr.elim
  | @hit p r y d e b at_ hd he sd se more ih =>
    intro va ra
    unfold KV at ra
    cases ra with
    | @cons _ q _ qs h t =>
      obtain ⟨k, v⟩ := q
      obtain ⟨h1, h2⟩ := h
      have h1' : p.1 = k := h1
      have rr := rb.val p.1
      rw [at_, h1'] at rr
      obtain ⟨z, hz, rz⟩ := RelO.some_of rr
      obtain ⟨as, r1⟩ := Dp.reads I d p.2 v hd h2
      obtain ⟨bs, r2⟩ := Dp.reads I e y z he rz
      exact .hit hz (PySem.W.keq_at r1 r2 sd se hu) (ih t)
def rEqDX (K : PySem.W.Frag) : R2 := fun x y H Q => ∃ a b ks ls r, x = .ref a ∧ y = .ref b ∧ H a = some (.dK ks) ∧ H b = some (.dK ls) ∧ (ks.length = ls.length → HitsV K H ls ks r) ∧ Q (.bl (ks.length == ls.length && r)) H
theorem op_eqDX (hu : X.A.units + 66 < cLine) : OpR X (compareOp .Eq) (rEqDX X.K) := by
  intro pins s σ H x y v u Q I rx ry h
  obtain ⟨a, b, ks, ls, r, rfl, rfl, ea, eb, hits, q⟩ := h
  obtain rfl : v = Value.ref a := rx
  obtain rfl : u = Value.ref b := ry
  obtain ⟨_, ya, va, ra, da⟩ := dk_of I.hok ea
  obtain ⟨_, yb, vb, rb, db⟩ := dk_of I.hok eb
  have l1 := ra.length
  have l2 := rb.length
  have u1 : X.A.in1.units + 64 < cLine := by
    have e : X.A.in1.units ≤ X.A.units + 1 := by
      show X.A.units + 1 ≤ _
      exact Nat.le_refl _
    omega
  refine PySem.W.keq_eq (knd := mixKind X.prog X.w) (r := r) ya yb da db (by omega) (fun e => (hits (by omega)).raw I u1 rb ra) (fin_bl I q ?_)
  rw [l1, l2]
/-! ### a star before a dict -/
def tStarD (te : TE) (t : TA) : TA := fun σ H Q => te σ H fun x H1 => ∃ p kvs, x = V.ref p ∧ H1 p = some (.dK kvs) ∧ t σ H1 fun ys H2 => Q ((kvs.map fun kv => kV kv.1) ++ ys) H2
theorem star_dict {pins : List (Addr × Obj)} {σ : L2.St} {H : Hp} {s : Shared} (hc : X.calm = true) {a : Addr} {kvs : List (Key × V)} {E : Value → Shared → Prop} {Q : List Value → Shared → Prop} (I : Inv X pins σ H s) (h : H a = some (.dK kvs)) (hQ : ∀ us s', Inv X pins σ H s' → Vals (kvs.map fun kv => kV kv.1) us → Q us s') :
    PySem.W.StarOf (model X.prog X.w) X.A E (.ref a) Q s := by
  obtain ⟨z, lo, vs, rel, dd⟩ := dk_of I.hok h
  obtain ⟨ep, hat⟩ := dd.dictAt
  have hT : s.TypeIs (.ref a) "dict" := dd.typeIs
  have z2 : vs.length ≤ sizeLine := by rw [← rel.length]; exact z
  have ek : (kvs.map fun kv => kV kv.1) = vs.map fun p => kV p.1 := by
    have e := congrArg (List.map kV) rel.keys
    rw [List.map_map, List.map_map] at e
    exact e
  have g : wpAny (model X.prog X.w) X.A (collect (.ref a)) Q E s := by
    refine PySem.W.kdu_collect (PySem.W.kdl_dict (knd := mixKind X.prog X.w) (kvs := vs) (ep := ep) lo) (I.ok.hd hc) hat z2 fun h' tk acc hk hacc => ?_
    have hv : Vals (vs.map fun p => kV p.1) acc.toList := keys_at (by rw [Array.length_toList]; exact hacc.1) fun j v e => hacc.2 j v (by rw [← Array.getElem?_toList]; exact e)
    exact hQ _ _ (I.kept (t' := tk) hk) (by rw [ek]; exact hv)
  unfold PySem.W.StarOf notIterableAtAll
  exact wpAny_bind (wpAny_specialOf hT PySem.F.slot_dict_iter.lookup (wpAny_pure ⟨rfl, g⟩))
theorem pa_starD {e : Expr} {es : List Expr} {te : TE} {t : TA} {p : Pos} (hc : X.calm = true) (he : PE X e te) (hr : PA X es t) (hs : starEach (.Starred e p :: es) X.env = (true, eval e X.env) :: starEach es X.env := by rfl) : PA X (.Starred e p :: es) (tStarD te t) := by
  refine ⟨fun pos pins s σ H Q I h => ?_⟩
  refine PySem.W.items_star (thn (he.run pins s σ H _ I h) fun v s1 ⟨y, H1, I1, ry, a, kvs, ey, hx, q⟩ => ?_) hs
  subst ey
  obtain rfl : v = Value.ref a := ry
  refine star_dict hc I1 hx fun us s2 I2 rv => ?_
  exact thn (hr.run pos pins s2 σ H1 _ I2 q) fun ws s3 ⟨vs, H3, I3, r3, q3⟩ => ⟨_, H3, I3, rv.append r3, q3⟩
end
end Gx

set_option maxRecDepth 100000
set_option maxHeartbeats 4000000
namespace Gx
open PySem PySem.Spec PyProof.Rows L2
/-! ### classes of the top: methods, properties, making -/
theorem fn_in {K : PySem.W.Frag} {f : Addr} {oc : Value} {od : Option Addr} {fd : FuncData} {sl : Array (Option Value)} (l : K.lookup f = some ⟨oc, od, .func fd, sl⟩) : PySem.W.fnIn K f = true := by
  unfold PySem.W.fnIn
  rw [l]
/-- the class at C has the def st as its property m -/
def PropD (K : PySem.W.Frag) (C : Addr) (m qual : Str) (st : Stmt) : Prop := ∃ (p f : Addr) (fd : FuncData), PropOf K C m p f ∧ Fun K m qual st f fd ∧ Binds K fd ["self"] []
/-- .. as its method m -/
def DefM (K : PySem.W.Frag) (C : Addr) (m qual : Str) (st : Stmt) (ps : List Str) : Prop := ∃ (f : Addr) (fd : FuncData), Fun K m qual st f fd ∧ Meth K C m f ∧ Binds K fd ps [] ∧ PySem.W.fnIn K f = true
/-- a property that keeps the promise sp -/
def CalP (P : Program) (w : World) (K : PySem.W.Frag) (mg : Str → Option Value) (base : Heap) (C : Addr) (m : Str) (k : Nat) (sp : Sp) : Prop :=
  ∃ (p f : Addr) (fd : FuncData), PropOf K C m p f ∧ FnOk P w K mg base CX0 k f fd ["self"] sp ∧ Binds K fd ["self"] []
/-- C(..) by its __init__'s promise -/
def CalI (P : Program) (w : World) (K : PySem.W.Frag) (mg : Str → Option Value) (base : Heap) (C : Addr) (k : Nat) (ps : List Str) (sp : Sp) : Prop :=
  ∃ (f : Addr) (fd : FuncData), Mk K C f ∧ FnOk P w K mg base CX0 k f fd ps sp ∧ Binds K fd ps []
section
variable {P : Program} {w : World} {K : PySem.W.Frag} {mg : Str → Option Value} {base : Heap} {C : Addr} {m qual : Str} {st : Stmt} {k : Nat} {ps : List Str} {sp : Sp}
theorem DefM.cal (d : DefM K C m qual st ps) (h : ∀ f fd, Fun K m qual st f fd → FnOk P w K mg base CX0 k f fd ps sp) : CalM P w K mg base C m k ps sp := by
  obtain ⟨f, fd, F, me, b, fi⟩ := d
  exact ⟨f, fd, h f fd F, me, b, fi⟩
theorem PropD.cal (d : PropD K C m qual st) (h : ∀ f fd, Fun K m qual st f fd → FnOk P w K mg base CX0 k f fd ["self"] sp) : CalP P w K mg base C m k sp := by
  obtain ⟨p, f, fd, pr, F, b⟩ := d
  exact ⟨p, f, fd, pr, h f fd F, b⟩
theorem CalP.mono {j : Nat} (c : CalP P w K mg base C m j sp) (h : j ≤ k) : CalP P w K mg base C m k sp := by
  obtain ⟨p, f, fd, pr, F, b⟩ := c
  exact ⟨p, f, fd, pr, F.mono h, b⟩
theorem CalI.mono {j : Nat} (c : CalI P w K mg base C j ps sp) (h : j ≤ k) : CalI P w K mg base C k ps sp := by
  obtain ⟨f, fd, M, F, b⟩ := c
  exact ⟨f, fd, M, F.mono h, b⟩
end
section
variable {X : Cx} {C : Addr} {m x : Str} {k : Nat} {ps : List Str} {sp : Sp} {ta : TE} {t : TA} {o e : Expr} {es : List Expr} {pos apos p : Pos}
/-- o.m, a property -/
def tPropC (C : Addr) (sp : Sp) (ta : TE) : TE := fun σ H Q => ta σ H fun x H1 => ∃ a dx fs, x = .ref a ∧ H1 a = some (.ins C dx fs) ∧ sp [.ref a] H1 Q E0
theorem pe_propC (he : PE X o ta) (cl : Cls X.K C) (c : CalP X.prog X.w X.K X.mg X.base C m k sp) (hr : Room (k + 1) X.A) (hab : attributeBase o m X.env (eval o X.env) = eval o X.env := by rfl) : PE X (.Attribute o m pos) (tPropC C sp ta) := by
  obtain ⟨p, f, fd, pr, F, b⟩ := c
  have h := pe_prop (pos := pos) (E := E0) he cl pr F hr b .nil pass0 hab
  exact h
/-- o.m(..) -/
def tMethC (C : Addr) (m : Str) (sp : Sp) (ta : TE) (t : TA) : TE := fun σ H Q => ta σ H fun x H1 => ∃ a dx fs, x = .ref a ∧ H1 a = some (.ins C dx fs) ∧ fs.lookup m = none ∧ t σ H1 fun vs H2 => sp (x :: vs) H2 Q E0
theorem tMethC_eq : tMeth C m sp [] E0 ta t = tMethC C m sp ta t := by
  funext σ H Q
  show ta σ H _ = ta σ H _
  congr 1
  funext x H1
  simp only [List.append_nil]
theorem pe_methC {pl : Sem Bool} (he : PE X o ta) (cl : Cls X.K C) (c : CalM X.prog X.w X.K X.mg X.base C m k ps sp) (hr : Room k X.A) (ha : PA X (e :: es) t)
    (hst : starEach (e :: es) X.env = (false, eval e X.env) :: starEach es X.env := by rfl) (hpl : (backTo pos (starEach es X.env)).any (·.1) = false := by rfl)
    (ht : eval (.Call (.Attribute o m apos) (e :: es) [] pos) X.env = (do
      let ov ← eval o X.env
      standAt apos.atName
      let (f, first) ← holding [ov] (getMethod ov m pl)
      callWith pos f first (backTo pos (starEach (e :: es) X.env)) (backToKw pos (keywordEach [] X.env))) := by rfl) :
    PE X (.Call (.Attribute o m apos) (e :: es) [] pos) (tMethC C m sp ta t) := by
  obtain ⟨f, fd, F, me, b, fi⟩ := c
  rw [← tMethC_eq]
  exact pe_meth (pl := pl) he cl me F hr b .nil pass0 ha hst hpl ht
/-- C(..) -/
def tMakeC (C : Addr) (sp : Sp) (t : TA) : TE := fun σ H Q => t σ H fun vs H1 => ∀ x dx, H1 x = none → H1 dx = none → dx ≠ x →
  sp (.ref x :: vs) (upd (upd H1 dx (.own x)) x (.ins C dx [])) (fun v H2 => v = .non ∧ Q (.ref x) H2) E0
theorem tMakeC_eq : tMake C sp [] E0 t = tMakeC C sp t := by
  funext σ H Q
  show t σ H _ = t σ H _
  congr 1
  funext vs H1
  simp only [List.append_nil]
theorem pe_makeC (c : CalI X.prog X.w X.K X.mg X.base C k ps sp) (hr : Room (k + 1) X.A) (hg : Gl X x) (hm : X.mg x = some (.ref C)) (ha : PA X (e :: es) t)
    (hdb : (x == ("__debug__" : Str)) = false := by decide) (he : starEach (e :: es) X.env = (false, eval e X.env) :: starEach es X.env := by rfl) (hpl : (backTo pos (starEach es X.env)).any (·.1) = false := by rfl) :
    PE X (.Call (.Name x p) (e :: es) [] pos) (tMakeC C sp t) := by
  obtain ⟨f, fd, M, F, b⟩ := c
  rw [← tMakeC_eq]
  exact pe_make M F hr hg hm b .nil pass0 ha hdb he hpl
end
/-! ### dicts walked under their lock -/
theorem same_lock {H : Hp} {d : Addr} {u : HO} {o : Obj} (e : H d = some u) {b : Addr} {ob : HO} (n : b ≠ d) (h : H b = some ob) : upd H d (.frz o u) b = some ob := by
  rw [upd_ne n]
  exact h
theorem same_unlock {H H' : Hp} {d : Addr} {u : HO} {o : Obj} (e : H d = some u) (s : Same (upd H d (.frz o u)) H') : Same H (upd H' d u) := by
  intro b ob h
  by_cases n : b = d
  · subst n
    rw [upd_same]
    exact e.symm.trans h
  · rw [upd_ne n]
    exact s b ob (by rw [upd_ne n]; exact h)
end Gx

set_option maxRecDepth 100000
set_option maxHeartbeats 4000000
namespace Gx
open PySem PySem.Spec PyProof.Rows L2
/-! ### sets of texts: set(list), sorted(set) -/
/-- a member's text -/
def txE (m : Int × Value) : Str :=
  match m.2 with
  | .str z _ => z
  | _ => Str.empty
def TxE (P : Program) (w : World) (m : Int × Value) : Prop := ∃ z tk, m.2 = Value.str z tk ∧ m.1 = (PySem.strKind P w).hash z
/-- at a stands the set of the texts of L, some of which may be there twice; its table can be walked -/
def SetX (P : Program) (w : World) (h : Heap) (a : Addr) (L : List Str) : Prop :=
  ∃ ob ms ep tb, h.get? a = some ob ∧ ob.ExactSet ∧ ob.data = .set ms ep tb ∧ (∀ m ∈ ms.toList, TxE P w m) ∧ (ms.toList.map txE).Nodup ∧ (∀ z, z ∈ L ↔ z ∈ ms.toList.map txE) ∧
    ms.size < scanBound ∧ tb.fits ms.size = true ∧ ms.size ≤ L.length ∧ Ris tb.place.toList ∧ (w.params.followText "set-order" = true ∨ tb.led = true)
section
variable {P : Program} {w : World} {h h' : Heap} {a : Addr} {L : List Str}
theorem SetX.at (R : SetX P w h a L) (k : ∀ o, h.get? a = some o → h'.get? a = some o) : SetX P w h' a L := by
  obtain ⟨ob, ms, ep, tb, here, more⟩ := R
  exact ⟨ob, ms, ep, tb, k ob here, more⟩
theorem SetX.same {L' : List Str} (R : SetX P w h a L) (e : ∀ z, z ∈ L' ↔ z ∈ L) (hl : L.length ≤ L'.length) : SetX P w h a L' := by
  obtain ⟨ob, ms, ep, tb, here, ex, dt, gd, nd, mem, bd, ft, le, more⟩ := R
  exact ⟨ob, ms, ep, tb, here, ex, dt, gd, nd, fun z => (e z).trans (mem z), bd, ft, Nat.le_trans le hl, more⟩
theorem tx_elems {l : List (Int × Value)} (gd : ∀ m ∈ l, TxE P w m) : ElemsOf (PySem.strKind P w) l := by
  intro m hm
  obtain ⟨z, tk, e1, e2⟩ := gd m hm
  refine ⟨⟨z, ?_, e2⟩, ?_⟩
  · rw [e1]
    exact strKind_is P w z tk
  · rw [e1]
    rfl
theorem tx_is {m : Int × Value} (gd : TxE P w m) (z : Str) : (PySem.strKind P w).is z m.2 = true ↔ txE m = z := by
  obtain ⟨y, tk, e1, _⟩ := gd
  have e3 : txE m = y := by unfold txE; rw [e1]
  rw [e3, e1]
  constructor
  · intro q
    obtain ⟨t, q⟩ := Value.isStrOf_shape (show Value.isStrOf z (.str y tk) = true from q)
    cases q
    rfl
  · rintro rfl
    exact strKind_is P w y tk
theorem tx_mem {l : List (Int × Value)} (gd : ∀ m ∈ l, TxE P w m) (z : Str) : z ∈ l.map txE ↔ ∃ m ∈ l, (PySem.strKind P w).is z m.2 = true := by
  rw [List.mem_map]
  exact ⟨fun ⟨m, hm, q⟩ => ⟨m, hm, (tx_is (gd m hm) z).2 q⟩, fun ⟨m, hm, q⟩ => ⟨m, hm, (tx_is (gd m hm) z).1 q⟩⟩
end
section
variable {P : Program} {w : World} {A : Around} {E : Value → Shared → Prop} {s : Shared} {a : Addr} {L : List Str}
/-! ### one text more -/
theorem setX_tail {g : Bool → Sem Unit} (hg : ∀ (b : Bool) (s₁ : Shared) (Q' : Unit → Shared → Prop), Q' () s₁ → wpAny (model P w) A (g b) Q' E s₁)
    {ob : Obj} {ms : Array (Int × Value)} {ep : Nat} {tb : SetTable} (here : s.heap.get? a = some ob) (ex : ob.ExactSet) (dt : ob.data = .set ms ep tb)
    {ms1 : Array (Int × Value)} {tb2 : SetTable} {L' : List Str} (g1 : ∀ m ∈ ms1.toList, TxE P w m) (nd1 : (ms1.toList.map txE).Nodup) (m1 : ∀ z, z ∈ L' ↔ z ∈ ms1.toList.map txE)
    (bd1 : ms1.size < scanBound) (ft2 : tb2.fits ms1.size = true) (le1 : ms1.size ≤ L'.length) (ri : Ris tb2.place.toList) (ld : w.params.followText "set-order" = true ∨ tb2.led = true) {dummy : Bool} {R : Option Bool → Shared → Prop}
    (hR : ∀ h', Heap.SameBut a s.heap h' → SetX P w h' a L' → R (some true) { s with heap := h' }) :
    wpAny (model P w) A (do
        storeSet a ms1 tb2
        if (!dummy && tb2.tooFull) = true then do
            g (relayAll tb2 ms1 (SetTable.grown ms1.size)).2.2
            storeSet a (relayAll tb2 ms1 (SetTable.grown ms1.size)).1 (relayAll tb2 ms1 (SetTable.grown ms1.size)).2.1
            pure (some true)
          else pure (some true)) R E s := by
  refine wpAny_bind (wpAny_storeSet_of here dt ?_ (fits_of_scanBound bd1))
  have at1 := store_at (es' := ms1) (t' := tb2) here dt
  have but1 := Heap.SameBut.update s.heap a (Obj.putSet ms1 tb2)
  split
  · have perm2 := relayAll_perm tb2 ms1 (SetTable.grown ms1.size)
    have ft3 := relayAll_fits tb2 ms1 (SetTable.grown ms1.size)
    have ri3 := relayAll_ris tb2 ms1 (SetTable.grown ms1.size)
    have ld3 := relayAll_led tb2 ms1 (SetTable.grown ms1.size)
    generalize relayAll tb2 ms1 (SetTable.grown ms1.size) = laid at perm2 ft3 ri3 ld3 ⊢
    obtain ⟨ms2, tb3, gave⟩ := laid
    dsimp only at perm2 ft3 ri3 ld3 ⊢
    have sz2 : ms2.size = ms1.size := by rw [← Array.length_toList, perm2.length_eq, Array.length_toList]
    have bd2 : ms2.size < scanBound := sz2 ▸ bd1
    refine wpAny_bind (hg _ _ _ ?_)
    refine wpAny_bind (wpAny_storeSet_of at1 rfl ?_ (fits_of_scanBound bd2))
    have at2 := store_at (es' := ms2) (t' := tb3) at1 rfl
    refine wpAny_pure (hR _ (but1.trans (Heap.SameBut.update _ a _)) ⟨_, ms2, _, tb3, at2, ex, rfl, fun m hm => g1 m (perm2.mem_iff.mp hm), (perm2.map txE).nodup_iff.mpr nd1, fun z => (m1 z).trans (perm2.map txE).mem_iff.symm, bd2, ?_, by rw [sz2]; exact le1, ri3, ?_⟩)
    · exact ft3
    · exact ld.imp id fun z => by rw [ld3]; exact z
  · exact wpAny_pure (hR _ but1 ⟨_, ms1, _, tb2, at1, ex, rfl, g1, nd1, m1, bd1, ft2, le1, ri, ld⟩)
theorem setX_add {z : Str} {tk : Tok} {Q : Bool → Shared → Prop} (R : SetX P w s.heap a L) (room : L.length + 1 < scanBound)
    (hQ : ∀ h' b, Heap.SameBut a s.heap h' → SetX P w h' a (L ++ [z]) → Q b { s with heap := h' }) :
    wpAny (model P w) A (setAddHashed a (.str z tk) ((PySem.strKind P w).hash z)) Q E s := by
  obtain ⟨ob, ms, ep, tb, here, ex, dt, gd, nd, mem, bd, ft, le, ri, ld⟩ := R
  have isz : (PySem.strKind P w).is z (.str z tk) = true := strKind_is P w z tk
  have scz : (Value.str z tk).scannable = true := rfl
  have els : ElemsOf (PySem.strKind P w) ms.toList := tx_elems gd
  unfold setAddHashed setAddHashedIn
  refine wpAny_holding (wpAny_bind (wpAny_setState_of here dt ft ?_))
  dsimp only
  rw [byScan_of scz bd els]
  simp only [↓reduceIte]
  unfold setAddByScan
  refine wpAny_bind ?_
  refine wpAny_bind (wpAny_rule ?_)
  refine wpAny_bind (wpAny_setScan_of isz here dt ft els ?_)
  cases hfi : List.findIdx? (fun m => (PySem.strKind P w).is z m.2) ms.toList with
  | some j =>
    dsimp only
    obtain ⟨hj, pj, _⟩ := List.findIdx?_eq_some_iff_getElem.mp hfi
    have inL : z ∈ L := (mem z).2 ((tx_mem (P := P) (w := w) gd z).2 ⟨ms.toList[j], List.getElem_mem hj, pj⟩)
    refine wpAny_pure (wpAny_pure ?_)
    refine hQ s.heap _ (Heap.SameBut.refl a s.heap) ⟨ob, ms, ep, tb, here, ex, dt, gd, nd, fun y => ?_, bd, ft, by rw [List.length_append]; omega, ri, ld⟩
    rw [← mem y, List.mem_append, List.mem_singleton]
    exact ⟨fun q => q.elim id fun e => e ▸ inL, .inl⟩
  | none =>
    dsimp only
    have notIn : z ∉ ms.toList.map txE := by
      intro q
      obtain ⟨m, hm, q⟩ := (tx_mem (P := P) (w := w) gd z).1 q
      have c := List.findIdx?_eq_none_iff.mp hfi m hm
      rw [q] at c
      cases c
    have way : ∀ (b : Bool) {s₁ : Shared} {Q' : Unit → Shared → Prop}, Q' () s₁ → wpAny (model P w) A (match b with | true => rule "set.scan.the-table-gave-way" | false => pure ()) Q' E s₁ := by
      intro b s₁ Q' q
      cases b
      · exact wpAny_pure q
      · exact wpAny_rule q
    have perm1 := layNew_perm tb ms ((PySem.strKind P w).hash z) (.str z tk)
    have ft1 := layNew_fits tb ms ((PySem.strKind P w).hash z) (.str z tk)
    have ri1 := layNew_ris tb ms ((PySem.strKind P w).hash z) (.str z tk) ri
    have ld1 := layNew_led tb ms ((PySem.strKind P w).hash z) (.str z tk)
    generalize layNew tb ms ((PySem.strKind P w).hash z) (.str z tk) = laid at perm1 ft1 ri1 ld1 ⊢
    obtain ⟨ms1, tb1, dummy, gave⟩ := laid
    dsimp only at perm1 ft1 ri1 ld1 ⊢
    rw [Array.toList_push] at perm1
    have permC : ms1.toList.Perm (((PySem.strKind P w).hash z, Value.str z tk) :: ms.toList) := perm1.trans (List.perm_append_singleton _ _)
    have permK : (ms1.toList.map txE).Perm (z :: ms.toList.map txE) := permC.map txE
    have g1 : ∀ m ∈ ms1.toList, TxE P w m := by
      intro m hm
      rcases List.mem_cons.mp (permC.mem_iff.mp hm) with q | q
      · rw [q]
        exact ⟨z, tk, rfl, rfl⟩
      · exact gd m q
    have nd1 : (ms1.toList.map txE).Nodup := permK.nodup_iff.mpr (List.nodup_cons.mpr ⟨notIn, nd⟩)
    have m1 : ∀ y, y ∈ L ++ [z] ↔ y ∈ ms1.toList.map txE := by
      intro y
      rw [List.mem_append, List.mem_singleton, mem y, permK.mem_iff, List.mem_cons]
      exact Or.comm
    have sz1 : ms1.size = ms.size + 1 := by rw [← Array.length_toList, permC.length_eq, List.length_cons, Array.length_toList]
    have bd1 : ms1.size < scanBound := by omega
    have le1 : ms1.size ≤ (L ++ [z]).length := by rw [List.length_append, List.length_singleton]; omega
    have led1 : w.params.followText "set-order" = true ∨ tb1.led = true := ld.imp id fun q => by rw [ld1]; exact q
    refine wpAny_bind (way _ ?_)
    split
    · refine wpAny_bind ?_
      rw [hashByValue_scannable 8 scz]
      refine wpAny_pure ?_
      refine setX_tail ?_ here ex dt g1 nd1 m1 bd1 ?_ le1 ?_ ?_ ?_
      · intro b s₁ Q' q
        cases b <;> first | exact wpAny_pure q | exact wpAny_rule q
      · first | (split <;> first | exact ft1 | exact SetTable.fits_plain_off ft1) | exact ft1
      · first | (split <;> exact ri1) | exact ri1
      · first | (split <;> exact led1) | exact led1
      · intro h' sb r
        dsimp only
        exact wpAny_pure (hQ h' _ sb r)
    · refine wpAny_bind (wpAny_pure ?_)
      simp only [↓reduceIte]
      refine setX_tail ?_ here ex dt g1 nd1 m1 bd1 ft1 le1 ri1 led1 ?_
      · intro b s₁ Q' q
        cases b <;> first | exact wpAny_pure q | exact wpAny_rule q
      · intro h' sb r
        dsimp only
        exact wpAny_pure (hQ h' _ sb r)
end
/-- the texts of a list of values, by place -/
theorem texts_at : ∀ {us : List Value} {xs : List Str}, StrsAre us xs → ∀ (i : Nat) (v : Value), us[i]? = some v → ∃ x t, xs[i]? = some x ∧ v = .str x t
  | _, _, .nil, i, v, h => by cases h
  | _, _, .cons n t r, 0, v, h => by
    cases h
    exact ⟨n, t, rfl, rfl⟩
  | _, _, .cons n t r, i + 1, v, h => texts_at r i v h
section
variable {prog : Program} {w : World} {A : Around} {R : Result → Shared → Prop} {I : Addr} {fp wr : List Addr} {G : Array GenState → Array GenState → Prop} {n : Nat} {P : Nat → Value → Prop} {St : Nat → Shared → Prop}
/-- all texts of an iterator put into the set at S -/
theorem setX_loop (W : WalksS prog w A.in1 I fp wr G n P St) (S : Addr) (off : S ∉ fp) (xs : List Str) (len : xs.length = n) (few : n + 1 < scanBound)
    (val : ∀ i v, P i v → ∃ x t, xs[i]? = some x ∧ v = .str x t) : ∀ (k i : Nat) (s : Shared), n - i = k → i ≤ n → St i s → SetX prog w s.heap S (xs.take i) →
      (∀ s', Moved (S :: wr) G s s' → SetX prog w s'.heap S xs → R (.ok (.ret .none)) s') →
      codeAny (model prog w) A (.builtin "set.update.loop" ⟨[.ref S, .ref I], []⟩) R s := by
  have offW : S ∉ wr := fun z => off (W.sub _ z)
  have sub : ∀ b ∈ wr, b ∈ S :: wr := fun b hb => List.mem_cons_of_mem _ hb
  intro k
  induction k with
  | zero =>
    intro i s hk hi st hS hR
    obtain rfl : i = n := by omega
    rw [← len, List.take_length] at hS
    refine codeAny_builtin PyProof.Rows.F.entry_set_update_loop ?_
    rw [Around.under_plainId PyProof.Rows.F.plain_set_update_loop _]
    show wpAny _ A.in1 (pyNext (.ref I) >>= _) _ _ s
    refine wpAny_bind (W.done s _ _ st fun s' mv => ?_)
    show wpAny _ A.in1 (ret Value.none) _ _ s'
    exact wpAny_pure (hR s' (mv.mono sub) (hS.at fun o e => mv.heap S _ offW e))
  | succ k ih =>
    intro i s hk hi st hS hR
    have lt : i < n := by omega
    refine codeAny_builtin PyProof.Rows.F.entry_set_update_loop ?_
    rw [Around.under_plainId PyProof.Rows.F.plain_set_update_loop _]
    show wpAny _ A.in1 (pyNext (.ref I) >>= _) _ _ s
    refine wpAny_bind (W.item i s _ _ lt st fun v s' hP st' mv => ?_)
    obtain ⟨x, t, hx, rfl⟩ := val i v hP
    have hS' : SetX prog w s'.heap S (xs.take i) := hS.at fun o e => mv.heap S _ offW e
    show wpAny _ A.in1 (holding [Value.str x t] (setAdd S (.str x t)) >>= _) _ _ s'
    refine wpAny_bind (wpAny_holding ?_)
    unfold setAdd
    refine wpAny_holding ?_
    refine wpAny_bind ((PySem.strKind prog w).pyHash (k := x) (strKind_is _ _ _ _) ?_)
    refine setX_add (s := { s' with toks := s'.toks + 1 }) hS' (by rw [List.length_take]; omega) fun h' b sb hS2 => ?_
    have hS3 : SetX prog w h' S (xs.take (i + 1)) := by
      have e : xs.take (i + 1) = xs.take i ++ [x] := by rw [List.take_add_one, hx]; rfl
      rw [e]
      exact hS2
    refine wpAny_pure ⟨plainId_quiet PyProof.Rows.F.plain_set_update_loop _, ih (i + 1) _ (by omega) lt (W.frame _ s' _ _ st' (Nat.le_succ _) fun b hb o e => ?_) hS3 fun s'' mv2 hS4 => ?_⟩
    · rw [sb.2 b (fun z : b = S => off (z ▸ hb))]
      exact e
    · refine hR s'' (Moved.trans W.gtrans ((mv.mono sub).then_heap (Nat.le_succ _) fun b o hb e => ?_) mv2) hS4
      rw [sb.2 b (fun z : b = S => hb (by rw [z]; exact List.mem_cons_self))]
      exact e
end
section
variable {P : Program} {w : World} {A : Around} {E : Value → Shared → Prop} {s : Shared}
theorem code_setX {x : Value} {Q₁ : Value → Shared → Prop}
    (h : Q₁ (.ref s.heap.objs.size) { s with heap := s.heap.push { cls := .type "set", dict := none, data := .set #[] 0 (.fresh 0 0 (!w.params.followText "set-order")) } }) :
    codeAny (model P w) A (.call (.builtin "set.__new__") ⟨[.type "set", x], []⟩) (wants Q₁ E) s := by
  refine codeAny_of_tree ?_
  show wpAny _ A.in1 (do checkBuiltinCall "set.__new__" ⟨[.type "set", x], []⟩; again (.builtin "set.__new__" ⟨[.type "set", x], []⟩)) _ _ s
  refine wpAny_bind (wpAny_of_eq (PySem.F.newCall_set_1 x) (wpAny_pure ⟨plainId_quiet F.plain_set_new _, codeAny_builtin F.entry_set_new ?_⟩))
  rw [Around.under_plainId F.plain_set_new _]
  unfold Builtin.«set.__new__» Builtin.Frozenset.newClass
  have hsub := sub_set_self
  obtain ⟨hp, g, d, tk, os⟩ := s
  dsimp only
  wp_walk
  refine wpAny_askSetting (wpAny_pure ?_)
  dsimp only
  simp only [newObj]
  exact wpAny_bind (wpAny_alloc (wpAny_pure (wpAny_pure h)))
theorem setX_fresh {h : Heap} : SetX P w (h.push { cls := .type "set", dict := none, data := .set #[] 0 (.fresh 0 0 (!w.params.followText "set-order")) }) h.objs.size [] := by
  refine ⟨_, #[], 0, _, Heap.get?_push_size _ rfl, ⟨rfl, rfl, rfl⟩, rfl, (fun m hm => by simp at hm), (by simp), (fun z => by simp), (by decide), (by rfl), (Nat.zero_le _), List.Pairwise.nil, ?_⟩
  show _ ∨ (!w.params.followText "set-order") = true
  cases w.params.followText "set-order"
  · exact .inr rfl
  · exact .inl rfl
set_option maxHeartbeats 6400000 in
/-- set(list of texts) -/
theorem call_setX {l : Addr} {items : Array Value} {xs : List Str} {Q : Value → Shared → Prop} (hh : A.handled = none) (hl : s.heap.IsList l items) (hi : StrsAre items.toList xs) (few : xs.length + 1 < scanBound)
    (h : ∀ (h' : Heap) (tk : Nat), SetX P w h' s.heap.objs.size xs → (∀ b o, b < s.heap.objs.size → s.heap.get? b = some o → h'.get? b = some o) → Q (.ref s.heap.objs.size) { s with heap := h', toks := tk }) :
    wpAny (model P w) A (call (.type "set") [.ref l]) Q E s := by
  obtain ⟨c, tl, hmro⟩ := PySem.F.called_set.mro
  have hmade := PySem.F.called_set.made
  have hsub := PySem.F.called_set.sub
  refine wpAny_call (codeAny_of_tree ?_)
  show wpAny _ _ (callAny (.type "set") _) _ _ _
  refine wpAny_pure ⟨Code.quiet_builtin _ (by decide +kernel), codeAny_builtin PySem.F.entry_type_call ?_⟩
  rw [Around.under_plain (weight_type_call_type "set" [.ref l] []) rfl]
  have h1 := PySem.F.called_set.notType
  have h2 := PySem.F.called_set.canCreate
  have hct := PySem.F.typeCall_set_1 (.ref l)
  repeat (any_goals (first | assumption | wp_step))
  have R0 : SetX P w (s.heap.push { cls := .type "set", dict := none, data := .set #[] 0 (.fresh 0 0 (!w.params.followText "set-order")) }) s.heap.objs.size [] := setX_fresh
  refine codeAny_mono (code_setX (x := .ref l) (E := E) (Q₁ := fun obj s₁ => obj = .ref s.heap.objs.size ∧ s₁ = { s with heap := s.heap.push { cls := .type "set", dict := none, data := .set #[] 0 (.fresh 0 0 (!w.params.followText "set-order")) } }) ⟨rfl, rfl⟩) fun r s₁ hr => ?_
  have hS : (s.heap.push { cls := .type "set", dict := none, data := .set #[] 0 (.fresh 0 0 (!w.params.followText "set-order")) }).get? s.heap.objs.size = some { cls := .type "set", dict := none, data := .set #[] 0 (.fresh 0 0 (!w.params.followText "set-order")) } := Heap.get?_push_size _ rfl
  cases r with
  | error e => exact hr
  | ok fl =>
    cases fl with
    | ret obj =>
      obtain ⟨rfl, rfl⟩ := hr
      have hT : Shared.TypeIs { s with heap := s.heap.push ({ cls := .type "set", dict := none, data := .set #[] 0 (.fresh 0 0 (!w.params.followText "set-order")) } : Obj) } (.ref s.heap.objs.size) "set" := ⟨_, hS, rfl⟩
      have hli := PySem.F.called_set.init.lookup
      have hbi := PySem.F.called_set.init.bind (.ref s.heap.objs.size)
      repeat (any_goals (first | assumption | wp_step))
      refine codeAny_mono (codeAny_call_builtin (R := wants (fun r s₂ => r = .none ∧ ∃ h' tk, s₂ = { s with heap := h', toks := tk } ∧ SetX P w h' s.heap.objs.size xs ∧
          (∀ b o, b < s.heap.objs.size → s.heap.get? b = some o → h'.get? b = some o)) E) PySem.F.called_set.init.plain PySem.F.entry_set_init (check_set_init_1 hT ?_)) fun r₂ s₂ hr₂ => ?_
      · obtain ⟨ol, hol, hcl, nl, hdl⟩ := hl
        obtain ⟨ocls, odict, odata, oslots⟩ := ol
        simp only at hcl hdl
        subst hcl; subst hdl
        have hol' : (s.heap.push ({ cls := .type "set", dict := none, data := .set #[] 0 (.fresh 0 0 (!w.params.followText "set-order")) } : Obj)).get? l = some { cls := .type "list", dict := odict, data := .seq items nl, slots := oslots } := Heap.get?_push_of_some _ hol
        have hsls := PySem.F.sub_list_set
        have hslf := PySem.F.sub_list_frozenset
        have hne : (Value.type "list" == Value.type "dict") = false := by decide
        have hl1 : (s.heap.push ({ cls := .type "set", dict := none, data := .set #[] 0 (.fresh 0 0 (!w.params.followText "set-order")) } : Obj)).IsList l items := ⟨_, hol', rfl, nl, rfl⟩
        unfold Builtin.«set.__init__» noKeywords Builtin.Frozenset.updateFrom
        generalize hPI : pyIter = PI
        wp_walk
        subst hPI
        refine wpAny_pyIter_list hl1 ?_
        refine wpAny_bind (wpAny_runValue ?_)
        have hlS : l < s.heap.objs.size := Heap.lt_size hol
        have hh3 : A.in1.in1.in1.handled = none := by simp [hh]
        have szp : (s.heap.push ({ cls := .type "set", dict := none, data := .set #[] 0 (.fresh 0 0 (!w.params.followText "set-order")) } : Obj)).objs.size = s.heap.objs.size + 1 := Heap.size_push _ _
        have hneI : l ≠ (s.heap.push ({ cls := .type "set", dict := none, data := .set #[] 0 (.fresh 0 0 (!w.params.followText "set-order")) } : Obj)).objs.size := by rw [szp]; exact Nat.ne_of_lt (Nat.lt_succ_of_lt hlS)
        have hSf : s.heap.objs.size ∉ [(s.heap.push ({ cls := .type "set", dict := none, data := .set #[] 0 (.fresh 0 0 (!w.params.followText "set-order")) } : Obj)).objs.size, l] := by
          rw [szp]
          simp only [List.mem_cons, List.not_mem_nil, or_false, not_or]
          exact ⟨Nat.ne_of_lt (Nat.lt_succ_self _), Nat.ne_of_gt hlS⟩
        have hsz : xs.length = items.size := by rw [← StrsAre.len_eq hi, Array.length_toList]
        refine setX_loop ((Walks.list hh3 _ l hneI items).toS) s.heap.objs.size hSf xs hsz (by rw [← hsz]; exact few) (fun i v hv => texts_at hi i v (by rw [Array.getElem?_toList]; exact hv))
          (items.size - 0) 0 _ (by omega) (Nat.zero_le _) ⟨⟨_, Heap.get?_push_size _ rfl, rfl, rfl⟩, (hl1.push _)⟩ ?hS0 ?hR
        case hS0 => exact R0.at fun o e => Heap.get?_push_of_some _ e
        case hR =>
          intro s' hm hS'
          obtain ⟨h', g', d', tk', os'⟩ := s'
          obtain rfl : g' = s.gens := hm.gens
          obtain rfl : d' = s.drawn := hm.drawn
          obtain rfl : os' = s.os := hm.os
          show wpAny _ _ _ _ _ _
          refine wpAny_pure ?_
          show wpAny _ _ (ret Value.none) _ _ _
          refine wpAny_pure ⟨rfl, h', tk', rfl, hS', fun b o hb e => hm.heap b o ?_ (Heap.get?_push_of_some _ (Heap.get?_push_of_some _ e))⟩
          rw [szp]
          simp only [List.mem_cons, List.not_mem_nil, or_false, not_or]
          exact ⟨Nat.ne_of_lt hb, Nat.ne_of_lt (Nat.lt_succ_of_lt hb)⟩
      · cases r₂ with
        | error e => exact hr₂
        | ok fl₂ =>
          cases fl₂ with
          | ret r =>
            obtain ⟨rfl, h', tk, rfl, hS', hk'⟩ := hr₂
            repeat (any_goals (first | assumption | wp_step))
            exact h _ _ hS' hk'
          | _ => exact hr₂.elim
    | _ => exact hr.elim
theorem strs_of : ∀ (l : List Value), (∀ v ∈ l, ∃ z tk, v = Value.str z tk) → ∃ xs, StrsAre l xs ∧ xs = l.map fun v => txE (0, v)
  | [], _ => ⟨[], .nil, rfl⟩
  | v :: l, h => by
    obtain ⟨z, tk, rfl⟩ := h v List.mem_cons_self
    obtain ⟨xs, h1, rfl⟩ := strs_of l fun u hu => h u (List.mem_cons_of_mem _ hu)
    exact ⟨_, .cons z tk h1, rfl⟩
/-- sorted(set of texts) -/
theorem sorted_setX {a : Addr} {L : List Str} {Q : Value → Shared → Prop} (R : SetX P w s.heap a L) (hh : A.handled = none)
    (hQ : ∀ s' p (out : Array Value) (c : Nat) (ys : List Str), (∀ b o, s.heap.get? b = some o → s'.heap.get? b = some o) → s'.gens = s.gens → s'.os = s.os → s.heap.objs.size ≤ p →
      s'.heap.get? p = some (seqObj "list" out c) → StrsAre out.toList ys → sortedS ys = true → ys.Nodup → (∀ z, z ∈ ys ↔ z ∈ L) → Q (.ref p) s') :
    wpAny (model P w) A (call (.builtin "sorted") [.ref a]) Q E s := by
  obtain ⟨ob, ms, ep, tb, here, ex, dt, gd, nd, mem, bd, ft, le, ri, ld⟩ := R
  refine Calls.call_function_entry kind_sorted plain_sorted entry_sorted (args_sorted1 _) ?_
  unfold Builtin.«sorted»
  refine wpAny_bind (m := checkCount "sorted" 1 1 _) (wpAny_pure ?_)
  refine wpAny_bind (collect_set (A := A.in1) hh ⟨ob, here, ex.1, dt⟩ ft bd ri ld fun s1 vs k1 hz g1 o1 pm => ?_)
  have lenV : vs.length = ms.size := by rw [pm.length_eq, List.length_map, Array.length_toList]
  obtain ⟨xs, hS, exs⟩ := strs_of vs fun v hv => by
    obtain ⟨m, hm, q⟩ := List.mem_map.mp (pm.mem_iff.mp hv)
    obtain ⟨z, tk, e1, _⟩ := gd m hm
    exact ⟨z, tk, by rw [← q]; exact e1⟩
  have permX : xs.Perm (ms.toList.map txE) := by
    have q := pm.map fun v => txE (0, v)
    rw [List.map_map] at q
    rw [exs]
    exact q
  have lineV : vs.length ≤ sizeLine := by rw [lenV]; exact fits_of_scanBound bd
  refine wpAny_bind (wpAny_newList ?_ lineV)
  have hoL : (s1.heap.push (seqObj "list" vs.toArray 0)).get? s1.heap.objs.size = some (seqObj "list" vs.toArray 0) := Heap.get?_push_size _ rfl
  refine wpAny_bind (wpAny_holding (wpAny_call_entry slot_list_sort ⟨_, hoL, rfl⟩ entry_list_sort
    (list_sort_treeKAny strKind_oneLt (s := { s1 with heap := s1.heap.push (seqObj "list" vs.toArray 0) }) hoL hS.keysOf (fun v₁ v₂ rest e => keyKind_strs (by rw [← e]; exact hS)) lineV fun st' hp hs => ⟨_, rfl, ?_⟩) (args_list_sort _)))
  obtain ⟨ys, y1, y2, y3⟩ := sorted_out_str hS hp hs
  obtain ⟨c, hc⟩ := sortedHeap_at (vs := vs) (out := (arrOf st').map (·.2)) hoL
  have permY : ys.Perm (ms.toList.map txE) := y2.trans permX
  refine wpAny_pure ⟨_, rfl, hQ _ s1.heap.objs.size ((arrOf st').map (·.2)) c ys (fun b u e => ?_) g1 o1 hz hc y1 y3 (permY.nodup_iff.mpr nd) fun z => by rw [permY.mem_iff, ← mem z]⟩
  have q := k1 b u e
  have lt := Heap.lt_size q
  show (sortedHeap (s1.heap.push (seqObj "list" vs.toArray 0)) s1.heap.objs.size vs ((arrOf st').map (·.2))).get? b = some u
  rw [sortedHeap_old (Nat.ne_of_lt lt) (by rw [size_push']; exact Nat.lt_succ_of_lt lt)]
  exact Heap.get?_push_of_some _ q
end
/-! ### over the hand layer -/
/-- the set of the texts of L at a -/
def SetO' (P : Program) (w : World) (a : Addr) (L : List Str) : HO := .ext fun h => SetX P w h a L
section
variable {X : Cx}
def rSetX (K : PySem.W.Frag) (P : Program) (w : World) : List V → Hp → VK → Prop := fun vs H Q => ∃ (l : Addr) (xs : List Str), vs = [V.ref l] ∧ SqL K H l (xs.map V.str) ∧ xs.length ≤ 1000 ∧ ∀ p, H p = none → Q (.ref p) (upd H p (SetO' P w p xs))
theorem cr_setX (hc : X.calm = true) : CallR X (.type "set") (rSetX X.K X.prog X.w) := by
  intro pins s σ H vs us Q I r h
  obtain ⟨l, xs, rfl, hq, few, q⟩ := h
  rw [Vals.ref1 r]
  obtain ⟨its, rv, pl, hz⟩ := I.list hq
  refine call_setX (I.ok.hd hc) pl.isList (by simpa using rv.strs) (Nat.lt_of_le_of_lt (Nat.succ_le_succ few) (by decide)) fun h' tk hS hk => ?_
  have kp : ∀ b o, s.heap.get? b = some o → h'.get? b = some o := fun b o e => hk b o (Heap.lt_size e) e
  obtain ⟨ob, ms, ep, tb, here, more⟩ := id hS
  exact ⟨.ref s.heap.objs.size, _, I.laid (t' := tk) kp (Nat.le_refl _) (show ObjOk X.prog X.w _ h' _ (SetO' X.prog X.w s.heap.objs.size xs) from ⟨hS, ⟨ob, here⟩, fun h1 h2 p k => SetX.at p k⟩), rfl, q _ (I.hok.fresh (Nat.le_refl _))⟩
def rSortedX (P : Program) (w : World) : List V → Hp → VK → Prop := fun vs H Q => ∃ (a : Addr) (L : List Str), vs = [V.ref a] ∧ H a = some (SetO' P w a L) ∧ L.length ≤ 1000 ∧
  ∀ (ys : List Str) (p : Addr), sortedS ys = true → ys.Nodup → (∀ z, z ∈ ys ↔ z ∈ L) → H p = none → Q (.ref p) (upd H p (.lst (ys.map V.str)))
theorem vals_texts : ∀ {us : List Value} {xs : List Str}, StrsAre us xs → Vals (xs.map V.str) us
  | _, _, .nil => .nil
  | _, _, .cons n t r => .cons ⟨t, rfl⟩ (vals_texts r)
theorem cr_sortedX (hc : X.calm = true) : CallR X (.builtin "sorted") (rSortedX X.prog X.w) := by
  intro pins s σ H vs us Q I r h
  obtain ⟨a, L, rfl, ha, few, q⟩ := h
  rw [Vals.ref1 r]
  have hX : SetX X.prog X.w s.heap a L := (I.hok a _ ha).1
  refine sorted_setX hX (I.ok.hd hc) fun s' p out c ys k g o hp hg hi hs nd hm => ?_
  have lt : ys.length ≤ L.length := List.Nodup.length_le_of_subset nd fun z hz => (hm z).1 hz
  have hlen : (ys.map V.str).length ≤ sizeLine := by rw [List.length_map]; exact Nat.le_trans (Nat.le_trans lt few) (by decide)
  have hn : H p = none := I.hok.fresh hp
  have J : Inv X pins σ (upd H p (.lst (ys.map V.str))) { s with heap := s'.heap, gens := s'.gens, drawn := s'.drawn, toks := s'.toks } :=
    I.call (ch := []) (Un.laid k hp hn) (I.hok.laid k hp ⟨hlen, out.toList, c, vals_texts hi, hg⟩) (by rw [g]; exact I.bare) (fun _ z => nomatch z)
  obtain ⟨h', g', d', t', o'⟩ := s'
  obtain rfl : o' = s.os := o
  exact ⟨.ref p, _, J, rfl, q ys p hs nd hm hn⟩
end
end Gx

set_option maxRecDepth 100000
set_option maxHeartbeats 4000000
namespace Gx
open PySem PySem.Spec PyProof.Rows L2
/-! ### set(tuple of texts); a field as one of several targets -/
section
variable {P : Program} {w : World} {A : Around} {s : Shared} {E : Value → Shared → Prop}
theorem call_setXT {l : Addr} {items : Array Value} {xs : List Str} {Q : Value → Shared → Prop} (hh : A.handled = none) (hl : s.heap.IsTuple l items) (hi : StrsAre items.toList xs) (few : xs.length + 1 < scanBound)
    (h : ∀ (h' : Heap) (tk : Nat), SetX P w h' s.heap.objs.size xs → (∀ b o, b < s.heap.objs.size → s.heap.get? b = some o → h'.get? b = some o) → Q (.ref s.heap.objs.size) { s with heap := h', toks := tk }) :
    wpAny (model P w) A (call (.type "set") [.ref l]) Q E s := by
  obtain ⟨c, tl, hmro⟩ := PySem.F.called_set.mro
  have hmade := PySem.F.called_set.made
  have hsub := PySem.F.called_set.sub
  refine wpAny_call (codeAny_of_tree ?_)
  show wpAny _ _ (callAny (.type "set") _) _ _ _
  refine wpAny_pure ⟨Code.quiet_builtin _ (by decide +kernel), codeAny_builtin PySem.F.entry_type_call ?_⟩
  rw [Around.under_plain (weight_type_call_type "set" [.ref l] []) rfl]
  have h1 := PySem.F.called_set.notType
  have h2 := PySem.F.called_set.canCreate
  have hct := PySem.F.typeCall_set_1 (.ref l)
  repeat (any_goals (first | assumption | wp_step))
  have R0 : SetX P w (s.heap.push { cls := .type "set", dict := none, data := .set #[] 0 (.fresh 0 0 (!w.params.followText "set-order")) }) s.heap.objs.size [] := setX_fresh
  refine codeAny_mono (code_setX (x := .ref l) (E := E) (Q₁ := fun obj s₁ => obj = .ref s.heap.objs.size ∧ s₁ = { s with heap := s.heap.push { cls := .type "set", dict := none, data := .set #[] 0 (.fresh 0 0 (!w.params.followText "set-order")) } }) ⟨rfl, rfl⟩) fun r s₁ hr => ?_
  have hS : (s.heap.push { cls := .type "set", dict := none, data := .set #[] 0 (.fresh 0 0 (!w.params.followText "set-order")) }).get? s.heap.objs.size = some { cls := .type "set", dict := none, data := .set #[] 0 (.fresh 0 0 (!w.params.followText "set-order")) } := Heap.get?_push_size _ rfl
  cases r with
  | error e => exact hr
  | ok fl =>
    cases fl with
    | ret obj =>
      obtain ⟨rfl, rfl⟩ := hr
      have hT : Shared.TypeIs { s with heap := s.heap.push ({ cls := .type "set", dict := none, data := .set #[] 0 (.fresh 0 0 (!w.params.followText "set-order")) } : Obj) } (.ref s.heap.objs.size) "set" := ⟨_, hS, rfl⟩
      have hli := PySem.F.called_set.init.lookup
      have hbi := PySem.F.called_set.init.bind (.ref s.heap.objs.size)
      repeat (any_goals (first | assumption | wp_step))
      refine codeAny_mono (codeAny_call_builtin (R := wants (fun r s₂ => r = .none ∧ ∃ h' tk, s₂ = { s with heap := h', toks := tk } ∧ SetX P w h' s.heap.objs.size xs ∧
          (∀ b o, b < s.heap.objs.size → s.heap.get? b = some o → h'.get? b = some o)) E) PySem.F.called_set.init.plain PySem.F.entry_set_init (check_set_init_1 hT ?_)) fun r₂ s₂ hr₂ => ?_
      · obtain ⟨ol, hol, hcl, nl, hdl⟩ := hl
        obtain ⟨ocls, odict, odata, oslots⟩ := ol
        simp only at hcl hdl
        subst hcl; subst hdl
        have hol' : (s.heap.push ({ cls := .type "set", dict := none, data := .set #[] 0 (.fresh 0 0 (!w.params.followText "set-order")) } : Obj)).get? l = some { cls := .type "tuple", dict := odict, data := .seq items nl, slots := oslots } := Heap.get?_push_of_some _ hol
        have hsls := PySem.F.sub_tuple_set
        have hslf := PySem.F.sub_tuple_frozenset
        have hne : (Value.type "tuple" == Value.type "dict") = false := by decide
        have hl1 : (s.heap.push ({ cls := .type "set", dict := none, data := .set #[] 0 (.fresh 0 0 (!w.params.followText "set-order")) } : Obj)).IsTuple l items := ⟨_, hol', rfl, nl, rfl⟩
        unfold Builtin.«set.__init__» noKeywords Builtin.Frozenset.updateFrom
        generalize hPI : pyIter = PI
        wp_walk
        subst hPI
        refine wpAny_pyIter_tuple hl1 ?_
        refine wpAny_bind (wpAny_runValue ?_)
        have hlS : l < s.heap.objs.size := Heap.lt_size hol
        have hh3 : A.in1.in1.in1.handled = none := by simp [hh]
        have szp : (s.heap.push ({ cls := .type "set", dict := none, data := .set #[] 0 (.fresh 0 0 (!w.params.followText "set-order")) } : Obj)).objs.size = s.heap.objs.size + 1 := Heap.size_push _ _
        have hneI : l ≠ (s.heap.push ({ cls := .type "set", dict := none, data := .set #[] 0 (.fresh 0 0 (!w.params.followText "set-order")) } : Obj)).objs.size := by rw [szp]; exact Nat.ne_of_lt (Nat.lt_succ_of_lt hlS)
        have hSf : s.heap.objs.size ∉ [(s.heap.push ({ cls := .type "set", dict := none, data := .set #[] 0 (.fresh 0 0 (!w.params.followText "set-order")) } : Obj)).objs.size, l] := by
          rw [szp]
          simp only [List.mem_cons, List.not_mem_nil, or_false, not_or]
          exact ⟨Nat.ne_of_lt (Nat.lt_succ_self _), Nat.ne_of_gt hlS⟩
        have hsz : xs.length = items.size := by rw [← StrsAre.len_eq hi, Array.length_toList]
        refine setX_loop ((Walks.tuple hh3 _ l hneI items).toS) s.heap.objs.size hSf xs hsz (by rw [← hsz]; exact few) (fun i v hv => texts_at hi i v (by rw [Array.getElem?_toList]; exact hv))
          (items.size - 0) 0 _ (by omega) (Nat.zero_le _) ⟨⟨_, Heap.get?_push_size _ rfl, rfl, rfl⟩, (hl1.push _)⟩ ?hS0 ?hR
        case hS0 => exact R0.at fun o e => Heap.get?_push_of_some _ e
        case hR =>
          intro s' hm hS'
          obtain ⟨h', g', d', tk', os'⟩ := s'
          obtain rfl : g' = s.gens := hm.gens
          obtain rfl : d' = s.drawn := hm.drawn
          obtain rfl : os' = s.os := hm.os
          show wpAny _ _ _ _ _ _
          refine wpAny_pure ?_
          show wpAny _ _ (ret Value.none) _ _ _
          refine wpAny_pure ⟨rfl, h', tk', rfl, hS', fun b o hb e => hm.heap b o ?_ (Heap.get?_push_of_some _ (Heap.get?_push_of_some _ e))⟩
          rw [szp]
          simp only [List.mem_cons, List.not_mem_nil, or_false, not_or]
          exact ⟨Nat.ne_of_lt hb, Nat.ne_of_lt (Nat.lt_succ_of_lt hb)⟩
      · cases r₂ with
        | error e => exact hr₂
        | ok fl₂ =>
          cases fl₂ with
          | ret r =>
            obtain ⟨rfl, h', tk, rfl, hS', hk'⟩ := hr₂
            repeat (any_goals (first | assumption | wp_step))
            exact h _ _ hS' hk'
          | _ => exact hr₂.elim
    | _ => exact hr.elim
end
section
variable {X : Cx}
def rSetXT (K : PySem.W.Frag) (P : Program) (w : World) : List V → Hp → VK → Prop := fun vs H Q => ∃ (l : Addr) (xs : List Str), vs = [V.ref l] ∧ SqT K H l (xs.map V.str) ∧ xs.length ≤ 1000 ∧ ∀ p, H p = none → Q (.ref p) (upd H p (SetO' P w p xs))
theorem cr_setXT (hc : X.calm = true) : CallR X (.type "set") (rSetXT X.K X.prog X.w) := by
  intro pins s σ H vs us Q I r h
  obtain ⟨l, xs, rfl, hq, few, q⟩ := h
  rw [Vals.ref1 r]
  obtain ⟨its, rv, pl, hz⟩ := I.tuple hq
  refine call_setXT (I.ok.hd hc) (show s.heap.IsTuple l its.toArray from pl) (by simpa using rv.strs) (Nat.lt_of_le_of_lt (Nat.succ_le_succ few) (by decide)) fun h' tk hS hk => ?_
  have kp : ∀ b o, s.heap.get? b = some o → h'.get? b = some o := fun b o e => hk b o (Heap.lt_size e) e
  obtain ⟨ob, ms, ep, tb, here, more⟩ := id hS
  exact ⟨.ref s.heap.objs.size, _, I.laid (t' := tk) kp (Nat.le_refl _) (show ObjOk X.prog X.w _ h' _ (SetO' X.prog X.w s.heap.objs.size xs) from ⟨hS, ⟨ob, here⟩, fun h1 h2 p k => SetX.at p k⟩), rfl, q _ (I.hok.fresh (Nat.le_refl _))⟩
theorem cr_setXTK {K : PySem.W.Frag} {P : Program} {w : World} (hk : X.K = K) (hp : X.prog = P) (hw : X.w = w) (hc : X.calm = true) : CallR X (.type "set") (rSetXT K P w) := by
  subst hk
  subst hp
  subst hw
  exact cr_setXT hc
theorem cr_sortedXK {P : Program} {w : World} (hp : X.prog = P) (hw : X.w = w) (hc : X.calm = true) : CallR X (.builtin "sorted") (rSortedX P w) := by
  subst hp
  subst hw
  exact cr_sortedX hc
/-- o.f as a target -/
def gFld (K : PySem.W.Frag) (to : TE) (f : Str) : TG := fun v σ H Q => to σ H fun x H1 => ∃ a C dx fs, x = .ref a ∧ H1 a = some (.ins C dx fs) ∧ Cls K C ∧ NoAttr K C f ∧ fs.length < 1000 ∧ Q σ (upd H1 a (.ins C dx (putF f v fs)))
theorem pg_fld {o : Expr} {f : Str} {pos' : Pos} {to : TE} (ho : PE X o to) : PG X (.Attribute o f pos') (gFld X.K to f) := by
  refine ⟨fun pins s σ H v u Q I r h => ?_⟩
  rw [assign_Attribute]
  refine wpAny_bind (wpAny_holding (thn (ho.run pins s σ H _ I h) fun ov s1 ⟨x, H1, I1, r1, q1⟩ => ?_))
  obtain ⟨a, C, dx, fs, ex, ea, c, n, l, q2⟩ := q1
  subst ex
  obtain rfl : ov = Value.ref a := r1
  refine wpAny_bind (wpAny_standAt (wpAny_bind (wpAny_holding (setattr_ok I1 ea c n l r fun s3 I3 => ?_))))
  exact wpAny_release ⟨σ, _, I3, q2⟩
end
end Gx

set_option maxRecDepth 100000
set_option maxHeartbeats 4000000
namespace Gx
open PySem PySem.Spec PyProof.Rows L2
/-! ### rules of my own, over any program -/
section
variable {X : Cx}
/-- repr of a truth -/
theorem call_repr_bl : CallR X (.builtin "repr") (fun xs H Q => ∃ b : Bool, xs = [.bl b] ∧ Q (.str (if b then "True" else "False")) H) := by
  intro pins s σ H xs us Q I r h
  obtain ⟨b, rfl, q⟩ := h
  obtain ⟨u, rfl, rx⟩ := vals1 r
  cases (show u = Value.bool b from rx)
  exact PySem.P.repr_of_bool ⟨.str _, H, I.tok _, ⟨_, rfl⟩, q⟩
/-- the signs of a text, a text each -/
def signV (x : Str) : List V := x.cps.toList.map fun c => V.str ⟨#[c]⟩
theorem vals_signs {x : Str} {acc : Array Value} (h : ItemsOf (SignAt x) acc x.cps.size) : Vals (signV x) acc.toList := by
  have key : ∀ (l : List Nat) (vs : List Value), vs.length = l.length → (∀ (j : Nat) (v : Value), vs[j]? = some v → ∃ (c : Nat) (u : Tok), l[j]? = some c ∧ v = Value.str ⟨#[c]⟩ u) → Vals (l.map fun c => V.str ⟨#[c]⟩) vs := by
    intro l
    induction l with
    | nil =>
      intro vs hl _
      cases vs with
      | nil => exact .nil
      | cons a r => cases hl
    | cons c l ih =>
      intro vs hl hv
      cases vs with
      | nil => cases hl
      | cons v vs =>
        obtain ⟨c', u, e1, e2⟩ := hv 0 v rfl
        have e1' : c = c' := Option.some.inj e1
        subst e1'
        exact .cons ⟨u, e2⟩ (ih vs (Nat.succ.inj hl) fun j w hw => hv (j + 1) w hw)
  refine key x.cps.toList acc.toList (by rw [Array.length_toList, Array.length_toList]; exact h.1) fun j v hv => ?_
  obtain ⟨c, u, hc, e⟩ := h.2 j v (by simpa using hv)
  exact ⟨c, u, by simpa using hc, e⟩
/-- list(text) -/
theorem call_list_text (hc : X.calm = true) : CallR X (.type "list") (fun xs H Q => ∃ x : Str, xs = [.str x] ∧ x.length ≤ sizeLine ∧ ∀ l, H l = none → Q (.ref l) (upd H l (.lst (signV x)))) := by
  intro pins s σ H xs us Q I r h
  obtain ⟨x, rfl, hz, q⟩ := h
  obtain ⟨u, rfl, t, rfl⟩ := vals1 r
  refine PySem.call_list_str (I.ok.hd hc) x t (fun h' tk acc' c' kp e ha => ?_) hz
  have hv := vals_signs ha
  refine ⟨.ref s.heap.objs.size, _, I.laid (t' := tk) kp (Nat.le_refl _) (show ObjOk X.prog X.w _ h' _ (.lst (signV x)) from ⟨?_, acc'.toList, c', hv, by simpa using e⟩), rfl, q _ (I.hok.fresh (Nat.le_refl _))⟩
  rw [hv.length, Array.length_toList]
  have := ha.1
  rw [this]
  exact hz
/-- tuple(text) -/
theorem call_tuple_text (hc : X.calm = true) : CallR X (.type "tuple") (fun xs H Q => ∃ x : Str, xs = [.str x] ∧ x.length ≤ sizeLine ∧ ∀ l, H l = none → Q (.ref l) (upd H l (.tup (signV x)))) := by
  intro pins s σ H xs us Q I r h
  obtain ⟨x, rfl, hz, q⟩ := h
  obtain ⟨u, rfl, t, rfl⟩ := vals1 r
  refine PySem.call_tuple_str (I.ok.hd hc) x t (fun h' tk acc kp ha => ?_) hz
  have hv := vals_signs ha
  have I1 : Inv X pins σ H { s with heap := h', toks := tk } := I.kept (t' := tk) kp
  have hlen : (signV x).length ≤ sizeLine := by
    rw [hv.length, Array.length_toList]
    have := ha.1
    rw [this]
    exact hz
  have I2 : Inv X pins σ (upd H h'.objs.size (.tup (signV x))) { s with heap := h'.push { cls := .type "tuple", data := .seq acc }, toks := tk } :=
    I1.laid (t' := tk) (fun b o e => Heap.get?_push_of_some _ e) (Nat.le_refl _) (show ObjOk X.prog X.w _ _ _ (.tup (signV x)) from ⟨hlen, acc.toList, hv, by simpa using IsTup.new _ _⟩)
  exact ⟨.ref h'.objs.size, _, I2, rfl, q _ (I1.hok.fresh (Nat.le_refl _))⟩
/-- text * k -/
theorem op_mul_text : OpR X (binaryOp .Mult) (fun x y H Q => ∃ (a : Str) (n : Int), x = .str a ∧ y = .int n ∧ MulOk a n ∧ Q (.str (Txt.mul a n)) H) := by
  intro pins s σ H x y v u Q I rx ry h
  obtain ⟨a, n, rfl, rfl, hz, q⟩ := h
  obtain ⟨t, rfl⟩ := rx
  obtain ⟨t', rfl⟩ := ry
  exact SB.mul hz fun t' k => ⟨.str _, H, I.tok _, ⟨_, rfl⟩, q⟩
end
theorem mulOk_small {a : Str} {n : Int} (h1 : 2 ≤ n) (h2 : n ≤ 1000) (ha : a.length ≤ 1000) : MulOk a n := by
  refine ⟨?_, fun _ _ => ?_, fun _ _ => ?_⟩
  · rw [Bool.or_eq_false_iff]
    exact ⟨decide_eq_false (by omega), decide_eq_false (by omega)⟩
  · have : (1000 : Int) ≤ (2 ^ 63 - 1) / n := by
      refine (Int.le_ediv_iff_mul_le (by omega)).mpr ?_
      have : (1000 : Int) * n ≤ 1000 * 1000 := Int.mul_le_mul_of_nonneg_left h2 (by decide)
      omega
    omega
  · unfold Builtin.Str.tooLong
    refine decide_eq_false ?_
    have h3 : a.length * n.toNat ≤ 1000 * 1000 := Nat.mul_le_mul ha (by omega)
    rw [sizeLine_eq]
    omega

/-! ### defs of the top, and what they promise -/
/-- the def st stands at the top under its name -/
def Def (K : PySem.W.Frag) (mg : Str → Option Value) (x qual : Str) (st : Stmt) (ps : List Str) : Prop :=
  ∃ (f : Addr) (fd : FuncData), Fun K x qual st f fd ∧ Binds K fd ps [] ∧ mg x = some (.ref f)
/-- the name x is a def that keeps the promise sp, by at most level k -/
def Cal (P : Program) (w : World) (K : PySem.W.Frag) (mg : Str → Option Value) (base : Heap) (k : Nat) (x : Str) (ps : List Str) (sp : Sp) : Prop :=
  ∃ (f : Addr) (fd : FuncData), FnOk P w K mg base CX0 k f fd ps sp ∧ PySem.W.keepIn K (.ref f) = true ∧ Binds K fd ps [] ∧ mg x = some (.ref f)
section
variable {P : Program} {w : World} {K : PySem.W.Frag} {mg : Str → Option Value} {base : Heap}
theorem Cal.mono {j k : Nat} {x : Str} {ps : List Str} {sp : Sp} (c : Cal P w K mg base j x ps sp) (h : j ≤ k) : Cal P w K mg base k x ps sp := by
  obtain ⟨f, fd, F, kp, b, g⟩ := c
  exact ⟨f, fd, F.mono h, kp, b, g⟩
theorem Cal.imp {k : Nat} {x : Str} {ps : List Str} {sp sp' : Sp} (c : Cal P w K mg base k x ps sp) (h : ∀ vs H Q E, sp' vs H Q E → sp vs H Q E) : Cal P w K mg base k x ps sp' := by
  obtain ⟨f, fd, F, kp, b, g⟩ := c
  exact ⟨f, fd, F.imp h, kp, b, g⟩
theorem Def.cal {x qual : Str} {st : Stmt} {ps : List Str} (d : Def K mg x qual st ps) {k : Nat} {sp : Sp} (h : ∀ f fd, Fun K x qual st f fd → FnOk P w K mg base CX0 k f fd ps sp) : Cal P w K mg base k x ps sp := by
  obtain ⟨f, fd, F, b, g⟩ := d
  exact ⟨f, fd, h f fd F, F.kp, b, g⟩
end
section
variable {X : Cx}
/-- f(..), without the empty list of defaults -/
def tCl (sp : Sp) (t : TA) : TE := fun σ H Q => t σ H fun vs H1 => sp vs H1 Q E0
theorem tCl_eq (sp : Sp) (t : TA) : tCall sp [] E0 t = tCl sp t := by
  funext σ H Q
  show t σ H _ = t σ H _
  congr 1
  funext vs H1
  rw [List.append_nil]
theorem pe_cal {x : Str} {ps : List Str} {sp : Sp} {k : Nat} {e : Expr} {es : List Expr} {t : TA} {p pos : Pos} (c : Cal X.prog X.w X.K X.mg X.base k x ps sp) (hr : Room k X.A) (hg : Gl X x) (h : PA X (e :: es) t)
    (hdb : (x == ("__debug__" : Str)) = false := by decide) (he : starEach (e :: es) X.env = (false, eval e X.env) :: starEach es X.env := by rfl) (hpl : (backTo pos (starEach es X.env)).any (·.1) = false := by rfl) :
    PE X (.Call (.Name x p) (e :: es) [] pos) (tCl sp t) := by
  obtain ⟨f, fd, F, kp, b, g⟩ := c
  rw [← tCl_eq]
  exact pe_call F hr hg g kp b .nil pass0 h hdb he hpl
theorem pe_cal0 {x : Str} {ps : List Str} {sp : Sp} {k : Nat} {p pos : Pos} (c : Cal X.prog X.w X.K X.mg X.base k x ps sp) (hr : Room k X.A) (hg : Gl X x)
    (hdb : (x == ("__debug__" : Str)) = false := by decide) : PE X (.Call (.Name x p) [] [] pos) (tCl sp tNil) := by
  obtain ⟨f, fd, F, kp, b, g⟩ := c
  rw [← tCl_eq]
  exact pe_call0 F hr hg g kp b .nil pass0 hdb
end
/-- a statement, then the rest, with a word between them: what follows is shown once -/
def tCut (t u : TS) : TS := fun D σ H => ∃ Mid : L2.St → Hp → Prop, t { D with nx := Mid } σ H ∧ ∀ σ' H', Mid σ' H' → u D σ' H'
section
variable {X : Cx}
theorem pss_cut {st : Stmt} {rest : List Stmt} {t u : TS} (h1 : PS X st t) (h2 : PSs X rest u) : PSs X (st :: rest) (tCut t u) := by
  refine ⟨fun pins s σ H D I h => ?_⟩
  obtain ⟨Mid, hm, hu⟩ := h
  refine wpAny_execs_cons (thn (h1.run pins s σ H { D with nx := Mid } I hm) fun f s1 q => ?_)
  cases f with
  | next =>
    obtain ⟨σ', H', I', q⟩ := q
    exact h2.run pins s1 σ' H' D I' (hu σ' H' q)
  | ret v => exact q
  | brk => exact q
  | cont => exact q
end
theorem sqL_ne {K : PySem.W.Frag} {H : Hp} {a d : Addr} {o : HO} {xs : List V} (n : a ≠ d) (h : SqL K H a xs) : SqL K (upd H d o) a xs := by
  rcases h with (h | ⟨u, h⟩) | h
  · exact .inl (.inl (by rw [upd_ne n]; exact h))
  · exact .inl (.inr ⟨u, by rw [upd_ne n]; exact h⟩)
  · exact .inr h
theorem sqT_ne {K : PySem.W.Frag} {H : Hp} {a d : Addr} {o : HO} {xs : List V} (n : a ≠ d) (h : SqT K H a xs) : SqT K (upd H d o) a xs := by
  rcases h with (h | ⟨u, h⟩) | h
  · exact .inl (.inl (by rw [upd_ne n]; exact h))
  · exact .inl (.inr ⟨u, by rw [upd_ne n]; exact h⟩)
  · exact .inr h
theorem atI_int {α : Type} {xs : List α} {r : Int} (h0 : 0 ≤ r) (h1 : r < xs.length) : ∃ v, v ∈ xs ∧ atI xs r = some v := by
  obtain ⟨k, rfl⟩ := Int.eq_ofNat_of_zero_le h0
  have hk : k < xs.length := by omega
  exact ⟨xs[k], List.getElem_mem hk, atI_nat (List.getElem?_eq_getElem hk)⟩
theorem signV_len (z : Str) : (signV z).length = z.length := by
  unfold signV
  rw [List.length_map, Array.length_toList]
  rfl
/-- for c in text -/
theorem for_str {x : Str} {g : TG} {tb : TS} {D : Ends} {σ : L2.St} {H : Hp} (Pv : Nat → L2.St → Hp → Prop) (h0 : Pv 0 σ H)
    (hs : ∀ (i c : Nat) (σ : L2.St) (H : Hp), x.cps.toList[i]? = some c → Pv i σ H → g (.str ⟨#[c]⟩) σ H fun σ2 H2 => tb { D with nx := Pv (i + 1), ct := Pv (i + 1), bk := D.nx } σ2 H2) (hd : ∀ σ H, Pv x.cps.size σ H → D.nx σ H) :
    ∃ W : Nat → Nat → L2.St → Hp → Prop, (∃ m, W 0 m σ H) ∧ ∀ i m σ H, W i m σ H →
      ((Its x).stop i H ∧ D.nx σ H) ∨ ((Its x).go i H ∧ ∃ N : L2.St → Hp → Prop, (∀ σ' H', N σ' H' → ∃ m', m' < m ∧ W (i + 1) m' σ' H') ∧ ∀ v H', (Its x).yld i H v H' → g v σ H' fun σ2 H2 => tb { D with nx := N, ct := N, bk := D.nx } σ2 H2) := by
  refine ⟨fun i m σ H => m = x.cps.size - i ∧ i ≤ x.cps.size ∧ Pv i σ H, ⟨x.cps.size, by simp, Nat.zero_le _, h0⟩, ?_⟩
  rintro i m σ H ⟨rfl, hi, p⟩
  by_cases hlt : i < x.cps.size
  · refine .inr ⟨hlt, Pv (i + 1), fun σ' H' p' => ⟨x.cps.size - (i + 1), by omega, rfl, hlt, p'⟩, fun v H' y => ?_⟩
    obtain ⟨e, c, hc, ev⟩ := y
    subst e ev
    exact hs i c σ _ (by simpa using hc) p
  · have e : i = x.cps.size := by omega
    subst e
    exact .inl ⟨Nat.le_refl _, hd σ H p⟩
theorem decI (a b : Int) : decide (V.int a = V.int b) = decide (a = b) := decide_eq_decide.mpr ⟨V.int.inj, fun e => e ▸ rfl⟩
theorem decS (a b : Str) : decide (V.str a = V.str b) = decide (a = b) := decide_eq_decide.mpr ⟨V.str.inj, fun e => e ▸ rfl⟩
theorem app_len (a b : Str) : (a ++ b).length = a.length + b.length := by
  show (a.cps ++ b.cps).size = _
  rw [Array.size_append]
  rfl
/-- texts of one sign each, joined by nothing -/
theorem join_one {e : Str} (he : e.length = 0) : ∀ zs : List Str, (∀ z ∈ zs, z.length = 1) → (Txt.join e zs).length = zs.length := by
  have key : ∀ zs : List Str, (∀ z ∈ zs, z.length = 1) → (Str.join e zs).length = zs.length := by
    intro zs
    induction zs with
    | nil => intro _; rfl
    | cons x r ih =>
      intro h
      cases r with
      | nil => exact h x (List.mem_cons_self ..)
      | cons y r =>
        show (x ++ e ++ Str.join e (y :: r)).length = _
        rw [app_len, app_len, he, ih fun z hz => h z (List.mem_cons_of_mem _ hz), h x (List.mem_cons_self ..), List.length_cons (a := x)]
        omega
  intro zs h
  rw [TL.join_eq]
  exact key zs h
theorem sum_ones : ∀ zs : List Str, (∀ z ∈ zs, z.length = 1) → (zs.map (·.length)).sum = zs.length
  | [], _ => rfl
  | x :: r, h => by
    rw [List.map_cons, List.sum_cons, sum_ones r fun z hz => h z (List.mem_cons_of_mem _ hz), h x (List.mem_cons_self ..), List.length_cons]
    omega
theorem mul_len {a : Str} {n : Int} (h1 : 2 ≤ n) (ha : 1 ≤ a.length) : (Txt.mul a n).length = a.length * n.toNat := by
  unfold Txt.mul
  rw [if_neg (by omega)]
  have e1 : (n == 1) = false := by rw [beq_eq_false_iff_ne]; omega
  have e2 : (a.length == 0) = false := by rw [beq_eq_false_iff_ne]; omega
  rw [e1, e2, if_neg (by decide)]
  have key : ∀ (k : Nat) (acc : Array Nat), ((List.replicate k a.cps).foldl (· ++ ·) acc).size = acc.size + k * a.cps.size := by
    intro k
    induction k with
    | zero => intro acc; show acc.size = _; omega
    | succ k ih =>
      intro acc
      rw [List.replicate_succ, List.foldl_cons, ih, Array.size_append, Nat.succ_mul]
      omega
  show ((List.replicate n.toNat a.cps).foldl (· ++ ·) #[]).size = a.cps.size * n.toNat
  rw [key, Nat.mul_comm]
  show 0 + _ = _
  omega
theorem same_at {H H' : Hp} {p : Addr} {o : HO} (n : H p = none) (s : Same H H') : Same H (upd H' p o) := fun b u e => by
  rw [upd_ne (ne_of_none e n)]
  exact s b u e
/-- the three numbers of some dice -/
def DiceAt (H : Hp) (d : Addr) : Prop := ∃ x b c : Int, H d = some (.lst [.int x, .int b, .int c])
end Gx

set_option maxRecDepth 100000
set_option maxHeartbeats 4000000
namespace Gx
open PySem PySem.Spec PyProof.Rows L2
/-! ### promises that hold where no repr is under way -/
/-- no repr is under way -/
abbrev Gd (A : Around) : Prop := A.guards = some []
structure FnG (P : Program) (w : World) (K : PySem.W.Frag) (mg : Str → Option Value) (base : Heap) (CX : CXT) (k : Nat) (f : Addr) (fd : FuncData) (ps : List Str) (sp : Sp) : Prop where
  len : ∀ vs H Q E, sp vs H Q E → vs.length = ps.length
  run : ∀ (A : Around) (outer : List Env) (s : Shared) (H : Hp) (args : Args) (us : List Value) (vs : List V) (Q : VK) (E : XK),
    Gd A → Room k A → Env0 P w K mg base A outer s H → BindsTo s fd args (ps.zip us) → Vals vs us → sp vs H Q E →
      codeAny (model P w) A (.call (.ref f) args) (CR CX outer P w H s Q E) s
section
variable {P : Program} {w : World} {K : PySem.W.Frag} {mg : Str → Option Value} {base : Heap} {CX : CXT} {k : Nat} {f : Addr} {fd : FuncData} {ps : List Str} {sp : Sp}
theorem fnG_of (F : FnOk P w K mg base CX k f fd ps sp) : FnG P w K mg base CX k f fd ps sp := ⟨F.len, fun A outer s H args us vs Q E _ => F.run A outer s H args us vs Q E⟩
theorem FnG.up {j : Nat} (F : FnG P w K mg base CX j f fd ps sp) (h : j ≤ k) : FnG P w K mg base CX k f fd ps sp :=
  ⟨F.len, fun A outer s H args us vs Q E g hr => F.run A outer s H args us vs Q E g (hr.mono h)⟩
theorem FnG.less {sp' : Sp} (F : FnG P w K mg base CX k f fd ps sp) (h : ∀ vs H Q E, sp' vs H Q E → sp vs H Q E) : FnG P w K mg base CX k f fd ps sp' :=
  ⟨fun vs H Q E q => F.len vs H Q E (h vs H Q E q), fun A outer s H args us vs Q E g hr he hb hv hs => F.run A outer s H args us vs Q E g hr he hb hv (h vs H Q E hs)⟩
end
/-- a def by its body, where no repr is under way -/
theorem fnG_body {CX : CXT} {P : Program} {w : World} {K : PySem.W.Frag} {mg : Str → Option Value} {base : Heap} {k : Nat} {f : Addr} {nm ql : Str} {prm : Arguments} {bd : List Stmt} {sc : Scope}
    {dv kv dc pm cd ct oc : Value} {an od : Option Addr} {sl : Array (Option Value)} {N ps : List Str} {sp : Sp}
    (look : K.lookup f = some ⟨oc, od, .func (PySem.W.fnOf nm ql prm bd sc dv kv dc pm an cd ct), sl⟩) (hcode : PySem.W.codeIn K cd ql = true) (S : FnScope N ps sc)
    (hlen : ∀ vs H Q E, sp vs H Q E → vs.length = ps.length)
    (hb : ∀ (A : Around) (outer : List Env) (s : Shared) (H : Hp) (vs : List V) (Q : VK) (E : XK), Gd A → Room k (A.deeper (envOfC ql sc s.heap.objs.size f cd)) → sp vs H Q E →
      ∃ t, PSs (cxOf CX P w K mg base N ql sc f cd A outer s H E) bd t ∧ t { nx := fun _ H' => Q .non H', rt := Q } (start N vs) H) :
    FnG P w K mg base CX (k + 1) f (PySem.W.fnOf nm ql prm bd sc dv kv dc pm an cd ct) ps sp := by
  constructor
  · exact hlen
  · intro A outer s H args us vs Q E g room env bind rel want
    have inS : K.In s.heap := env.mod.kin.keeps fun b o e => (env.bs b o e).1
    have noLim : s.heap.NoLimit := env.mod.nolimit.keeps fun b o e => (env.bs b o e).1
    have kinds : ∀ y ∈ ps.zip us, sc.names.lookup y.1 = some .local ∨ (sc.names.lookup y.1 = some .cell ∧ ((cellsFrom (s.heap.objs.size + 1) sc.names []).lookup y.1).isSome = true) := by
      rintro ⟨n, v⟩ hy
      rcases S.par n (List.of_mem_zip hy).1 with q | q
      · exact Or.inl q
      · exact Or.inr ⟨q, PySem.W.cellsFrom_some _ _ _ (Or.inl q)⟩
    refine codeAny_call_function room.depth (inS _ _ look) rfl S.co S.gen rfl (PySem.W.codeRec_of inS hcode)
      (bind _ _ _ _ (wpAny_newFunctionEnv_cells S.kind kinds fun env' he s1 made => ?_))
    subst he
    refine ⟨noLim.keeps made.toInCall.keep, codeAny_func ?_⟩
    obtain ⟨t, ht, hq⟩ := hb A outer s H vs Q E g (room.deeper _) want
    have I0 := inv_start (CX := CX) (E := E) (N := N) S room.hd env (hlen _ _ _ _ want) rel made
    refine wpAny_mono (ht.run [] s1 (start N vs) H _ I0 hq) ?_ (fun e s' hs => hs)
    intro fl s' hs
    cases fl with
    | brk =>
      obtain ⟨_, _, _, no⟩ := hs
      exact no.elim
    | cont =>
      obtain ⟨_, _, _, no⟩ := hs
      exact no.elim
    | next =>
      obtain ⟨σ', H', J, q⟩ := hs
      exact ⟨V.non, H', J.os, J.bare, J.base, J.hok, rfl, q⟩
    | ret u =>
      obtain ⟨v, σ', H', J, rv, q⟩ := hs
      exact ⟨v, H', J.os, J.bare, J.base, J.hok, rv, q⟩
section
variable {P : Program} {w : World} {K : PySem.W.Frag} {mg : Str → Option Value} {base : Heap}
/-- .. of the text -/
theorem okG {x qual : Str} {st : Stmt} {f : Addr} {fd : FuncData} {N ps : List Str} {k : Nat} {sp : Sp} (F : Fun K x qual st f fd) (S : FnScope N ps (defScope st)) (hlen : ∀ vs H Q E, sp vs H Q E → vs.length = ps.length)
    (hb : ∀ (cdv : Value) (A : Around) (outer : List Env) (s : Shared) (H : Hp) (vs : List V) (Q : VK) (E : XK), Gd (A.deeper (envOfC qual (defScope st) s.heap.objs.size f cdv)) → Room k (A.deeper (envOfC qual (defScope st) s.heap.objs.size f cdv)) → sp vs H Q E →
      ∃ t, PSs (cxOf CX0 P w K mg base N qual (defScope st) f cdv A outer s H E).nox (defBody st) t ∧ t { nx := fun _ H' => Q .non H', rt := Q } (start N vs) H) : FnG P w K mg base CX0 (k + 1) f fd ps sp := by
  obtain ⟨oc, od, kV, doc, pm, an, cdv, ct, osl, rfl, lk, hcd⟩ := F.ex
  refine fnG_body lk hcd S hlen fun A outer s H vs Q E g hr want => ?_
  obtain ⟨t, h, q⟩ := hb cdv A outer s H vs Q E g hr want
  exact ⟨t, h.nox, q⟩
/-- .. which may raise -/
theorem okGX {x qual : Str} {st : Stmt} {f : Addr} {fd : FuncData} {N ps : List Str} {k : Nat} {sp : Sp} (F : Fun K x qual st f fd) (S : FnScope N ps (defScope st)) (hlen : ∀ vs H Q E, sp vs H Q E → vs.length = ps.length) {CX : CXT}
    (hb : ∀ (cdv : Value) (A : Around) (outer : List Env) (s : Shared) (H : Hp) (vs : List V) (Q : VK) (E : XK), Gd (A.deeper (envOfC qual (defScope st) s.heap.objs.size f cdv)) → Room k (A.deeper (envOfC qual (defScope st) s.heap.objs.size f cdv)) → sp vs H Q E →
      ∃ t, PSs (cxOf CX P w K mg base N qual (defScope st) f cdv A outer s H E) (defBody st) t ∧ t { nx := fun _ H' => Q .non H', rt := Q } (start N vs) H) : FnG P w K mg base CX (k + 1) f fd ps sp := by
  obtain ⟨oc, od, kV, doc, pm, an, cdv, ct, osl, rfl, lk, hcd⟩ := F.ex
  exact fnG_body lk hcd S hlen fun A outer s H vs Q E g hr want => hb cdv A outer s H vs Q E g hr want
/-- the name x is a def that keeps the promise sp where no repr is under way -/
def CalG (P : Program) (w : World) (K : PySem.W.Frag) (mg : Str → Option Value) (base : Heap) (k : Nat) (x : Str) (ps : List Str) (sp : Sp) : Prop :=
  ∃ (f : Addr) (fd : FuncData), FnG P w K mg base CX0 k f fd ps sp ∧ PySem.W.keepIn K (.ref f) = true ∧ Binds K fd ps [] ∧ mg x = some (.ref f)
theorem Cal.g {k : Nat} {x : Str} {ps : List Str} {sp : Sp} (c : Cal P w K mg base k x ps sp) : CalG P w K mg base k x ps sp := by
  obtain ⟨f, fd, F, r⟩ := c
  exact ⟨f, fd, fnG_of F, r⟩
theorem CalG.up {j k : Nat} {x : Str} {ps : List Str} {sp : Sp} (c : CalG P w K mg base j x ps sp) (h : j ≤ k) : CalG P w K mg base k x ps sp := by
  obtain ⟨f, fd, F, r⟩ := c
  exact ⟨f, fd, F.up h, r⟩
theorem Def.calG {x qual : Str} {st : Stmt} {ps : List Str} (d : Def K mg x qual st ps) {k : Nat} {sp : Sp} (h : ∀ f fd, Fun K x qual st f fd → FnG P w K mg base CX0 k f fd ps sp) : CalG P w K mg base k x ps sp := by
  obtain ⟨f, fd, F, b, g⟩ := d
  exact ⟨f, fd, h f fd F, F.kp, b, g⟩
end
section
variable {X : Cx}
/-- the callee runs -/
theorem runG {CX : CXT} {k : Nat} {f : Addr} {fd : FuncData} {ps : List Str} {sp : Sp} {E : XK} {ds : List Value} {dvs : List V} {pins : List (Addr × Obj)} {σ : L2.St} {H : Hp} {s : Shared} {Q : VK} {us : List Value} {vs : List V}
    (F : FnG X.prog X.w X.K X.mg X.base CX k f fd ps sp) (g : Gd X.A) (room : Room k X.A) (hb : Binds X.K fd ps ds) (hd : Vals dvs ds) (hx : Passes CX X E)
    (I : Inv X pins σ H s) (r : Vals vs us) (want : sp (vs ++ dvs) H Q E) : wpAny (model X.prog X.w) X.A (call (.ref f) us) (EP X pins σ Q) X.xe s := by
  have rel := r.append hd
  have hl : (us ++ ds).length = ps.length := rel.length.symm.trans (F.len _ _ _ _ want)
  have hc := F.run X.A X.stack s H ⟨us, []⟩ (us ++ ds) (vs ++ dvs) Q E g room I.env0 (hb s us I.kIn hl) rel want
  refine wpAny_call (codeAny_mono hc ?_)
  intro res s' hres
  match res, hres with
  | .error e, hres => exact hx pins σ H s e s' I hres
  | .ok (.ret u), hres => exact I.after hres
theorem pe_calG {x : Str} {ps : List Str} {sp : Sp} {k : Nat} {e : Expr} {es : List Expr} {t : TA} {p pos : Pos} (c : CalG X.prog X.w X.K X.mg X.base k x ps sp) (g : Gd X.A) (room : Room k X.A) (hg : Gl X x) (h : PA X (e :: es) t)
    (hdb : (x == ("__debug__" : Str)) = false := by decide) (hst : starEach (e :: es) X.env = (false, eval e X.env) :: starEach es X.env := by rfl) (hpl : (backTo pos (starEach es X.env)).any (·.1) = false := by rfl) :
    PE X (.Call (.Name x p) (e :: es) [] pos) (tCl sp t) := by
  obtain ⟨f, fd, F, kp, b, hm⟩ := c
  rw [← tCl_eq]
  refine ⟨fun pins s σ H Q I want => wpAny_Call_Name_kw (ld_glob I hg hm ?_ hdb)⟩
  exact PySem.W.callWith_K (h₀ := X.base) I.ok.mod.kin kp (thn (h.run pos pins s σ H _ I want) fun us s1 ⟨vs, H1, I1, r, q⟩ => ⟨I1.kIn, runG F g room b .nil pass0 I1 r q⟩) hst hpl
theorem pe_calG0 {x : Str} {ps : List Str} {sp : Sp} {k : Nat} {p pos : Pos} (c : CalG X.prog X.w X.K X.mg X.base k x ps sp) (g : Gd X.A) (room : Room k X.A) (hg : Gl X x)
    (hdb : (x == ("__debug__" : Str)) = false := by decide) : PE X (.Call (.Name x p) [] [] pos) (tCl sp tNil) := by
  obtain ⟨f, fd, F, kp, b, hm⟩ := c
  rw [← tCl_eq]
  exact ⟨fun pins s σ H Q I want => wpAny_Call_Name_kw (ld_glob I hg hm (PySem.W.callWith_K0 I.kIn kp (runG (us := []) F g room b .nil pass0 I .nil want)) hdb)⟩
end
/-! ### repr of data -/
theorem repr_ref {prog : Program} {w : World} {A : Around} {E : Value → Shared → Prop} {s : Shared} {Q : Value → Shared → Prop} {a : Addr} {d : PyData} {as : List Addr}
    (r : Reads s.heap (.ref a) d as) (hs : d.showable = true) (hsm : d.hasDict = true → sysModules ∉ as) (hsz : d.shown.length ≤ sizeLine) (g : Gd A) (hu : A.units + 1 + d.depth < cLine)
    (h : ∀ h' u tk, (∀ b o, s.heap.get? b = some o → h'.get? b = some o) → Q (.str d.shown u) { s with heap := h', toks := tk }) : wpAny (model prog w) A (call (.builtin "repr") [.ref a]) Q E s := by
  obtain ⟨T, idr, B⟩ := showsBy_of_reads (prog := prog) (w := w) r hs hsm hsz
  have hT := B.typeIs s fun _ _ e => e
  refine Calls.call_function_entry F.kind_repr F.plain_repr F.entry_repr (F.args_repr1 _) ?_
  unfold Builtin.«repr»
  refine wpAny_bind (m := oneArg "repr" _) (wpAny_pure ?_)
  refine wpAny_bind (wpAny_cRoomFor (by show A.units + 1 < cLine; omega) ?_)
  refine wpAny_bind (wpAny_specialOf (name := Str.ofString "__repr__") hT B.slotRepr.lookup ?_)
  refine wpAny_bind (m := callSpecialIfBound? (.ref a) (Str.ofString "__repr__")) (wpAny_callSpecialIfBound?_slotG (name := Str.ofString "__repr__") hT B.slotRepr (B.call _ _ s _ g (by show A.units + 1 + _ < cLine; omega) (fun _ _ e => e) fun h' u tk hk => ?_))
  refine wpAny_bind (wpAny_isInstance (T := "str") (b := true) rfl isSubtype_str_str ?_)
  exact wpAny_pure ⟨_, rfl, h h' u tk hk⟩
section
variable {X : Cx}
/-- repr(x), x data without dicts -/
def rRepr (K : PySem.W.Frag) : List V → Hp → VK → Prop := fun xs H Q => ∃ (x : V) (d : PyData), xs = [x] ∧ Dp K H x d ∧ d.showable = true ∧ d.hasDict = false ∧ d.depth ≤ 60 ∧ d.shown.length ≤ sizeLine ∧ Q (.str d.shown) H
theorem call_reprD (g : Gd X.A) (hu : X.A.units + 64 < cLine) : CallR X (.builtin "repr") (rRepr X.K) := by
  intro pins s σ H xs us Q I r h
  obtain ⟨x, d, rfl, hd, h1, h2, h3, h4, q⟩ := h
  obtain ⟨u, rfl, rx⟩ := vals1 r
  obtain ⟨as, hr⟩ := Dp.reads I d x u hd rx
  cases hr with
  | none => simp only [PyData.shown] at q; exact PySem.P.repr_of_none ⟨.str _, H, I.tok _, ⟨_, rfl⟩, q⟩
  | bool b => simp only [PyData.shown] at q; exact PySem.P.repr_of_bool ⟨.str _, H, I.tok _, ⟨_, rfl⟩, q⟩
  | int i t => simp only [PyData.shown] at q; exact PySem.P.repr_of_int (by simpa [PyData.showable] using h1) ⟨.str _, H, I.tok _, ⟨_, rfl⟩, q⟩
  | str y t => simp only [PyData.shown] at q h4; exact PySem.P.repr_of_str ⟨.str _, H, I.tok _, ⟨_, rfl⟩, q⟩ h4
  | list e1 e2 e3 e4 =>
    exact repr_ref (.list e1 e2 e3 e4) h1 (fun e => by rw [h2] at e; cases e) h4 g (by omega) fun h' u tk hk => ⟨.str _, H, I.kept (t' := tk) hk, ⟨_, rfl⟩, q⟩
  | tuple e1 e2 e3 e4 =>
    exact repr_ref (.tuple e1 e2 e3 e4) h1 (fun e => by rw [h2] at e; cases e) h4 g (by omega) fun h' u tk hk => ⟨.str _, H, I.kept (t' := tk) hk, ⟨_, rfl⟩, q⟩
  | dict e1 e2 e3 e4 e5 =>
    exact repr_ref (.dict e1 e2 e3 e4 e5) h1 (fun e => by rw [h2] at e; cases e) h4 g (by omega) fun h' u tk hk => ⟨.str _, H, I.kept (t' := tk) hk, ⟨_, rfl⟩, q⟩
end
/-! ### sorted of a tuple of texts -/
section
variable {X : Cx}
def rSortedTS (K : PySem.W.Frag) : List V → Hp → VK → Prop := fun vs H Q => ∃ (a : Addr) (xs : List Str), vs = [V.ref a] ∧ SqT K H a (xs.map V.str) ∧ xs.length ≤ 100000 ∧
  ∀ (ys : List Str) (p : Addr), ys.Perm xs → sortedS ys = true → H p = none → Q (.ref p) (upd H p (.lst (ys.map V.str)))
theorem cr_sortedTS : CallR X (.builtin "sorted") (rSortedTS X.K) := by
  intro pins s σ H vs us Q I r h
  obtain ⟨a, xs, rfl, ht, hz, q⟩ := h
  obtain ⟨its, rv, ⟨o, ho, hc, n, hd⟩, _⟩ := I.tuple ht
  rw [Vals.ref1 r]
  have hln : xs.length = its.length := by
    have e := rv.length
    rw [List.length_map] at e
    exact e
  have hS : StrsAre its xs := rv.strs
  have hL : its.length ≤ sizeLine := Nat.le_trans (by omega) (show 100000 ≤ sizeLine by decide)
  refine Calls.call_function_entry kind_sorted plain_sorted entry_sorted (args_sorted1 _) ?_
  unfold Builtin.«sorted»
  refine wpAny_bind (m := checkCount "sorted" 1 1 _) (wpAny_pure ?_)
  refine wpAny_bind (wpAny_collect_seq a (.inr rfl) ho hc hd (fun h' hk => ?_) (by rw [List.size_toArray]; exact hL))
  have I1 : Inv _ pins σ H { s with heap := h' } := I.kept (t' := s.toks) hk
  rw [List.toList_toArray]
  refine wpAny_bind (wpAny_newList ?_ hL)
  have hoL : (h'.push (seqObj "list" its.toArray 0)).get? h'.objs.size = some (seqObj "list" its.toArray 0) := Heap.get?_push_size _ rfl
  show wpAny _ _ _ _ _ { s with heap := h'.push (seqObj "list" its.toArray 0) }
  refine wpAny_bind (wpAny_holding (wpAny_call_entry slot_list_sort ⟨_, hoL, rfl⟩ entry_list_sort
    (list_sort_treeKAny strKind_oneLt (s := { s with heap := h'.push (seqObj "list" its.toArray 0) }) hoL hS.keysOf (fun v₁ v₂ rest e => keyKind_strs (by rw [← e]; exact hS)) hL fun st' hp hs => ⟨_, rfl, ?_⟩) (args_list_sort _)))
  obtain ⟨ys, g1, g2, g3⟩ := sorted_out_str hS hp hs
  obtain ⟨e', he'⟩ := sortedHeap_at (vs := its) (out := (arrOf st').map (·.2)) hoL
  have hlen : (ys.map V.str).length ≤ sizeLine := by
    rw [List.length_map, g2.length_eq, hln]
    exact hL
  refine wpAny_pure ⟨_, rfl, .ref h'.objs.size, upd H h'.objs.size (.lst (ys.map V.str)), I1.laid (t' := s.toks) (fun b u e => ?_) (Nat.le_refl _)
    (show ObjOk X.prog X.w _ _ _ (.lst (ys.map V.str)) from ⟨hlen, ((arrOf st').map (·.2)).toList, e', vals_of_strs g1, by rw [Array.toArray_toList]; exact he'⟩), rfl, q ys _ g2 g3 (I1.hok.fresh (Nat.le_refl _))⟩
  have hb : b < h'.objs.size := Heap.lt_size e
  rw [sortedHeap_old (Nat.ne_of_lt hb) (by rw [size_push']; exact Nat.lt_succ_of_lt hb)]
  exact Heap.get?_push_of_some _ e
end
/-! ### the end of a law whose promise holds where no repr is under way -/
/-- the abstract heap at the law's call: the script alone, if the module does not own it -/
def H00 (a : Addr) (o : Obj) (ns : List Int) (own : Bool) : Hp := fun b => if own = false ∧ b = a then some (.frz o (.lst (ns.map V.int))) else none
theorem h00_none {a b : Addr} {o : Obj} {ns : List Int} {own : Bool} (h : own = true ∨ b ≠ a) : H00 a o ns own b = none := by
  unfold H00
  rw [if_neg]
  rintro ⟨h1, h2⟩
  rcases h with h | h
  · rw [h1] at h; cases h
  · exact h h2
theorem h00_some {a b : Addr} {o : Obj} {ns : List Int} {own : Bool} {u : HO} (h : H00 a o ns own b = some u) : own = false ∧ b = a ∧ u = .frz o (.lst (ns.map V.int)) := by
  unfold H00 at h
  by_cases c : own = false ∧ b = a
  · rw [if_pos c] at h
    exact ⟨c.1, c.2, (Option.some.inj h).symm⟩
  · rw [if_neg c] at h
    cases h
theorem lawG {P : Program} {w : World} {K : PySem.W.Frag} {mg mb : Str → Option Value} {CX : CXT} {k : Nat} {fa a : Addr} {fd : FuncData} {x : Str} {sp : Sp} {t : Shared} {vs : List Value} {ns : List Int}
    (inK : K.In t.heap) (glob : t.heap.Ns mainGlobals mg) (blt : t.heap.Ns builtinsNs mb) (boot : ∀ y : Str, y ≠ "__name__" → mb y = bootBuiltins y) (noLim : t.heap.NoLimit) (gens : t.gens = #[])
    (scr : t.heap.get? a = some { cls := .type "list", data := .seq vs.toArray }) (hints : IntsAre vs ns) (short : ns.length ≤ sizeLine) (room : Room k callerA)
    (F : ∀ base : Heap, K.In base → base.Ns mainGlobals mg → FnG P w K mg base CX k fa fd [x] sp) (bind : ∀ (s : Shared) (u : Value), BindsTo s fd ⟨[u], []⟩ [(x, u)])
    (want : ∀ H : Hp, Only H → SqL K H a (ns.map V.int) → sp [.ref a] H (fun v _ => v = .bl true) fun _ _ _ => False)
    (noErr : ∀ H e s', CX [] H t (fun _ _ _ => False) e s' → False) :
    codeAny (model P w) callerA (.call (.ref fa) ⟨[.ref a], []⟩) (fun r s' => r = .ok (.ret (.bool true)) ∧ OldK t.heap s'.heap ∧ s'.os = t.os ∧ AllBare s'.gens) t := by
  have hv : Vals (ns.map V.int) vs := vals_ints hints
  have hlv : vs.length = ns.length := hints.length
  -- does the module own the script?
  obtain ⟨own, hown⟩ : ∃ own : Bool, own = (K.lookup a).isSome := ⟨_, rfl⟩
  let o : Obj := { cls := .type "list", data := .seq vs.toArray }
  have hOk : HOk P w (H00 a o ns own) t.heap := by
    intro b u e
    obtain ⟨_, rfl, rfl⟩ := h00_some e
    exact ⟨scr, by rw [List.length_map]; exact short, vs, _, hv, scr⟩
  have keepT : ∀ {b : Addr} {ob : Obj}, t.heap.get? b = some ob → own = true ∨ b ≠ a → (hidT t.heap (H00 a o ns own)).get? b = some ob := fun e n => hidT_get e (h00_none n)
  have notScr : ∀ {b : Addr} {m : Str → Option Value}, t.heap.Ns b m → b ≠ a := by
    rintro b m ⟨ob, es, ep, e, dd, _⟩ rfl
    rw [scr] at e
    cases e
    cases dd
  have nsKeep : ∀ {b : Addr} {m : Str → Option Value}, t.heap.Ns b m → (hidT t.heap (H00 a o ns own)).Ns b m := by
    intro b m n
    have ne := notScr n
    obtain ⟨ob, es, ep, e, r⟩ := n
    exact ⟨ob, es, ep, keepT e (.inr ne), r⟩
  have inK' : K.In (hidT t.heap (H00 a o ns own)) := by
    intro b ob e
    refine keepT (inK b ob e) ?_
    by_cases hb : b = a
    · subst hb
      left
      rw [hown, e]
      rfl
    · exact .inr hb
  have noLim' : (hidT t.heap (H00 a o ns own)).NoLimit := by
    obtain ⟨mc, h1, h2⟩ := noLim
    exact ⟨mc, nsKeep h1, h2⟩
  have env : Env0 P w K mg (hidT t.heap (H00 a o ns own)) callerA [] t (H00 a o ns own) := by
    refine ⟨rfl, ⟨inK', nsKeep glob, ⟨mb, nsKeep blt, boot⟩, noLim'⟩, fun b ob e => of_hidT e, Nat.le_of_eq (hidT_size _ _), trivial, ?_, hOk, .of_eq gens⟩
    intro b hb
    exact absurd (show b ∈ ([] : List Addr) from hb) List.not_mem_nil
  have only : Only (H00 a o ns own) := by
    intro b
    cases e : H00 a o ns own b with
    | none => exact .inl rfl
    | some u =>
      obtain ⟨_, _, rfl⟩ := h00_some e
      exact .inr ⟨_, _, rfl⟩
  have hS : SqL K (H00 a o ns own) a (ns.map V.int) := by
    cases own with
    | false => exact .inl (.inr ⟨o, by unfold H00; rw [if_pos ⟨rfl, rfl⟩]⟩)
    | true =>
      obtain ⟨ob, e⟩ := Option.isSome_iff_exists.mp hown.symm
      have e2 := inK a ob e
      rw [scr] at e2
      cases e2
      exact .inr ⟨_, vs.toArray, _, e, rfl, rfl, rfl, by rw [List.size_toArray, hlv]; exact short, by simpa using hv⟩
  have runs := (F _ inK' (nsKeep glob)).run callerA [] t (H00 a o ns own) ⟨[.ref a], []⟩ [.ref a] [.ref a] _ _ rfl room env (bind t (.ref a)) (.cons rfl .nil) (want _ only hS)
  refine codeAny_mono runs ?_
  intro res s' hres
  match res, hres with
  | .error e, hres => exact (noErr _ e s' hres).elim
  | .ok (.ret u), hres =>
    obtain ⟨v, H', hos, bare, un, ok', rel, rfl⟩ := hres
    obtain rfl : u = Value.bool true := rel
    refine ⟨rfl, OldK.of_keep fun b ob e => ?_, hos, bare⟩
    cases q : H00 a o ns own b with
    | none => exact un.keep b ob e q (fun z => absurd (show b ∈ ([] : List Addr) from z) List.not_mem_nil) List.not_mem_nil
    | some u =>
      obtain ⟨_, _, rfl⟩ := h00_some q
      have q' := un.frzs b _ _ q
      have e1 := (hOk b _ q).1
      rw [e] at e1
      cases e1
      exact (ok' b _ q').1
/-- what k_head leaves -/
theorem walkG {l : PySem.W.OpenLaw} {n k : Nat} {q : Program} {loose : List Str} {XP : (Str → Option Value) → Heap → Prop} {YP : World → Heap → Prop} {d : DefRec} {K : Params → PySem.W.Frag} {CX : World → CXT} {sp : World → Sp} {x : Str}
    (most : l.most = some n) (small : n ≤ sizeLine) (plain : d.params.defaults = []) (room : Room k callerA) (hY : ∀ (w : World) (h : Heap), YP w h → (K w.params).In h)
    (F : ∀ (w : World) (mg : Str → Option Value) (fa : Addr) (h : Heap), (K w.params).In h → h.Ns mainGlobals mg → mg d.name = some (.ref fa) →
      ∃ fd : FuncData, (∀ (s : Shared) (u : Value), BindsTo s fd ⟨[u], []⟩ [(x, u)]) ∧ ∀ base : Heap, (K w.params).In base → base.Ns mainGlobals mg → FnG l.prog w (K w.params) mg base (CX w) k fa fd [x] (sp w))
    (want : ∀ (w : World) (H : Hp) (a : Addr) (ns : List Int), ns.length ≤ n → Only H → SqL (K w.params) H a (ns.map V.int) → sp w [.ref a] H (fun v _ => v = .bl true) fun _ _ _ => False)
    (noErr : ∀ (w : World) (H : Hp) (s : Shared) (e : Value) (s' : Shared), CX w [] H s (fun _ _ _ => False) e s' → False) :
    PySem.W.WalkO q loose XP YP l.row.toRowW d [] (fun f vs => PySem.call f vs) := by
  refine Att.attach_call most plain fun w s₀ t mg mb fa o pm cd doc a vs ns G Y ho hd hcd hmg scr hints hlen gens => ?_
  obtain ⟨fd, bind, body⟩ := F w mg fa _ (hY w _ Y) G.T.g hmg
  exact lawG (hY w _ Y) G.T.g G.T.b G.T.builtins G.T.nolimit gens scr hints (Nat.le_trans hlen small) room body bind (fun H hO hS => want w H a ns hlen hO hS) fun H e s' => noErr w H t e s'
end Gx

set_option maxRecDepth 100000
set_option maxHeartbeats 4000000
namespace Gx
open PySem PySem.Spec PySem.W PySem.Calls Builtin Builtin.ObjectAttr
section
variable {prog : Program} {w : World} {A : Around} {R : Result → Shared → Prop} {hp : Heap} {g : Array GenState} {d : Drawn} {t : Nat} {os : OsState} {K : Frag}
/-- the first field of an own exception, over any built-in base -/
theorem exc_storeX {B : String} {bmB : List Value} {name : Str} {tk : Tok} {v : Value} {x C t0 : Addr} (SF : StoreFacts B bmB "object.__setattr__" "object")
    (inK : K.In hp) (hx : hp.get? x = some (excObj C t0 none .none)) (over : excOver K C bmB = true) (noTake : takerIn K C name = some none) (hasD : hasDictIn K C = true)
    (hq : ∀ (h' : Heap) (tk' : Nat) (dx : Addr), (∀ b o, b ≠ x → hp.get? b = some o → h'.get? b = some o) → hp.objs.size ≤ dx → dx ≠ x → h'.get? x = some (excObj C t0 (some dx) .none) →
      h'.Ns1 dx (fun y => if y = name then some v else none) → R (.ok (.ret .none)) ⟨h', g, d, tk', os⟩) :
    codeAny (model prog w) A (.call (.builtin "object.__setattr__") ⟨[.ref x, .str name tk, v], []⟩) R ⟨hp, g, d, t, os⟩ := by
  have xs : x ≠ hp.objs.size := Nat.ne_of_lt (Heap.lt_size hx)
  refine osa_openX (s := ⟨hp, g, d, t, os⟩) (od := none) SF inK ⟨hx, rfl, rfl, trivial⟩ over noTake fun b => ?_
  obtain ⟨cd, hc, hd⟩ := any_some hasD
  refine wpAny_bind (wpAny_pure (wpAny_bind (instanceDict_exc (s := ⟨hp, g, d, t, os⟩) hx (looks_clsIn inK hc) hd ?_)))
  show wpAny _ _ (storeInDict hp.objs.size (.str name tk) name v) _ _ _
  have hx1 : (hp.push (dictOf [] 0)).get? x = some (excObj C t0 none .none) := Heap.get?_push_of_some _ hx
  refine PySem.HandSPX.store_in_new ⟨_, #[], _, (Heap.get?_update_ne _ _ _ _ xs.symm).trans (Heap.get?_push_at rfl rfl), rfl, fun e he => absurd he (by simp), fun _ => rfl⟩ fun h' tk' hn hs => ?_
  refine hq h' tk' hp.objs.size (fun b o hb ho => ?_) (Nat.le_refl _) xs.symm ((hs.2 x xs).trans (Heap.get?_update_self _ hx1 rfl)) hn
  have bl : b ≠ hp.objs.size := Nat.ne_of_lt (Heap.lt_size ho)
  exact (hs.2 b bl).trans ((Heap.get?_update_ne _ _ _ _ hb).trans (Heap.get?_push_of_some _ ho))
end
end Gx
namespace Gx
open PySem PySem.Spec PySem.W PySem.Calls PyProof.Rows L2
/-! ### own exceptions with one field: class cn(B): def __init__(self, fld): self.fld = fld -/
/-- what the written part says of the class -/
structure XTxt (K : Frag) (mg : Str → Option Value) (cn fld : Str) (newId : String) (bmB : List Value) (C fI : Addr) : Prop where
  gC : mg cn = some (.ref C)
  cls : ∃ nm q N bs bm sn sub ab col dd k0 k1 k2 k3 k5, K.lookup C = some (excClassObj nm q C N bs bm true sn sub ab col dd k0 k1 k2 k3 k5 newId) ∧ excTail bmB bm = true
  over : excOver K C bmB = true
  tak : takerIn K C fld = some none
  hdC : hasDictIn K C = true
  sa : findIn K (.ref C) "__setattr__" = some (some (.builtin "object.__setattr__"))
  ga : findIn K (.ref C) "__getattribute__" = some (some (.builtin "BaseException.__getattribute__"))
  gg : findIn K (.ref C) "__getattr__" = some none
  noN : findIn K (.ref C) fld = some none
  iC : findIn K (.ref C) "__init__" = some (some (.ref fI))
  tC : typeIn K (.ref fI) = some (.type "function")
  kC : keepIn K (.ref C) = true
  exC : subIn K (.ref C) (.type "BaseException") = some true
  tyC : typeIn K (.ref C) = some (.type "type")
  te : exmOne K (.ref C) (.ref C) = some true
/-- what __init__ leaves of a new exception at x -/
structure XInit (h h' : Heap) (x C dx t0 : Addr) (fld : Str) (v : Value) : Prop where
  keep : ∀ b o, b ≠ x → h.get? b = some o → h'.get? b = some o
  obj : h'.get? x = some (excObj C t0 (some dx) .none)
  big : h.objs.size ≤ dx
  ne : dx ≠ x
  ns : h'.Ns1 dx (fun y => if y = fld then some v else none)
/-- __init__ stores the field -/
def InitDoes (K : Frag) (C fI : Addr) (fld : Str) : Prop := ∀ (prog : Program) (w : World) (A : Around) (R : Result → Shared → Prop) (s : Shared) (x t0 : Addr) (v : Value),
  K.In s.heap → s.heap.NoLimit → s.heap.get? x = some (excObj C t0 none .none) → K.lookup x = none → A.depth < recursionLimit →
  (∀ h' tk dx, XInit s.heap h' x C dx t0 fld v → R (.ok (.ret .none)) { s with heap := h', toks := tk }) → codeAny (model prog w) A (.call (.ref fI) ⟨[.ref x, v], []⟩) R s
/-- such an exception, made -/
structure XMade (h h' : Heap) (e C d : Addr) (fld : Str) (v : Value) : Prop where
  keep : ∀ b o, h.get? b = some o → h'.get? b = some o
  new : h.objs.size ≤ e
  obj : ∃ oe vs, h'.get? e = some oe ∧ oe.cls = .ref C ∧ oe.dict = some d ∧ oe.data = .fields vs ∧ vs[1]? = some .none
  big : h.objs.size ≤ d
  ne : d ≠ e
  ns : h'.Ns1 d (fun y => if y = fld then some v else none)
theorem one_line (v : Value) : [v].length ≤ sizeLine := by
  show 1 ≤ sizeLine
  decide
section
variable {prog : Program} {w : World} {A : Around} {R : Result → Shared → Prop} {s : Shared} {K : Frag} {mg : Str → Option Value} {C fI : Addr} {cn fld : Str} {B newId initId : String} {bmB : List Value}
theorem x_made (FB : ExcBaseFacts B newId initId bmB) (T : XTxt K mg cn fld newId bmB C fI) (D : InitDoes K C fI fld) {v : Value} (inK : K.In s.heap) (lim : s.heap.NoLimit) (room : A.depth + 1 < recursionLimit)
    (hq : ∀ h' tk e d, XMade s.heap h' e C d fld v → R (.ok (.ret (.ref e))) { s with heap := h', toks := tk }) : codeAny (model prog w) A (.call (.ref C) ⟨[v], []⟩) R s := by
  obtain ⟨nm, q, N, bs, bm, sn, sub, ab, col, dd, k0, k1, k2, k3, k5, hC, tail⟩ := T.cls
  obtain ⟨hp, g, dr, tk, os⟩ := s
  have stay : ∀ b o, hp.get? b = some o → ((hp.push (kdv_tup [v])).push (excObj C hp.objs.size none .none)).get? b = some o := fun b o e => Heap.get?_push_of_some _ (Heap.get?_push_of_some _ e)
  have there : ((hp.push (kdv_tup [v])).push (excObj C hp.objs.size none .none)).get? (hp.objs.size + 1) = some (excObj C hp.objs.size none .none) := by heap_get
  have fresh : K.lookup (hp.objs.size + 1) = none := by
    cases e : K.lookup (hp.objs.size + 1) with
    | none => rfl
    | some o => exact absurd (Nat.lt_of_succ_lt (Heap.lt_size (inK _ _ e))) (Nat.lt_irrefl _)
  refine PySem.HandSPX.call_own FB (fun Y => excTail_contains Y bm tail) (inK _ _ hC) (looks_findIn inK T.iC) (fun self => bind_fn inK self T.tC) (one_line v) ?_
  refine D prog w _ _ ⟨(hp.push (kdv_tup [v])).push (excObj C hp.objs.size none .none), g, dr, tk, os⟩ _ _ v (inK.keeps stay) (lim.keeps stay) there fresh room fun h' tk' dx M => ?_
  have old : ∀ b o, hp.get? b = some o → h'.get? b = some o := fun b o e => M.keep b o (Nat.ne_of_lt (Nat.lt_succ_of_lt (Heap.lt_size e))) (stay b o e)
  have z : hp.objs.size + 1 + 1 ≤ dx := by
    have q := M.big
    first
      | exact q
      | simpa only [Heap.size_push] using q
  exact ⟨rfl, hq h' tk' (hp.objs.size + 1) dx ⟨old, Nat.le_succ _, ⟨_, _, M.obj, rfl, rfl, rfl, rfl⟩, Nat.le_trans (Nat.le_trans (Nat.le_succ _) (Nat.le_succ _)) z, M.ne, M.ns⟩⟩
end
theorem relO_one {fld : Str} {v : V} {u : Value} (r : RelV v u) (f : Str) : RelO (List.lookup f [(fld, v)]) (if f = fld then some u else none) := by
  by_cases e : f = fld
  · subst e
    rw [if_pos rfl, show List.lookup f [(f, v)] = some v by simp [List.lookup]]
    exact r
  · have q : (f == fld) = false := by simpa using e
    rw [if_neg e, show List.lookup f [(fld, v)] = none by simp [List.lookup, q]]
    trivial
section
variable {X : Cx} {C fI : Addr} {cn fld : Str} {B newId initId : String} {bmB : List Value}
/-- cn(e) -/
def tMkX (C : Addr) (fld : Str) (ta : TA) : L2.St → Hp → XK → Prop := fun σ H Q => ta σ H fun vs H1 => ∃ v, vs = [v] ∧ ∀ d, H1 d = none → Q (.ref C) (some d) (upd H1 d (.xd [(fld, v)]))
theorem pmk_x {a : Expr} {ta : TA} {p pos : Pos} {k : Nat} (FB : ExcBaseFacts B newId initId bmB) (T : XTxt X.K X.mg cn fld newId bmB C fI) (D : InitDoes X.K C fI fld) (room : Room k X.A) (ha : PA X [a] ta) (hg : Gl X cn)
    (hdb : (cn == ("__debug__" : Str)) = false := by decide) (hst : starEach (a :: []) X.env = (false, eval a X.env) :: starEach [] X.env := by rfl) (hpl : (backTo pos (starEach [] X.env)).any (·.1) = false := by rfl) :
    PMk X (.Call (.Name cn p) [a] [] pos) (tMkX C fld ta) := by
  intro pins s σ H Q I h
  refine wpAny_Call_Name_kw (ld_glob I hg T.gC ?_ hdb)
  refine PySem.W.callWith_K (h₀ := X.base) I.ok.mod.kin T.kC (thn (ha.run pos pins s σ H _ I h) ?_) hst hpl
  rintro us s1 ⟨vs, H1, I1, r1, v, rfl, q1⟩
  refine ⟨I1.kIn, ?_⟩
  obtain ⟨u, rfl, rv⟩ := vals1 r1
  show wpAny _ _ (call (.ref C) [u]) _ _ _
  have lim := I1.nolimit
  obtain ⟨hp, g, dr, tk, os⟩ := s1
  refine wpAny_call (x_made FB T D I1.kIn lim (by have := room.dp; omega) fun h' tk' e d M => ?_)
  show MkP X pins σ Q (.ref e) ⟨h', g, dr, tk', os⟩
  obtain ⟨oe, fv, hoe, hc, hd, hdat, h1⟩ := M.obj
  obtain ⟨G', g1, g2⟩ := restrict h' fun b => decide (b ≠ e)
  have off : ∀ b, b ≠ e → G'.get? b = h'.get? b := fun b hb => g1 b (decide_eq_true hb)
  have gone : G'.get? e = none := g2 e (by simp)
  have old : ∀ b o, hp.get? b = some o → G'.get? b = some o := fun b o q => (off b (Nat.ne_of_lt (Nat.lt_of_lt_of_le (Heap.lt_size q) M.new))).trans (M.keep b o q)
  have ob : ObjOk X.prog X.w (upd H1 d (.xd [(fld, v)])) G' d (.xd [(fld, v)]) := ⟨_, M.ns.at (fun o q => (off d M.ne).trans q), fun f => relO_one rv f⟩
  have J : Inv X pins σ (upd H1 d (.xd [(fld, v)])) ⟨G', g, dr, tk', os⟩ := I1.laid (t' := tk') old M.big ob
  refine ⟨e, oe, fv, ⟨G', g, dr, tk', os⟩, _, .ref C, some d, rfl, J, ?_, gone, hoe, ⟨hc, hd⟩, hdat, h1, ?_, rfl, I1.bare, raises_own T.exC T.tyC, q1 d (I1.hok.fresh M.big)⟩
  · intro b o q
    have q' : G'.get? b = some o := q
    by_cases hb : b = e
    · rw [hb, gone] at q'
      cases q'
    · exact (off b hb).symm.trans q
  · rw [upd_ne (Ne.symm M.ne)]
    exact I1.hok.fresh M.new
/-- raise cn(e) -/
def tRaiseX (C : Addr) (fld : Str) (W : WX) (ta : TA) : TS := fun _ σ H => tMkX C fld ta σ H fun cls d H' => W cls d σ H'
theorem ps_raiseX {a : Expr} {ta : TA} {W : WX} {p pos pos2 : Pos} {k : Nat} (hc : X.calm = true) (FB : ExcBaseFacts B newId initId bmB) (T : XTxt X.K X.mg cn fld newId bmB C fI) (D : InitDoes X.K C fI fld) (room : Room k X.A) (tk : Takes X W) (ha : PA X [a] ta) (hg : Gl X cn)
    (hdb : (cn == ("__debug__" : Str)) = false := by decide) (hst : starEach (a :: []) X.env = (false, eval a X.env) :: starEach [] X.env := by rfl) (hpl : (backTo pos (starEach [] X.env)).any (·.1) = false := by rfl) :
    PS X (.Raise (some (.Call (.Name cn p) [a] [] pos)) none pos2) (tRaiseX C fld W ta) := ps_raise hc tk (pmk_x FB T D room ha hg hdb hst hpl)
/-- e.fld, e the exception that the suite holds (at a; its class cls, its dict d) -/
def tByX (C : Addr) (fld : Str) (a : Addr) (cls : Value) (d : Option Addr) (te : TE) : TE := fun σ H Q => te σ H fun x H1 => x = .ref a ∧ cls = .ref C ∧ ∃ (dd : Addr) (v : V), d = some dd ∧ H1 dd = some (.xd [(fld, v)]) ∧ Q v H1
theorem pe_byX {a : Addr} {oe : Obj} {cls : Value} {d : Option Addr} {pn : List (Addr × Obj)} {e : Expr} {te : TE} {pos : Pos} (T : XTxt X.K X.mg cn fld newId bmB C fI) (hz : Zc cls d oe) (hf : ∃ vs, oe.data = .fields vs) (he : PE (X.suite a ((a, oe) :: pn)) e te)
    (hb : attributeBase e fld X.env (eval e X.env) = eval e X.env := by rfl) : PE (X.suite a ((a, oe) :: pn)) (.Attribute e fld pos) (tByX C fld a cls d te) := by
  constructor
  intro pins s σ H Q I h
  refine attr_of hb (thn (he.run pins s σ H _ I h) ?_)
  rintro u s1 ⟨x, H1, I1, rx, rfl, rfl, dd, v, rfl, ea, q⟩
  obtain rfl : u = Value.ref a := rx
  obtain ⟨here, _⟩ := I1.pin (a, oe) (List.mem_append_left _ List.mem_cons_self)
  obtain ⟨vs, hd⟩ := hf
  obtain ⟨mA, hns, hr⟩ := (show ObjOk X.prog X.w H1 s1.heap dd (.xd [(fld, v)]) from I1.hok dd _ ea)
  obtain ⟨od, ho, hl⟩ := lookIn_ns hns
  have l : List.lookup fld [(fld, v)] = some v := by simp [List.lookup]
  have hrf := hr fld
  rw [l] at hrf
  obtain ⟨u, hu, ru⟩ := RelO.some_of (v := v) (o := mA fld) hrf
  have J : PySem.W.InstAt s1.heap a oe C (some od) := ⟨here, hz.1, by unfold PySem.W.notCls; rw [hd] <;> rfl, by rw [hz.2]; exact ho⟩
  exact HandSPX.exc_get I1.kIn J T.ga T.gg T.exC (PySem.W.findObj_own T.hdC T.noN rfl (by rw [hl, hu])) (handed_of ru) ⟨v, H1, I1.tok _, ru, q⟩
end
end Gx
namespace Gx
open PySem PySem.Spec PySem.Calls PyProof.Rows L2
/-! ### calls of defs that may raise, also with keywords, where no repr is under way -/
section
variable {P : Program} {w : World} {K : PySem.W.Frag} {mg : Str → Option Value} {base : Heap}
theorem FnG.toX {k : Nat} {f : Addr} {fd : FuncData} {ps : List Str} {sp : Sp} (F : FnG P w K mg base CX0 k f fd ps sp) : FnG P w K mg base (L2.CX P w) k f fd ps sp := by
  refine ⟨F.len, fun A outer s H args us vs Q E g hr he hb hv hs => codeAny_mono (F.run A outer s H args us vs Q E g hr he hb hv hs) ?_⟩
  intro r s' h
  match r, h with
  | .error e, h => exact h.elim
  | .ok (.ret u), h => exact h
/-- the name x is a def that keeps sp, and may raise -/
def CalX (P : Program) (w : World) (K : PySem.W.Frag) (mg : Str → Option Value) (base : Heap) (k : Nat) (x : Str) (ps : List Str) (sp : Sp) : Prop :=
  ∃ (f : Addr) (fd : FuncData), FnG P w K mg base (L2.CX P w) k f fd ps sp ∧ PySem.W.keepIn K (.ref f) = true ∧ Binds K fd ps [] ∧ mg x = some (.ref f)
theorem CalX.up {j k : Nat} {x : Str} {ps : List Str} {sp : Sp} (c : CalX P w K mg base j x ps sp) (h : j ≤ k) : CalX P w K mg base k x ps sp := by
  obtain ⟨f, fd, F, r⟩ := c
  exact ⟨f, fd, F.up h, r⟩
theorem CalG.toX {k : Nat} {x : Str} {ps : List Str} {sp : Sp} (c : CalG P w K mg base k x ps sp) : CalX P w K mg base k x ps sp := by
  obtain ⟨f, fd, F, r⟩ := c
  exact ⟨f, fd, F.toX, r⟩
theorem Def.calX {x qual : Str} {st : Stmt} {ps : List Str} (d : Def K mg x qual st ps) {k : Nat} {sp : Sp} (h : ∀ f fd, Fun K x qual st f fd → FnG P w K mg base (L2.CX P w) k f fd ps sp) : CalX P w K mg base k x ps sp := by
  obtain ⟨f, fd, F, b, g⟩ := d
  exact ⟨f, fd, h f fd F, F.kp, b, g⟩
/-- .. called with n values by position and keywords ks; gV puts them in the parameters' order -/
def CalK (P : Program) (w : World) (K : PySem.W.Frag) (mg : Str → Option Value) (base : Heap) (k : Nat) (x : Str) (ps : List Str) (n : Nat) (ks : List Str) (gV : List V → List V → List V) (sp : Sp) : Prop :=
  ∃ (f : Addr) (fd : FuncData) (g : List Value → List Value → List Value), FnG P w K mg base (L2.CX P w) k f fd ps sp ∧ PySem.W.keepIn K (.ref f) = true ∧ KBn K fd ps n ks g gV ∧ mg x = some (.ref f)
theorem CalK.up {j k n : Nat} {x : Str} {ps ks : List Str} {gV : List V → List V → List V} {sp : Sp} (c : CalK P w K mg base j x ps n ks gV sp) (h : j ≤ k) : CalK P w K mg base k x ps n ks gV sp := by
  obtain ⟨f, fd, g, F, r⟩ := c
  exact ⟨f, fd, g, F.up h, r⟩
/-- the top's def with keyword-only parameters and no defaults -/
def DefK (K : PySem.W.Frag) (mg : Str → Option Value) (x qual : Str) (st : Stmt) (ps : List Str) (n : Nat) (ks : List Str) : Prop :=
  ∃ (f : Addr) (fd : FuncData), Fun K x qual st f fd ∧ KBn K fd ps n ks (fun us ws => us ++ ws) (fun vs zs => vs ++ zs) ∧ mg x = some (.ref f)
theorem DefK.calK {x qual : Str} {st : Stmt} {ps ks : List Str} {n : Nat} (d : DefK K mg x qual st ps n ks) {k : Nat} {sp : Sp} (h : ∀ f fd, Fun K x qual st f fd → FnG P w K mg base (L2.CX P w) k f fd ps sp) : CalK P w K mg base k x ps n ks (fun vs zs => vs ++ zs) sp := by
  obtain ⟨f, fd, F, b, g⟩ := d
  exact ⟨f, fd, _, h f fd F, F.kp, b, g⟩
theorem kbn_of {fd : FuncData} {ps ks : List Str} {n : Nat} (h : ∀ us ws : List Value, us.length = n → ws.length = ks.length → bindArgs fd ⟨us, ks.zip ws⟩ = pure (ps.zip (us ++ ws))) : KBn K fd ps n ks (fun us ws => us ++ ws) (fun vs zs => vs ++ zs) :=
  ⟨fun s us ws _ h1 h2 => .of_eq (h us ws h1 h2), fun r1 r2 => r1.append r2⟩
end
section
variable {X : Cx}
/-- nothing is raised -/
theorem neverAt (σ : L2.St) : PassesAt (L2.CX X.prog X.w) X σ ((fun _ => E0) σ) := by
  rintro pins H s e s' I ⟨a, B, H', cls, d, _, _, _, _, _, _, _, no⟩
  exact no.elim
theorem runX {k : Nat} {f : Addr} {fd : FuncData} {ps : List Str} {sp : Sp} {E : L2.St → XK} {args : Args} {pins : List (Addr × Obj)} {σ : L2.St} {H : Hp} {s : Shared} {Q : VK} {us : List Value} {vs : List V}
    (F : FnG X.prog X.w X.K X.mg X.base (L2.CX X.prog X.w) k f fd ps sp) (g : Gd X.A) (room : Room k X.A) (hb : BindsTo s fd args (ps.zip us)) (hx : PassesAt (L2.CX X.prog X.w) X σ (E σ))
    (I : Inv X pins σ H s) (r : Vals vs us) (want : sp vs H Q (E σ)) : wpAny (model X.prog X.w) X.A (call (.ref f) args.pos args.kw) (EP X pins σ Q) X.xe s := by
  have hc := F.run X.A X.stack s H args us vs Q (E σ) g room I.env0 hb r want
  refine wpAny_call (codeAny_mono hc ?_)
  intro res s' hres
  match res, hres with
  | .error e, hres => exact hx pins H s e s' I hres
  | .ok (.ret u), hres => exact I.after hres
def tClX (sp : Sp) (E : L2.St → XK) (t : TA) : TE := fun σ H Q => t σ H fun vs H1 => sp vs H1 Q (E σ)
theorem pe_calX {x : Str} {ps : List Str} {sp : Sp} {k : Nat} {e : Expr} {es : List Expr} {t : TA} {E : L2.St → XK} {p pos : Pos} (c : CalX X.prog X.w X.K X.mg X.base k x ps sp) (g : Gd X.A) (room : Room k X.A) (hg : Gl X x) (hx : ∀ σ, PassesAt (L2.CX X.prog X.w) X σ (E σ)) (h : PA X (e :: es) t)
    (hdb : (x == ("__debug__" : Str)) = false := by decide) (hst : starEach (e :: es) X.env = (false, eval e X.env) :: starEach es X.env := by rfl) (hpl : (backTo pos (starEach es X.env)).any (·.1) = false := by rfl) :
    PE X (.Call (.Name x p) (e :: es) [] pos) (tClX sp E t) := by
  obtain ⟨f, fd, F, kp, b, hm⟩ := c
  refine ⟨fun pins s σ H Q I want => wpAny_Call_Name_kw (ld_glob I hg hm ?_ hdb)⟩
  refine PySem.W.callWith_K (h₀ := X.base) I.ok.mod.kin kp (thn (h.run pos pins s σ H _ I want) fun us s1 ⟨vs, H1, I1, r, q⟩ => ⟨I1.kIn, ?_⟩) hst hpl
  have hl : us.length = ps.length := r.length.symm.trans (F.len _ _ _ _ q)
  have b1 := b s1 us I1.kIn (by rw [List.append_nil]; exact hl)
  rw [List.append_nil] at b1
  exact runX (args := ⟨us, []⟩) F g room b1 (hx σ) I1 r q
def tClK (n m : Nat) (sp : Sp) (gV : List V → List V → List V) (E : L2.St → XK) (t tk : TA) : TE := fun σ H Q => t σ H fun vs H1 => tk σ H1 fun zs H2 => vs.length = n ∧ zs.length = m ∧ sp (gV vs zs) H2 Q (E σ)
theorem pe_calK {x : Str} {ps ks : List Str} {n : Nat} {gV : List V → List V → List V} {sp : Sp} {k : Nat} {e : Expr} {es : List Expr} {kws : List Keyword} {t tk : TA} {E : L2.St → XK} {p pos : Pos} (c : CalK X.prog X.w X.K X.mg X.base k x ps n ks gV sp) (g : Gd X.A) (room : Room k X.A) (hg : Gl X x)
    (hx : ∀ σ, PassesAt (L2.CX X.prog X.w) X σ (E σ)) (h : PA X (e :: es) t) (hk : PK X kws tk) (hall : (backToKw pos (keywordEach kws X.env)).all (·.1.isSome) = true := by rfl) (hks : (backToKw pos (keywordEach kws X.env)).filterMap (·.1) = ks := by rfl)
    (hdb : (x == ("__debug__" : Str)) = false := by decide) (hst : starEach (e :: es) X.env = (false, eval e X.env) :: starEach es X.env := by rfl)
    (hpl : ((backTo pos (starEach (e :: es) X.env)).any (·.1) || (backToKw pos (keywordEach kws X.env)).any (·.1.isNone)) = false := by rfl) :
    PE X (.Call (.Name x p) (e :: es) kws pos) (tClK n ks.length sp gV E t tk) := by
  obtain ⟨f, fd, gg, F, kp, b, hm⟩ := c
  refine ⟨fun pins s σ H Q I want => wpAny_Call_Name_kw (ld_glob I hg hm ?_ hdb)⟩
  refine PySem.W.callWith_KW (h₀ := X.base) I.ok.mod.kin kp hall (thn (h.run pos pins s σ H _ I want) ?_) hpl hst
  rintro us s1 ⟨vs, H1, I1, r, q⟩
  refine thn (hk.run pos pins s1 σ H1 _ I1 q) ?_
  rintro ws s2 ⟨zs, H2, I2, rz, l1, l2, q2⟩
  refine ⟨I2.kIn, ?_⟩
  rw [hks]
  exact runX (args := ⟨us, ks.zip ws⟩) F g room (b.to s2 us ws I2.kIn (r.length.symm.trans l1) (rz.length.symm.trans l2)) (hx σ) I2 (b.rel r rz) q2
end
end Gx

set_option maxRecDepth 100000
set_option maxHeartbeats 4000000
namespace Mx
open PySem PySem.Spec PyProof.Rows L2 Gx
/-! ### names: the mathematics -/
def isLow (c : Nat) : Bool := decide (97 ≤ c ∧ c ≤ 122)
/-- whether a text is a name -/
def nameB (z : Str) : Bool := (decide (1 ≤ z.cps.size) && decide (z.cps.size ≤ 8)) && z.cps.toList.all isLow
theorem low_facts : ∀ c, c < 128 → (isLow c = true → Unicode.isAlpha c = true ∧ Unicode.isLower c = true ∧ Unicode.isUpper c = false ∧ Unicode.isTitle c = false) ∧ (Unicode.isAlpha c = true → Unicode.isUpper c = false → isLow c = true) := by decide +kernel
theorem isLow_lt {c : Nat} (h : isLow c = true) : c < 128 := by
  have := of_decide_eq_true h
  omega
/-- what is_name reckons of a text -/
theorem name_by (z : Str) (h1 : 1 ≤ z.cps.size) : (Txt.isascii z && (Txt.isalpha z && Txt.islower z)) = z.cps.toList.all isLow := by
  have hl : z.length = z.cps.size := rfl
  unfold Txt.isascii Txt.isalpha Txt.islower
  rw [Bool.eq_iff_iff]
  simp only [Bool.and_eq_true, Array.all_eq_true', Array.any_eq_true', List.all_eq_true, decide_eq_true_eq, Bool.not_eq_true', Array.any_eq_false', Bool.or_eq_true, not_or, Bool.not_eq_true, Array.mem_toList_iff, hl]
  constructor
  · rintro ⟨ha, ⟨_, hb⟩, _, hd⟩ c hc
    exact (low_facts c (ha c hc)).2 (hb c hc) (hd c hc).1
  · intro h
    have f := fun c hc => (low_facts c (isLow_lt (h c hc))).1 (h c hc)
    refine ⟨fun c hc => isLow_lt (h c hc), ⟨h1, fun c hc => (f c hc).1⟩, ⟨z.cps[0], Array.getElem_mem (by omega), (f _ (Array.getElem_mem (by omega))).2.1⟩, fun c hc => ⟨(f c hc).2.2.1, (f c hc).2.2.2⟩⟩
/-! ### counts -/
def abcL : List Nat := [97,98,99,100,101,102,103,104,105,106,107,108,109,110,111,112,113,114,115,116,117,118,119,120,121,122]
theorem count_cnt (x : Str) (c : Nat) : Txt.count x ⟨#[c]⟩ = cnt c x.cps.toList := count_is x c
theorem one_sum (n : Nat) : ∀ L : List Nat, L.Nodup → (L.map fun c => if n = c then (1 : Int) else 0).sum = if n ∈ L then 1 else 0
  | [], _ => rfl
  | a :: L, h => by
    obtain ⟨h1, h2⟩ := List.nodup_cons.mp h
    rw [List.map_cons, List.sum_cons, one_sum n L h2]
    by_cases e : n = a
    · subst e
      rw [if_pos rfl, if_neg h1, if_pos (List.mem_cons_self ..)]
      rfl
    · rw [if_neg e]
      by_cases m : n ∈ L
      · rw [if_pos m, if_pos (List.mem_cons_of_mem _ m)]; rfl
      · rw [if_neg m, if_neg (by
          rw [List.mem_cons]
          rintro (z | z)
          · exact e z
          · exact m z)]; rfl
theorem cnt_sum (L : List Nat) (hL : L.Nodup) : ∀ l : List Nat, (L.map fun c => cnt c l).sum = (l.countP (fun n => decide (n ∈ L)) : Nat)
  | [] => by
    have : ∀ L : List Nat, (L.map fun c => cnt c []).sum = 0 := fun L => by
      induction L with
      | nil => rfl
      | cons a L ih => rw [List.map_cons, List.sum_cons, ih]; rfl
    rw [this]
    rfl
  | n :: r => by
    have h : ∀ L : List Nat, (L.map fun c => cnt c (n :: r)).sum = (L.map fun c => if n = c then (1 : Int) else 0).sum + (L.map fun c => cnt c r).sum := fun L => by
      induction L with
      | nil => rfl
      | cons a L ih => rw [List.map_cons, List.sum_cons, ih, cnt_cons, List.map_cons, List.sum_cons, List.map_cons, List.sum_cons]; omega
    rw [h, one_sum n L hL, cnt_sum L hL r, List.countP_cons]
    by_cases m : n ∈ L
    · rw [if_pos m, if_pos (decide_eq_true m)]; omega
    · rw [if_neg m, if_neg (by rw [decide_eq_false m]; decide)]; omega
theorem mem_abc (n : Nat) : n ∈ abcL ↔ isLow n = true := by
  unfold isLow
  rw [decide_eq_true_eq]
  constructor
  · intro h
    have : ∀ n ∈ abcL, 97 ≤ n ∧ n ≤ 122 := by decide
    exact this n h
  · intro h
    have : ∀ n, n < 123 → 97 ≤ n → n ∈ abcL := by decide
    exact this n (by omega) h.1
/-- all letters' counts together -/
def known (z : Str) (L : List Nat) : Int := (L.map fun c => Txt.count z ⟨#[c]⟩).sum
theorem known_eq (z : Str) : known z abcL = (z.cps.toList.countP isLow : Nat) := by
  unfold known
  have e : (abcL.map fun c => Txt.count z ⟨#[c]⟩) = abcL.map fun c => cnt c z.cps.toList := List.map_congr_left fun c _ => count_cnt z c
  rw [e, cnt_sum abcL (by decide)]
  congr 2
  funext n
  rw [Bool.eq_iff_iff, decide_eq_true_eq, mem_abc]
theorem due_eq (z : Str) : (decide (known z abcL = (z.cps.size : Int)) && (decide ((0 : Int) < known z abcL) && decide (known z abcL < 9))) = nameB z := by
  rw [known_eq]
  unfold nameB
  have hz : z.cps.size = z.cps.toList.length := by simp
  have hle := List.countP_le_length (p := isLow) (l := z.cps.toList)
  by_cases h : z.cps.toList.countP isLow = z.cps.toList.length
  · have ha : z.cps.toList.all isLow = true := by
      rw [List.all_eq_true]
      exact List.countP_eq_length.mp h
    rw [ha, h, hz]
    generalize z.cps.toList.length = n
    rw [Bool.and_true, decide_eq_true (show (n : Int) = (n : Int) from rfl), Bool.true_and]
    have e1 : decide ((0 : Int) < (n : Int)) = decide (1 ≤ n) := decide_eq_decide.mpr (by omega)
    have e2 : decide ((n : Int) < 9) = decide (n ≤ 8) := decide_eq_decide.mpr (by omega)
    rw [e1, e2]
  · have ha : z.cps.toList.all isLow = false := by
      rw [Bool.eq_false_iff]
      intro q
      rw [List.all_eq_true] at q
      exact h (List.countP_eq_length.mpr q)
    rw [ha, Bool.and_false, decide_eq_false (by omega), Bool.false_and]
theorem known_step (z : Str) {L : List Nat} {i c : Nat} (h : L[i]? = some c) : known z (L.take (i + 1)) = known z (L.take i) + Txt.count z ⟨#[c]⟩ := by
  unfold known
  have e : (L.map fun c => Txt.count z ⟨#[c]⟩)[i]? = some (Txt.count z ⟨#[c]⟩) := by rw [List.getElem?_map, h]; rfl
  rw [List.map_take, List.map_take, sum_take e]
end Mx

set_option maxRecDepth 100000
set_option maxHeartbeats 4000000
namespace Mx
open PySem PySem.Spec PyProof.Rows L2 Gx
/-! ### the order of texts -/
/-- a is not behind b -/
def leS (a b : Str) : Prop := ¬ b.cps.toList < a.cps.toList
theorem leS_iff (a b : Str) : leS a b ↔ ltCps b.cps.toList a.cps.toList = false := by
  rw [ltCps_eq, decide_eq_false_iff_not]
  exact Iff.rfl
theorem leS_anti {a b : Str} (h1 : leS a b) (h2 : leS b a) : a = b := by
  have e : a.cps.toList = b.cps.toList := List.le_antisymm (as := a.cps.toList) (bs := b.cps.toList) h1 h2
  cases a
  cases b
  simp only [Str.mk.injEq]
  exact Array.toList_inj.mp e
theorem leS_refl (a : Str) : leS a a := List.lt_irrefl _
theorem leS_trans {a b c : Str} (h1 : leS a b) (h2 : leS b c) : leS a c :=
  List.le_trans (l₁ := a.cps.toList) (l₂ := b.cps.toList) (l₃ := c.cps.toList) h1 h2
theorem leS_total (a b : Str) : leS a b ∨ leS b a := List.le_total a.cps.toList b.cps.toList
theorem risingS_iff : ∀ (l : List Str) (p : Str), risingS p l = true ↔ (p :: l).Pairwise leS
  | [], p => by simp [risingS]
  | x :: r, p => by
    rw [risingS, Bool.and_eq_true, risingS_iff r x, Bool.not_eq_true', ← leS_iff]
    constructor
    · rintro ⟨h1, h2⟩
      refine List.pairwise_cons.mpr ⟨fun y hy => ?_, h2⟩
      rcases List.mem_cons.mp hy with rfl | hy
      · exact h1
      · exact leS_trans h1 ((List.pairwise_cons.mp h2).1 y hy)
    · intro h
      obtain ⟨h1, h2⟩ := List.pairwise_cons.mp h
      exact ⟨h1 x (List.mem_cons_self ..), h2⟩
theorem sortedS_iff (l : List Str) : sortedS l = true ↔ l.Pairwise leS := by
  cases l with
  | nil => simp [sortedS]
  | cons x r => exact risingS_iff r x
theorem sortedS_unique {l m : List Str} (h : l.Perm m) (hl : sortedS l = true) (hm : sortedS m = true) : l = m :=
  List.Perm.eq_of_pairwise (fun _ _ _ _ => leS_anti) ((sortedS_iff l).mp hl) ((sortedS_iff m).mp hm) h
/-- a list of texts is what sorting makes of it just if it is sorted -/
theorem eq_sorted_iff {l m : List Str} (h : m.Perm l) (hm : sortedS m = true) : decide (l = m) = sortedS l := by
  cases e : sortedS l with
  | true => exact decide_eq_true (sortedS_unique h.symm e hm)
  | false => exact decide_eq_false fun q => by rw [q, hm] at e; cases e
/-! ### data of texts -/
def tD (xs : List Str) : List PyData := xs.map PyData.str
theorem eqv_texts : ∀ xs ys : List Str, PyData.eqvAll (tD xs) (tD ys) = decide (xs = ys)
  | [], [] => by simp [tD, PyData.eqvAll]
  | [], y :: ys => by simp [tD, PyData.eqvAll]
  | x :: xs, [] => by simp [tD, PyData.eqvAll]
  | x :: xs, y :: ys => by
    have ih := eqv_texts xs ys
    unfold tD at ih ⊢
    rw [List.map_cons, List.map_cons, PyData.eqvAll, ih, PyData.eqv]
    by_cases h : x = y
    · subst h
      by_cases h2 : xs = ys
      · subst h2
        simp
      · rw [decide_eq_false h2, Bool.and_false, decide_eq_false fun q => h2 (List.cons.inj q).2]
    · rw [decide_eq_false fun q => h (List.cons.inj q).1, beq_eq_false_iff_ne.mpr h, Bool.false_and]
theorem dp_texts {K : PySem.W.Frag} {H : Hp} : ∀ xs : List Str, DpAll K H (xs.map V.str) (tD xs)
  | [] => .nil
  | x :: xs => .cons (.str x) (dp_texts xs)
theorem canLay_texts : ∀ xs : List Str, (∀ x ∈ xs, PyData.strOk x = true) → PyData.canLayAll0 (tD xs) = true
  | [], _ => by simp [tD, PyData.canLayAll0]
  | x :: xs, h => by
    have ih := canLay_texts xs fun y hy => h y (List.mem_cons_of_mem _ hy)
    unfold tD at ih ⊢
    rw [List.map_cons, PyData.canLayAll0, ih, PyData.canLay0, h x (List.mem_cons_self ..)]
    rfl
theorem depth_texts : ∀ xs : List Str, PyData.depthAll (tD xs) ≤ 1
  | [] => by simp [tD, PyData.depthAll]
  | x :: xs => by
    have ih := depth_texts xs
    unfold tD at ih ⊢
    rw [List.map_cons, PyData.depthAll]
    simp only [PyData.depth]
    omega
theorem shaped_texts {xs : List Str} (h : ∀ x ∈ xs, PyData.strOk x = true) : SeqAt.shaped (.list (tD xs)) = true := by
  unfold SeqAt.shaped
  rw [Bool.and_eq_true]
  refine ⟨by simp only [PyData.canLay0]; exact canLay_texts xs h, decide_eq_true ?_⟩
  have := depth_texts xs
  simp only [PyData.depth]
  omega
theorem shaped_textsT {xs : List Str} (h : ∀ x ∈ xs, PyData.strOk x = true) : SeqAt.shaped (.tuple (tD xs)) = true := by
  unfold SeqAt.shaped
  rw [Bool.and_eq_true]
  refine ⟨by simp only [PyData.canLay0]; exact canLay_texts xs h, decide_eq_true ?_⟩
  have := depth_texts xs
  simp only [PyData.depth]
  omega
end Mx

set_option maxRecDepth 100000
set_option maxHeartbeats 4000000
namespace Gx
open PySem PySem.Spec PyProof.Rows L2 SeqAt
open AutoSeq1 (wpAny_loadPart')
/-! ### a dict is no tuple -/
theorem tup_eq_dict (l b : Addr) (items : Array Value) (n : Nat) (dd dd2 : Option Addr) (sl sl2 : Array (Option Value)) (d2 : Data) :
    Meets (Builtin.«tuple.__eq__» ⟨[.ref l, .ref b], []⟩) (fun _ R s => s.heap.get? l = some { cls := .type "tuple", dict := dd, data := .seq items n, slots := sl } ∧ s.heap.get? b = some { cls := .type "dict", dict := dd2, data := d2, slots := sl2 } ∧ R (.ok (.ret .notImplemented)) s) :=
  .of_wp fun prog w A R s h => by obtain ⟨hp, g, d, tk, os⟩ := s; obtain ⟨hl, hb, h⟩ := h; have f1 := F.sub_dict_tuple; wp_walk using wpAny_loadPart' hl, wpAny_loadPart' hb; exact ⟨_, rfl, h⟩
theorem dict_eq_tup {prog : Program} {w : World} {A : Around} {E : Value → Shared → Prop} {s : Shared} {Q : Value → Shared → Prop} {a b : Addr} (da : s.TypeIs (.ref a) "dict") (hb : s.TypeIs (.ref b) "tuple") (h : Q .notImplemented s) :
    wpAny (model prog w) A (call (.builtin "dict.__eq__") [.ref a, .ref b]) Q E s := by
  refine wpAny_call_entry PySem.F.slot_dict_eq da PySem.F.entry_dict_eq ?_ (PySem.F.args_dict_eq_2 _ _)
  show wpAny _ _ (Builtin.Dict.dictSlotArgs "__eq__" ⟨[.ref a, .ref b], []⟩ >>= _) _ _ s
  refine wpAny_bind ?_
  unfold Builtin.Dict.dictSlotArgs
  refine wpAny_bind (wpAny_notOrdered_dict da ?_)
  show wpAny _ _ (pure (Value.ref a, Value.ref b)) _ _ s
  refine wpAny_pure ?_
  refine wpAny_bind (wpAny_isInstance (T := "tuple") hb PySem.F.sub_tuple_dict ?_)
  simp only [Bool.not_false, if_true]
  exact wpAny_bind (wpAny_rule (wpAny_bind (wpAny_pure (wpAny_pure ⟨_, rfl, h⟩))))
section
variable {A : Around} {s : Shared}
theorem eqAt_tup_dict {l b : Addr} {items : Array Value} {ob : Obj} (hl : s.heap.IsTuple l items) (hb : s.heap.get? b = some ob) (hcb : ob.cls = .type "dict") (hu : A.units < cLine) : EqAt A s (.ref l) (.ref b) false := by
  obtain ⟨⟨cls, dd, data, sl⟩, ho, hc, n, hd⟩ := id hl
  simp only at hc hd
  subst hc hd
  obtain ⟨cls2, dd2, data2, sl2⟩ := ob
  simp only at hcb
  subst hcb
  have hne : l ≠ b := fun e => by
    subst e
    rw [ho] at hb
    exact absurd (congrArg Obj.cls (Option.some.inj hb)) (by simp)
  refine .of_refs hne fun prog w E Q h => ?_
  exact rc_eq_decline_or (k := false) ⟨_, ho, rfl⟩ ⟨_, hb, rfl⟩ (by decide) F.sub_dict_tuple F.slot_tuple_eq F.slot_dict_eq_refl
    (fun _ hq => call_meets F.slot_tuple_eq ⟨_, ho, rfl⟩ F.entry_tuple_eq (F.args_tuple_eq_2 _ _) (tup_eq_dict l b items n dd dd2 sl sl2 data2) ⟨ho, hb, hq⟩)
    (fun _ hq => dict_eq_tup ⟨_, hb, rfl⟩ ⟨_, ho, rfl⟩ hq)
    (fun _ hq => wpAny_isSame_ref_other' hne ho hb (by simp) hq) (.inr hu) h
end
section
variable {X : Cx}
/-- x in a list, data that are not deep -/
def rInF (K : PySem.W.Frag) : R2 := fun x y H Q => ∃ d ds, Dp K H x d ∧ Dp K H y (.list ds) ∧ d.canLay0 = true ∧ PyData.canLayAll0 ds = true ∧ d.depth ≤ 10 ∧ Q (.bl (ds.any fun z => PyData.eqv z d)) H
theorem op_inF (hu : X.A.units + 64 < cLine) : OpR X (compareOp .In) (rInF X.K) := by
  intro pins s σ H x y v u Q I rx ry h
  obtain ⟨d, ds, hd, he, sd, se, dp, q⟩ := h
  obtain ⟨as, r1⟩ := Dp.reads I d x v hd rx
  obtain ⟨bs, r2⟩ := Dp.reads I (.list ds) y u he ry
  exact SeqAt.in_list_reads r2 r1 se sd (by omega) ⟨.bl _, H, I, rfl, q⟩
/-- a dict in a list of tuples: it is not in it -/
def rInDict (K : PySem.W.Frag) : R2 := fun x y H Q => ∃ (a l : Addr) (kvs : List (Key × V)) (ps : List Addr), x = .ref a ∧ H a = some (.dK kvs) ∧ y = .ref l ∧ SqL K H l (ps.map V.ref) ∧ (∀ p ∈ ps, ∃ xs, SqT K H p xs) ∧ Q (.bl false) H
theorem op_inDict (hu : X.A.units + 64 < cLine) : OpR X (compareOp .In) (rInDict X.K) := by
  intro pins s σ H x y v u Q I rx ry h
  obtain ⟨a, l, kvs, ps, rfl, ea, rfl, hl, hp, q⟩ := h
  cases rx
  cases ry
  obtain ⟨its, rv, pl, hz⟩ := I.list hl
  have ei := refs_at rv
  subst ei
  obtain ⟨_, _, vs, _, hd⟩ := dk_of I.hok ea
  obtain ⟨ob, hb, hD⟩ := Heap.dictOf_iff.mp hd
  have hcb : ob.cls = .type "dict" := by
    obtain ⟨es, ep, ex, _⟩ := hD
    exact ex.1
  refine SeqAt.in_listAt (fun _ => false) pl.isList (fun y hy => ?_) ⟨.bl false, H, I, ?_, q⟩
  · rw [List.mem_toArray] at hy
    obtain ⟨p, hpm, rfl⟩ := List.mem_map.mp hy
    obtain ⟨xs, hx⟩ := hp p hpm
    obtain ⟨its2, _, ht, _⟩ := I.tuple hx
    exact eqAt_tup_dict ht hb hcb (by show X.A.units + 1 < cLine; omega)
  · show Value.bool _ = Value.bool false
    rw [Array.any_eq_false' |>.mpr (fun _ _ => by simp)]
end
end Gx

set_option maxRecDepth 100000
set_option maxHeartbeats 4000000
/-! own errors over a built-in error that takes another's maker (KeyError takes LookupError's) -/
namespace Gx
open PySem PySem.Spec PySem.Calls Builtin
/-- what making asks of the chain -/
structure Chn (B : String) (bm : List Value) : Prop where
  own : bm.contains (.type B) = true
  att : bm.contains (.type "AttributeError") = false
  nam : bm.contains (.type "NameError") = false
section
variable {M : Model} {prog : Program} {w : World} {A : Around} {E : Value → Shared → Prop} {R : Result → Shared → Prop} {hp : Heap} {gn : Array GenState} {dr : Drawn} {tk : Nat} {os : OsState}
variable {nm q : Str} {C N : Addr} {bs bm bmB : List Value} {hdct : Bool} {sn : List Str} {sub : List Value} {ab : Bool} {col : Option Bool} {dd : Option Addr} {k0 k1 k2 k3 k5 : Option Value} {B mk ini : String}
theorem kx_check (F : ExcBaseFacts B mk ini bmB) (ch : Chn B bm) {us : List Value} {Q : Unit → Shared → Prop} (cc : hp.get? C = some (excClassObj nm q C N bs bm hdct sn sub ab col dd k0 k1 k2 k3 k5 mk)) (hq : Q () ⟨hp, gn, dr, tk, os⟩) :
    wpAny M A (checkBuiltinCall mk ⟨.ref C :: us, []⟩) Q E ⟨hp, gn, dr, tk, os⟩ := by
  have c1 : (Value.ref C :: bm).contains (.type B) = true := by rw [List.contains_cons, ch.own, Bool.or_true]
  have st := F.noStar
  simp only [F.newRow, F.newSplit, F.newKind, checkBuiltinCall]
  repeat (first | refine wpAny_loadPart_at cc ?_ | (refine wpAny_isSubtype_exc cc ?_; rw [c1]) | refine wpAny_staticBase_exc cc ?_ | refine wpAny_madeBy_exc cc ?_ | simp only [bne_self_eq_false, Bool.false_eq_true, if_false] | wp_step)
  exact hq
theorem kx_new (F : ExcBaseFacts B mk ini bmB) (ch : Chn B bm) {us : List Value} (cc : hp.get? C = some (excClassObj nm q C N bs bm hdct sn sub ab col dd k0 k1 k2 k3 k5 mk))
    (hq : R (.ok (.ret (.ref (hp.objs.size + 1)))) ⟨(hp.push (W.kdv_tup us)).push (W.excObj C hp.objs.size none .none), gn, dr, tk, os⟩) (hz : us.length ≤ sizeLine) :
    codeAny (model prog w) A (.builtin mk ⟨.ref C :: us, []⟩) R ⟨hp, gn, dr, tk, os⟩ := by
  have fe := F.ends
  have c1 : (Value.ref C :: bm).contains (.type B) = true := by rw [List.contains_cons, ch.own, Bool.or_true]
  have c2 : (Value.ref C :: bm).contains (.type "AttributeError") = false := by rw [List.contains_cons, ch.att]; rfl
  have c3 : (Value.ref C :: bm).contains (.type "NameError") = false := by rw [List.contains_cons, ch.nam]; rfl
  refine codeAny_builtinAt F.entry ?_
  unfold Builtin.«BaseException.__new__»
  refine wpAt_bind ?_
  show wpAt _ _ _ (stack >>= _) _ _ _
  refine wpAt_bind (wpAt_stack fun p0 low => wpAt_of_wpAny ?_)
  wp_walk
  refine wpAt_of_wpAny ?_
  rw [F.owner]
  repeat (first | with_reducible refine wpAny_madeHere_exc F.canon cc ?_ | with_reducible refine wpAny_loadPart_at cc ?_ | (with_reducible refine wpAny_isSubtype_exc cc ?_; first | rw [c1] | rw [c2] | rw [c3]) | wp_step)
  show R _ _
  rw [Heap.size_push]
  exact hq
theorem kx_type (F : ExcBaseFacts B mk ini bmB) (ch : Chn B bm) {us : List Value} {fI : Addr} {Q : Fin → Shared → Prop} (cc : hp.get? C = some (excClassObj nm q C N bs bm hdct sn sub ab col dd k0 k1 k2 k3 k5 mk))
    (li : W.Looks (model prog w) hp (typeLookup (.ref C) "__init__") (some (.ref fI))) (lb : ∀ o, W.Looks (model prog w) hp (bindSpecial (.ref fI) o) (.ref fI, [o])) (hz : us.length ≤ sizeLine)
    (hq : codeAny (model prog w) A (.call (.ref fI) ⟨.ref (hp.objs.size + 1) :: us, []⟩)
      (fun r s' => match r with | .ok (.ret v) => v = .none ∧ Q (.done (.ret (.ref (hp.objs.size + 1)))) s' | .ok _ => False | .error e => E e s')
      ⟨(hp.push (W.kdv_tup us)).push (W.excObj C hp.objs.size none .none), gn, dr, tk, os⟩) : wpAny (model prog w) A (Builtin.«type.__call__» ⟨.ref C :: us, []⟩) Q E ⟨hp, gn, dr, tk, os⟩ := by
  repeat (first | with_reducible refine wpAny_loadPart_at cc ?_ | with_reducible refine wpAny_madeBy_exc cc ?_ | wp_step)
  refine codeAny_call_builtin_code (Code.quiet_builtin _ F.quiet) (kx_check F ch cc ?_)
  refine kx_new F ch cc ?_ hz
  show wpAny _ _ _ _ _ _
  have old : ∀ b o, hp.get? b = some o → ((hp.push (W.kdv_tup us)).push (W.excObj C hp.objs.size none .none)).get? b = some o := fun b o e => Heap.get?_push_of_some _ (Heap.get?_push_of_some _ e)
  have cc1 := old _ _ cc
  have ne : ((hp.push (W.kdv_tup us)).push (W.excObj C hp.objs.size none .none)).get? (hp.objs.size + 1) = some (W.excObj C hp.objs.size none .none) := by heap_get
  have cs : (Value.ref C :: bm).contains (.ref C) = true := by simp
  have li1 := li.keeps old
  have lb1 := (lb (.ref (hp.objs.size + 1))).keeps old
  unfold isInstance
  repeat (first | with_reducible refine wpAny_loadPart_at ne ?_ | (with_reducible refine wpAny_isSubtype_exc cc1 ?_; rw [cs]) | wp_step)
  show wpAny _ _ (typeLookup (.ref C) _) _ _ _
  refine li1.at ?_
  refine wpAny_holding (wpAny_bind (lb1.at ?_))
  refine wpAny_bind (wpAny_call (codeAny_mono hq fun r s1 z => ?_))
  rcases r with e | (v | _ | _ | _) <;> first | exact z | exact z.elim | skip
  obtain ⟨rfl, z⟩ := z
  first | exact wpAny_pure (wpAny_pure z) | (wp_walk; exact z)
theorem kx_call (F : ExcBaseFacts B mk ini bmB) (ch : Chn B bm) {us : List Value} {fI : Addr} (cc : hp.get? C = some (excClassObj nm q C N bs bm hdct sn sub ab col dd k0 k1 k2 k3 k5 mk))
    (li : W.Looks (model prog w) hp (typeLookup (.ref C) "__init__") (some (.ref fI))) (lb : ∀ o, W.Looks (model prog w) hp (bindSpecial (.ref fI) o) (.ref fI, [o])) (hz : us.length ≤ sizeLine)
    (hq : codeAny (model prog w) (A.under (.builtin "type.__call__" ⟨.ref C :: us, []⟩)) (.call (.ref fI) ⟨.ref (hp.objs.size + 1) :: us, []⟩) (W.InitBack (hp.objs.size + 1) R)
      ⟨(hp.push (W.kdv_tup us)).push (W.excObj C hp.objs.size none .none), gn, dr, tk, os⟩) : codeAny (model prog w) A (.call (.ref C) ⟨us, []⟩) R ⟨hp, gn, dr, tk, os⟩ := by
  have t1 := tc_lookup
  have t2 := tc_bind (.ref C)
  have t3 : (⟨hp, gn, dr, tk, os⟩ : Shared).TypeIs (.ref C) "type" := ⟨_, cc, rfl⟩
  refine codeAny_of_tree ?_
  show wpAny _ _ (callAny (.ref C) _) _ _ _
  repeat (any_goals (first | assumption | with_reducible refine wpAny_loadPart_at cc ?_ | wp_step))
  refine ⟨rfl, ?_⟩
  refine codeAny_call_builtin_at (Code.quiet_builtin _ (by decide +kernel)) entry_typeCall (wpAny_check_type_call_sub cc (kx_type F ch cc li lb hz ?_))
  refine codeAny_mono hq fun r s1 z => ?_
  rcases r with e | (v | _ | _ | _) <;> exact z
end
end Gx
namespace Gx
open PySem PySem.Spec PySem.W PySem.Calls PyProof.Rows L2
/-! ### own errors with one field, made, over any base -/
/-- a base: the maker's facts, and what each chain over it holds -/
structure XBase (B mk ini : String) (bmF bmB : List Value) : Prop where
  F : ExcBaseFacts B mk ini bmF
  ch : ∀ bm : List Value, excTail bmB bm = true → Chn B bm
theorem xbase_of {B mk ini : String} {bmB : List Value} (F : ExcBaseFacts B mk ini bmB) : XBase B mk ini bmB bmB :=
  ⟨F, fun bm t => ⟨by rw [excTail_contains _ bm t]; exact F.hasB, by rw [excTail_contains _ bm t]; exact F.noAttr, by rw [excTail_contains _ bm t]; exact F.noName⟩⟩
abbrev bmKey : List Value := [.type "KeyError", .type "LookupError", .type "Exception", .type "BaseException", .type "object"]
theorem xbase_KeyError : XBase "LookupError" "LookupError.__new__" "LookupError.__init__" [.type "LookupError", .type "Exception", .type "BaseException", .type "object"] bmKey :=
  ⟨PySem.F.excBase_LookupError, fun bm t => ⟨by rw [excTail_contains _ bm t]; decide +kernel, by rw [excTail_contains _ bm t]; decide +kernel, by rw [excTail_contains _ bm t]; decide +kernel⟩⟩
section
variable {prog : Program} {w : World} {A : Around} {R : Result → Shared → Prop} {s : Shared} {K : Frag} {mg : Str → Option Value} {C fI : Addr} {cn fld : Str} {B mk ini : String} {bmF bmB : List Value}
theorem x_madeC (FB : XBase B mk ini bmF bmB) (T : XTxt K mg cn fld mk bmB C fI) (D : InitDoes K C fI fld) {v : Value} (inK : K.In s.heap) (lim : s.heap.NoLimit) (room : A.depth + 1 < recursionLimit)
    (hq : ∀ h' tk e d, XMade s.heap h' e C d fld v → R (.ok (.ret (.ref e))) { s with heap := h', toks := tk }) : codeAny (model prog w) A (.call (.ref C) ⟨[v], []⟩) R s := by
  obtain ⟨nm, q, N, bs, bm, sn, sub, ab, col, dd, k0, k1, k2, k3, k5, hC, tail⟩ := T.cls
  obtain ⟨hp, g, dr, tk, os⟩ := s
  have stay : ∀ b o, hp.get? b = some o → ((hp.push (kdv_tup [v])).push (excObj C hp.objs.size none .none)).get? b = some o := fun b o e => Heap.get?_push_of_some _ (Heap.get?_push_of_some _ e)
  have there : ((hp.push (kdv_tup [v])).push (excObj C hp.objs.size none .none)).get? (hp.objs.size + 1) = some (excObj C hp.objs.size none .none) := by heap_get
  have fresh : K.lookup (hp.objs.size + 1) = none := by
    cases e : K.lookup (hp.objs.size + 1) with
    | none => rfl
    | some o => exact absurd (Nat.lt_of_succ_lt (Heap.lt_size (inK _ _ e))) (Nat.lt_irrefl _)
  refine kx_call FB.F (FB.ch bm tail) (inK _ _ hC) (looks_findIn inK T.iC) (fun self => bind_fn inK self T.tC) (one_line v) ?_
  refine D prog w _ _ ⟨(hp.push (kdv_tup [v])).push (excObj C hp.objs.size none .none), g, dr, tk, os⟩ _ _ v (inK.keeps stay) (lim.keeps stay) there fresh room fun h' tk' dx M => ?_
  have old : ∀ b o, hp.get? b = some o → h'.get? b = some o := fun b o e => M.keep b o (Nat.ne_of_lt (Nat.lt_succ_of_lt (Heap.lt_size e))) (stay b o e)
  have z : hp.objs.size + 1 + 1 ≤ dx := by
    have q := M.big
    first
      | exact q
      | simpa only [Heap.size_push] using q
  exact ⟨rfl, hq h' tk' (hp.objs.size + 1) dx ⟨old, Nat.le_succ _, ⟨_, _, M.obj, rfl, rfl, rfl, rfl⟩, Nat.le_trans (Nat.le_trans (Nat.le_succ _) (Nat.le_succ _)) z, M.ne, M.ns⟩⟩
end
/-! ### errors as values -/
/-- the error at e, of the class C, its dict at d -/
def ExV (C e : Addr) (d : Option Addr) : HO := .ext fun h => ∃ (oe : Obj) (vs : Array Value), h.get? e = some oe ∧ oe.cls = .ref C ∧ oe.dict = d ∧ oe.data = .fields vs
theorem exV_ok {P : Program} {w : World} {H : Hp} {h : Heap} {C e : Addr} {d : Option Addr} {oe : Obj} {vs : Array Value} (he : h.get? e = some oe) (hc : oe.cls = .ref C) (hd : oe.dict = d) (hf : oe.data = .fields vs) : ObjOk P w H h e (ExV C e d) :=
  ⟨⟨oe, vs, he, hc, hd, hf⟩, ⟨oe, he⟩, fun h1 h2 ⟨o, us, a, b, c, f⟩ k => ⟨o, us, k _ a, b, c, f⟩⟩
theorem exV_at {P : Program} {w : World} {H : Hp} {h : Heap} {C e : Addr} {d : Option Addr} (ok : HOk P w H h) (he : H e = some (ExV C e d)) : ∃ (oe : Obj) (vs : Array Value), h.get? e = some oe ∧ oe.cls = .ref C ∧ oe.dict = d ∧ oe.data = .fields vs :=
  (show ObjOk P w H h e (ExV C e d) from ok e _ he).1
section
variable {X : Cx} {C fI : Addr} {cn fld : Str} {B mk ini : String} {bmF bmB : List Value}
/-- cn(e), the error kept -/
def tMkV (C : Addr) (fld : Str) (ta : TA) : TE := fun σ H Q => ta σ H fun vs H1 => ∃ v, vs = [v] ∧ ∀ d e, H1 d = none → H1 e = none → e ≠ d → Q (.ref e) (upd (upd H1 d (.xd [(fld, v)])) e (ExV C e (some d)))
theorem pe_mkV {a : Expr} {ta : TA} {p pos : Pos} {k : Nat} (FB : XBase B mk ini bmF bmB) (T : XTxt X.K X.mg cn fld mk bmB C fI) (D : InitDoes X.K C fI fld) (room : Room k X.A) (ha : PA X [a] ta) (hg : Gl X cn)
    (hdb : (cn == ("__debug__" : Str)) = false := by decide) (hst : starEach (a :: []) X.env = (false, eval a X.env) :: starEach [] X.env := by rfl) (hpl : (backTo pos (starEach [] X.env)).any (·.1) = false := by rfl) :
    PE X (.Call (.Name cn p) [a] [] pos) (tMkV C fld ta) := by
  refine ⟨fun pins s σ H Q I h => ?_⟩
  refine wpAny_Call_Name_kw (ld_glob I hg T.gC ?_ hdb)
  refine PySem.W.callWith_K (h₀ := X.base) I.ok.mod.kin T.kC (thn (ha.run pos pins s σ H _ I h) ?_) hst hpl
  rintro us s1 ⟨vs, H1, I1, r1, v, rfl, q1⟩
  refine ⟨I1.kIn, ?_⟩
  obtain ⟨u, rfl, rv⟩ := vals1 r1
  show wpAny _ _ (call (.ref C) [u]) _ _ _
  have lim := I1.nolimit
  obtain ⟨hp, g, dr, tk, os⟩ := s1
  refine wpAny_call (x_madeC FB T D I1.kIn lim (by have := room.dp; omega) fun h' tk' e d M => ?_)
  obtain ⟨oe, fv, hoe, hc, hd, hdat, h1⟩ := M.obj
  obtain ⟨G', g1, g2⟩ := restrict h' fun b => decide (b ≠ e)
  have off : ∀ b, b ≠ e → G'.get? b = h'.get? b := fun b hb => g1 b (decide_eq_true hb)
  have gone : G'.get? e = none := g2 e (by simp)
  have old : ∀ b o, hp.get? b = some o → G'.get? b = some o := fun b o q => (off b (Nat.ne_of_lt (Nat.lt_of_lt_of_le (Heap.lt_size q) M.new))).trans (M.keep b o q)
  have ob : ObjOk X.prog X.w (upd H1 d (.xd [(fld, v)])) G' d (.xd [(fld, v)]) := ⟨_, M.ns.at (fun o q => (off d M.ne).trans q), fun f => relO_one rv f⟩
  have J : Inv X pins σ (upd H1 d (.xd [(fld, v)])) ⟨G', g, dr, tk', os⟩ := I1.laid (t' := tk') old M.big ob
  have ne0 : H1 e = none := I1.hok.fresh M.new
  have J2 := J.laidN (h' := h') (t' := tk') (o := ExV C e (some d)) (fun b o q => by
    by_cases hb : b = e
    · have q' : G'.get? b = some o := q
      rw [hb, gone] at q'
      cases q'
    · exact (off b hb).symm.trans q) gone (by rw [upd_ne (Ne.symm M.ne)]; exact ne0) (exV_ok hoe hc hd hdat)
  exact ⟨.ref e, _, J2, rfl, q1 d e (I1.hok.fresh M.big) ne0 (Ne.symm M.ne)⟩
end
end Gx

set_option maxRecDepth 100000
set_option maxHeartbeats 4000000
namespace Gx
open PySem PySem.Spec PySem.W PySem.Calls PyProof.Rows L2
/-! ### own errors without an __init__ of their own, as values -/
/-- what the written part says of such a class -/
structure XPln (K : Frag) (mg : Str → Option Value) (cn : Str) (mk ini : String) (bmB : List Value) (C : Addr) : Prop where
  gC : mg cn = some (.ref C)
  cls : ∃ nm q N bs bm hd sn sub ab col dd k0 k1 k2 k3 k5, K.lookup C = some (excClassObj nm q C N bs bm hd sn sub ab col dd k0 k1 k2 k3 k5 mk) ∧ excTail bmB bm = true
  iC : findIn K (.ref C) "__init__" = some (some (.builtin ini))
  kC : keepIn K (.ref C) = true
/-- .. of any own class of errors, for isinstance -/
structure XCls (K : Frag) (C : Addr) : Prop where
  isC : isClsIn K C = true
  ga : findIn K (.ref C) "__getattribute__" = some (some (.builtin "BaseException.__getattribute__"))
  gg : findIn K (.ref C) "__getattr__" = some none
  ex : subIn K (.ref C) (.type "BaseException") = some true
  cl : findIn K (.ref C) "__class__" = some (some (.builtin "object.__class__"))
  sp : specialIn K (.builtin "object.__class__") "__get__" = some (some (.builtin "getset_descriptor.__get__"))
  ta : takesIn K (.builtin "object.__class__") = some true
  ob : mroIn K C (.type "object") = some true
section
variable {X : Cx} {C : Addr} {cn : Str} {B mk ini : String} {bmB : List Value}
def tMkP (C : Addr) (ta : TA) : TE := fun σ H Q => ta σ H fun vs H1 => vs.length ≤ 1000 ∧ ∀ e, H1 e = none → Q (.ref e) (upd H1 e (ExV C e none))
theorem pe_mkP {a : Expr} {ta : TA} {p pos : Pos} (F : ExcBaseFacts B mk ini bmB) (T : XPln X.K X.mg cn mk ini bmB C) (ha : PA X [a] ta) (hg : Gl X cn)
    (hdb : (cn == ("__debug__" : Str)) = false := by decide) (hst : starEach (a :: []) X.env = (false, eval a X.env) :: starEach [] X.env := by rfl) (hpl : (backTo pos (starEach [] X.env)).any (·.1) = false := by rfl) :
    PE X (.Call (.Name cn p) [a] [] pos) (tMkP C ta) := by
  refine ⟨fun pins s σ H Q I h => ?_⟩
  refine wpAny_Call_Name_kw (ld_glob I hg T.gC ?_ hdb)
  refine PySem.W.callWith_K (h₀ := X.base) I.ok.mod.kin T.kC (thn (ha.run pos pins s σ H _ I h) ?_) hst hpl
  rintro us s1 ⟨vs, H1, I1, r1, hz, q1⟩
  refine ⟨I1.kIn, ?_⟩
  obtain ⟨nm, q, N, bs, bm, hd, sn, sub, ab, col, dd, k0, k1, k2, k3, k5, hC, tail⟩ := T.cls
  have hl : us.length ≤ sizeLine := by
    rw [← r1.length]
    exact Nat.le_trans hz (by decide)
  obtain ⟨hp, g, dr, tk, os⟩ := s1
  refine PySem.W.call_B F (fun Y => excTail_contains Y bm tail) (I1.kIn _ _ hC) (looks_findIn I1.kIn T.iC) hl fun h' k he ht => ?_
  have fr := I1.hok.fresh (Nat.le_succ hp.objs.size)
  exact ⟨.ref (hp.objs.size + 1), _, I1.laid (t' := tk) k (Nat.le_succ _) (exV_ok he rfl rfl rfl), rfl, q1 _ fr⟩
end
/-- the error at e stands, with its dict if it has one -/
def ExAt (H : Hp) (e C : Addr) (d : Option Addr) (fs : List (Str × V)) : Prop := H e = some (ExV C e d) ∧ ∀ dd, d = some dd → H dd = some (.xd fs)
section
variable {X : Cx} {pins : List (Addr × Obj)} {σ : L2.St} {H : Hp} {s : Shared}
theorem exAt_inst {e C : Addr} {d : Option Addr} {fs : List (Str × V)} (I : Inv X pins σ H s) (h : ExAt H e C d fs) : ∃ (oe : Obj) (od : Option Obj), PySem.W.InstAt s.heap e oe C od := by
  obtain ⟨h1, h2⟩ := h
  obtain ⟨oe, vs, he, hc, hd, hf⟩ := exV_at I.hok h1
  have nc : PySem.W.notCls oe = true := by unfold PySem.W.notCls; rw [hf] <;> rfl
  cases d with
  | none => exact ⟨oe, none, he, hc, nc, by rw [hd]; trivial⟩
  | some dd =>
    obtain ⟨mA, hns, _⟩ := (show ObjOk X.prog X.w H s.heap dd (.xd fs) from I.hok dd _ (h2 dd rfl))
    obtain ⟨od, ho, _⟩ := lookIn_ns hns
    exact ⟨oe, some od, he, hc, nc, by rw [hd]; exact ho⟩
end
/-- isinstance(e, c), e an own error -/
def rIsV (K : PySem.W.Frag) : List V → Hp → VK → Prop := fun xs H Q => ∃ (e C : Addr) (d : Option Addr) (fs : List (Str × V)) (c : V) (u : Value) (b : Bool), xs = [.ref e, c] ∧ ExAt H e C d fs ∧ XCls K C ∧ ClsV c u ∧ PySem.W.kitOne K (.ref C) u = some b ∧ Q (.bl b) H
section
variable {X : Cx}
theorem call_isV : CallR X (.builtin "isinstance") (rIsV X.K) := by
  intro pins s σ H xs us Q I r h
  obtain ⟨e, C, d, fs, c, u, b, rfl, hx, T, k, hb, q⟩ := h
  obtain ⟨u1, u2, rfl, r1, r2⟩ := vals2 r
  have e2 := k.eq r2
  subst e2
  cases (show u1 = Value.ref e from r1)
  obtain ⟨oe, od, J⟩ := exAt_inst I hx
  exact PySem.W.kia_one (PySem.W.kitx_exc (ox := oe) (od := od) T.isC T.ga T.gg T.ex T.cl T.sp T.ta T.ob) I.kIn J hb (fun z => nomatch z) fun tk => ⟨.bl b, H, I.tok tk, rfl, q⟩
/-- e.fld, e an own error with that field -/
def tGetV (C : Addr) (fld : Str) (te : TE) : TE := fun σ H Q => te σ H fun x H1 => ∃ (e dd : Addr) (v : V), x = .ref e ∧ ExAt H1 e C (some dd) [(fld, v)] ∧ Q v H1
theorem pe_getV {C fI : Addr} {cn fld : Str} {mk : String} {bmB : List Value} {e : Expr} {te : TE} {pos : Pos} (T : XTxt X.K X.mg cn fld mk bmB C fI) (he : PE X e te)
    (hb : attributeBase e fld X.env (eval e X.env) = eval e X.env := by rfl) : PE X (.Attribute e fld pos) (tGetV C fld te) := by
  constructor
  intro pins s σ H Q I h
  refine attr_of hb (thn (he.run pins s σ H _ I h) ?_)
  rintro u s1 ⟨x, H1, I1, rx, e1, dd, v, rfl, ⟨h1, h2⟩, q⟩
  obtain rfl : u = Value.ref e1 := rx
  obtain ⟨oe, vs, here, hc, hd, hf⟩ := exV_at I1.hok h1
  obtain ⟨mA, hns, hr⟩ := (show ObjOk X.prog X.w H1 s1.heap dd (.xd [(fld, v)]) from I1.hok dd _ (h2 dd rfl))
  obtain ⟨od, ho, hl⟩ := lookIn_ns hns
  have l : List.lookup fld [(fld, v)] = some v := by simp [List.lookup]
  have hrf := hr fld
  rw [l] at hrf
  obtain ⟨u, hu, ru⟩ := RelO.some_of (v := v) (o := mA fld) hrf
  have J : PySem.W.InstAt s1.heap e1 oe C (some od) := ⟨here, hc, by unfold PySem.W.notCls; rw [hf] <;> rfl, by rw [hd]; exact ho⟩
  exact HandSPX.exc_get I1.kIn J T.ga T.gg T.exC (PySem.W.findObj_own T.hdC T.noN rfl (by rw [hl, hu])) (handed_of ru) ⟨v, H1, I1.tok _, ru, q⟩
end
end Gx

set_option maxRecDepth 100000
set_option maxHeartbeats 4000000
namespace Gx
open PySem PySem.Spec PySem.W PySem.Calls PyProof.Rows L2
/-! ### stores over KeyError -/
theorem store_KeyErr : StoreFacts "KeyError" bmKey "object.__setattr__" "object" := by
  constructor
  case mro => kernel_rfl
  case slot => exact .of (owner := "object") (n := "__setattr__") (by rw [typeLookup_type, builtinLookup_eq_fast]; kernel_rfl) (by decide +kernel) (by decide +kernel) (by decide +kernel) (.inl (by decide +kernel)) (by rw [isSubtype_type]; kernel_rfl)
  case entry => exact PySem.F.store_LookupError.entry
  case kind => decide +kernel
  case split => decide +kernel
  case hasOwner => decide +kernel
  case args => exact fun a b c => PySem.F.store_LookupError.args a b c
  case passes => exact fun o => by kernel_rfl
/-! ### the table of all errors: who is derived from whom -/
def subC (i j : Nat) : Bool := i == j || (j == 0 && decide (i ≤ 11))
def BS : List String := ["ValueError", "KeyError", "IndexError", "LookupError", "RuntimeError", "OverflowError", "ArithmeticError"]
def subB (i : Nat) (b : String) : Bool :=
  if b = "ValueError" then decide (i ≤ 11) else if b = "KeyError" then i == 12 || i == 13 else if b = "IndexError" then i == 15
  else if b = "LookupError" then decide (12 ≤ i) && decide (i ≤ 15) else if b = "RuntimeError" then i == 16 else if b = "OverflowError" then i == 17 else decide (17 ≤ i)
def xclsB (K : Frag) (C : Addr) : Bool :=
  isClsIn K C && (decide (findIn K (.ref C) "__getattribute__" = some (some (.builtin "BaseException.__getattribute__"))) && (decide (findIn K (.ref C) "__getattr__" = some none) && (decide (subIn K (.ref C) (.type "BaseException") = some true) &&
    (decide (findIn K (.ref C) "__class__" = some (some (.builtin "object.__class__"))) && (decide (specialIn K (.builtin "object.__class__") "__get__" = some (some (.builtin "getset_descriptor.__get__"))) &&
    (decide (takesIn K (.builtin "object.__class__") = some true) && decide (mroIn K C (.type "object") = some true)))))))
theorem xclsB_ok {K : Frag} {C : Addr} (h : xclsB K C = true) : XCls K C := by
  unfold xclsB at h
  simp only [Bool.and_eq_true, decide_eq_true_eq] at h
  obtain ⟨a, b, c, d, e, f, g, i⟩ := h
  exact ⟨a, b, c, d, e, f, g, i⟩
def tabB (K : Frag) (cs : List Addr) : Bool := (List.range 20).all fun i => xclsB K (cs.getD i 0) && (((List.range 20).all fun j => decide (kitOne K (.ref (cs.getD i 0)) (.ref (cs.getD j 0)) = some (subC i j))) && (BS.all fun b => decide (kitOne K (.ref (cs.getD i 0)) (.type b) = some (subB i b))))
theorem getD_range (c : Nat → Addr) {i : Nat} (h : i < 20) : ((List.range 20).map c).getD i 0 = c i := by
  rw [List.getD_eq_getElem?_getD, List.getElem?_map, List.getElem?_range h]
  rfl
section
variable {K : Frag} {c : Nat → Addr} (t : tabB K ((List.range 20).map c) = true) {i : Nat} (hi : i < 20)
include t hi
theorem tab_at : xclsB K (c i) = true ∧ (∀ j, j < 20 → kitOne K (.ref (c i)) (.ref (c j)) = some (subC i j)) ∧ ∀ b ∈ BS, kitOne K (.ref (c i)) (.type b) = some (subB i b) := by
  unfold tabB at t
  have h := List.all_eq_true.mp t i (List.mem_range.mpr hi)
  simp only [Bool.and_eq_true, List.all_eq_true, decide_eq_true_eq, List.mem_range] at h
  rw [getD_range c hi] at h
  refine ⟨h.1, fun j hj => ?_, fun b hb => h.2.2 b hb⟩
  have := h.2.1 j hj
  rw [getD_range c hj] at this
  exact this
theorem tab_cls : XCls K (c i) := xclsB_ok (tab_at t hi).1
theorem tab_own {j : Nat} (hj : j < 20) : kitOne K (.ref (c i)) (.ref (c j)) = some (subC i j) := (tab_at t hi).2.1 j hj
theorem tab_blt {b : String} (hb : b ∈ BS) : kitOne K (.ref (c i)) (.type b) = some (subB i b) := (tab_at t hi).2.2 b hb
end
end Gx

set_option maxRecDepth 100000
set_option maxHeartbeats 4000000
namespace Gx
open PySem PySem.Spec PySem.W PySem.Calls PyProof.Rows L2
/-- an own class of errors is caught by its own name -/
theorem exm_own {K : PySem.W.Frag} {S : Addr} (b : PySem.W.subIn K (.ref S) (.type "BaseException") = some true) (i : PySem.W.isClsIn K S = true) (t : PySem.W.typeIn K (.ref S) = some (.type "type")) (s : PySem.W.subIn K (.ref S) (.ref S) = some true) : PySem.W.exmOne K (.ref S) (.ref S) = some true := by
  have i' : (PySem.W.clsIn K S).isSome = true := i
  unfold PySem.W.exmOne PySem.W.kitCls
  simp [b, i', t, s]
section
variable {X : Cx} {C : Addr} {cn : Str} {B mk ini : String} {bmB : List Value}
/-- raise cn(a), an own error without an __init__ of its own -/
def tMkR (C : Addr) (ta : TA) : L2.St → Hp → XK → Prop := fun σ H Q => ta σ H fun vs H1 => vs.length ≤ 1000 ∧ Q (.ref C) none H1
theorem pmk_P {a : Expr} {ta : TA} {p pos : Pos} (F : ExcBaseFacts B mk ini bmB) (T : XPln X.K X.mg cn mk ini bmB C) (XC : XCls X.K C) (ha : PA X [a] ta) (hg : Gl X cn)
    (hdb : (cn == ("__debug__" : Str)) = false := by decide) (hst : starEach (a :: []) X.env = (false, eval a X.env) :: starEach [] X.env := by rfl) (hpl : (backTo pos (starEach [] X.env)).any (·.1) = false := by rfl) :
    PMk X (.Call (.Name cn p) [a] [] pos) (tMkR C ta) := by
  intro pins s σ H Q I h
  refine wpAny_Call_Name_kw (ld_glob I hg T.gC ?_ hdb)
  refine PySem.W.callWith_K (h₀ := X.base) I.ok.mod.kin T.kC (thn (ha.run pos pins s σ H _ I h) ?_) hst hpl
  rintro us s1 ⟨vs, H1, I1, r1, hz, q1⟩
  refine ⟨I1.kIn, ?_⟩
  obtain ⟨nm, q, N, bs, bm, hd, sn, sub, ab, col, dd, k0, k1, k2, k3, k5, hC, tail⟩ := T.cls
  have hl : us.length ≤ sizeLine := by
    rw [← r1.length]
    exact Nat.le_trans hz (by decide)
  have tyC : typeIn X.K (.ref C) = some (.type "type") := by
    show (X.K.lookup C).map (·.cls) = _
    rw [hC]
    rfl
  obtain ⟨hp, g, dr, tk, os⟩ := s1
  refine PySem.W.call_B F (fun Y => excTail_contains Y bm tail) (I1.kIn _ _ hC) (looks_findIn I1.kIn T.iC) hl fun h' k he ht => ?_
  obtain ⟨G', g1, g2⟩ := restrict h' fun b => decide (b ≠ hp.objs.size + 1)
  have off : ∀ b, b ≠ hp.objs.size + 1 → G'.get? b = h'.get? b := fun b hb => g1 b (decide_eq_true hb)
  have gone : G'.get? (hp.objs.size + 1) = none := g2 _ (by simp)
  have old : ∀ b o, hp.get? b = some o → G'.get? b = some o := fun b o q => (off b (Nat.ne_of_lt (Nat.lt_succ_of_lt (Heap.lt_size q)))).trans (k b o q)
  have J : Inv X pins σ H1 ⟨G', g, dr, tk, os⟩ := I1.kept (t' := tk) old
  refine ⟨hp.objs.size + 1, _, _, ⟨G', g, dr, tk, os⟩, H1, .ref C, none, rfl, J, ?_, gone, he, ⟨rfl, rfl⟩, rfl, rfl, I1.hok.fresh (Nat.le_succ _), rfl, I1.bare, raises_own XC.ex tyC, q1⟩
  intro b o q
  have q' : G'.get? b = some o := q
  by_cases hb : b = hp.objs.size + 1
  · rw [hb, gone] at q'
    cases q'
  · exact (off b hb).symm.trans q
end
/-! ### methods that may raise -/
/-- the class at C has a method m that keeps sp, and may raise -/
def CalMX (P : Program) (w : World) (K : PySem.W.Frag) (mg : Str → Option Value) (base : Heap) (C : Addr) (m : Str) (k : Nat) (ps : List Str) (sp : Sp) : Prop :=
  ∃ (f : Addr) (fd : FuncData), FnG P w K mg base (L2.CX P w) k f fd ps sp ∧ Meth K C m f ∧ Binds K fd ps []
theorem DefM.calX {P : Program} {w : World} {K : PySem.W.Frag} {mg : Str → Option Value} {base : Heap} {C : Addr} {m qual : Str} {st : Stmt} {k : Nat} {ps : List Str} {sp : Sp} (d : DefM K C m qual st ps)
    (h : ∀ f fd, Fun K m qual st f fd → FnG P w K mg base (L2.CX P w) k f fd ps sp) : CalMX P w K mg base C m k ps sp := by
  obtain ⟨f, fd, F, me, b, fi⟩ := d
  exact ⟨f, fd, h f fd F, me, b⟩
theorem CalMX.up {P : Program} {w : World} {K : PySem.W.Frag} {mg : Str → Option Value} {base : Heap} {C : Addr} {m : Str} {j k : Nat} {ps : List Str} {sp : Sp} (c : CalMX P w K mg base C m j ps sp) (h : j ≤ k) : CalMX P w K mg base C m k ps sp := by
  obtain ⟨f, fd, F, r⟩ := c
  exact ⟨f, fd, F.up h, r⟩
section
variable {X : Cx} {C : Addr} {m : Str} {k : Nat} {ps : List Str} {sp : Sp} {ta : TE} {t : TA} {o e : Expr} {es : List Expr} {pos apos : Pos} {E : L2.St → XK}
/-- o.m(..), which may raise -/
def tMethX (C : Addr) (m : Str) (sp : Sp) (E : L2.St → XK) (ta : TE) (t : TA) : TE := fun σ H Q => ta σ H fun x H1 => ∃ a dx fs, x = .ref a ∧ H1 a = some (.ins C dx fs) ∧ fs.lookup m = none ∧ t σ H1 fun vs H2 => sp (x :: vs) H2 Q (E σ)
theorem pe_methX {pl : Sem Bool} (he : PE X o ta) (cl : Cls X.K C) (c : CalMX X.prog X.w X.K X.mg X.base C m k ps sp) (g : Gd X.A) (room : Room k X.A) (hx : ∀ σ, PassesAt (L2.CX X.prog X.w) X σ (E σ)) (ha : PA X (e :: es) t)
    (hst : starEach (e :: es) X.env = (false, eval e X.env) :: starEach es X.env := by rfl) (hpl : (backTo pos (starEach es X.env)).any (·.1) = false := by rfl)
    (ht : eval (.Call (.Attribute o m apos) (e :: es) [] pos) X.env = (do
      let ov ← eval o X.env
      standAt apos.atName
      let (f, first) ← holding [ov] (getMethod ov m pl)
      callWith pos f first (backTo pos (starEach (e :: es) X.env)) (backToKw pos (keywordEach [] X.env))) := by rfl) :
    PE X (.Call (.Attribute o m apos) (e :: es) [] pos) (tMethX C m sp E ta t) := by
  obtain ⟨f, fd, F, hm, b⟩ := c
  refine ⟨fun pins s σ H Q I h => ?_⟩
  refine PySem.W.methodCall_KW (pl := pl) (thn (he.run pins s σ H _ I h) fun u s1 ⟨x, H1, I1, rx, a, dx, fs, ex, ea, l, q⟩ => ?_) ht
  subst ex
  obtain rfl : u = Value.ref a := rx
  refine getmeth_ok I1 ea cl hm l ?_
  refine PySem.W.callWith_K (first := [.ref a]) (h₀ := X.base) I.ok.mod.kin hm.kp (thn (ha.run pos pins s1 σ H1 _ I1 q) fun us s2 ⟨vs, H2, I2, r, q2⟩ => ⟨I2.kIn, ?_⟩) hst hpl
  have hl : (Value.ref a :: us).length = ps.length := by
    rw [← F.len _ _ _ _ q2, List.length_cons, List.length_cons, r.length]
  have b1 := b s2 (.ref a :: us) I2.kIn (by rw [List.append_nil]; exact hl)
  rw [List.append_nil] at b1
  exact runX (us := .ref a :: us) (vs := .ref a :: vs) (args := ⟨.ref a :: us, []⟩) F g room b1 (hx σ) I2 (.cons rfl r) q2
end
end Gx

set_option maxRecDepth 100000
set_option maxHeartbeats 4000000
/-! ### own end: a law whose promise holds where no repr is under way, and whose defs make lambdas -/
namespace Gx
open PySem PySem.Spec PyProof.Rows L2
/-- the abstract heap at the law's call: the script and the empty tables of the defs that make lambdas -/
def H0T (a : Addr) (o : Obj) (ns : List Int) (own : Bool) (ts : List Addr) : Hp := fun b => if b ∈ ts then some (.tbl #[]) else H00 a o ns own b
theorem h0t_in {a b : Addr} {o : Obj} {ns : List Int} {own : Bool} {ts : List Addr} (h : b ∈ ts) : H0T a o ns own ts b = some (.tbl #[]) := by
  unfold H0T
  rw [if_pos h]
theorem h0t_out {a b : Addr} {o : Obj} {ns : List Int} {own : Bool} {ts : List Addr} (h : b ∉ ts) : H0T a o ns own ts b = H00 a o ns own b := by
  unfold H0T
  rw [if_neg h]
theorem h0t_some {a b : Addr} {o : Obj} {ns : List Int} {own : Bool} {ts : List Addr} {u : HO} (h : H0T a o ns own ts b = some u) : (b ∈ ts ∧ u = .tbl #[]) ∨ (b ∉ ts ∧ own = false ∧ b = a ∧ u = .frz o (.lst (ns.map V.int))) := by
  by_cases c : b ∈ ts
  · rw [h0t_in c] at h
    cases h
    exact .inl ⟨c, rfl⟩
  · rw [h0t_out c] at h
    exact .inr ⟨c, h00_some h⟩
/-- the tables cs stand in the heap, and the module does not name them -/
structure TabsHere (K : PySem.W.Frag) (h : Heap) (cs : List (Addr × Addr)) : Prop where
  hd : ∀ c ∈ cs, PySem.W.CodeHd h c.1 c.2
  at_ : ∀ c ∈ cs, h.get? c.2 = some (PySem.W.tabObj #[])
  free : ∀ c ∈ cs, K.lookup c.2 = none
theorem lawGT {P : Program} {w : World} {K : PySem.W.Frag} {mg mb : Str → Option Value} {CX : CXT} {k : Nat} {fa a : Addr} {fd : FuncData} {x : Str} {sp : Sp} {t : Shared} {vs : List Value} {ns : List Int} {cs : List (Addr × Addr)}
    (inK : K.In t.heap) (glob : t.heap.Ns mainGlobals mg) (blt : t.heap.Ns builtinsNs mb) (boot : ∀ y : Str, y ≠ "__name__" → mb y = bootBuiltins y) (noLim : t.heap.NoLimit) (gens : t.gens = #[]) (tabs : TabsHere K t.heap cs)
    (bmod : ∃ (bm : Addr) (ob : Obj), mg "__builtins__" = some (.ref bm) ∧ bm ≠ builtinsNs ∧ t.heap.get? bm = some ob ∧ ob.cls = .type "module" ∧ ob.dict = some builtinsNs ∧ ob.data = .plain)
    (scr : t.heap.get? a = some { cls := .type "list", data := .seq vs.toArray }) (hints : IntsAre vs ns) (short : ns.length ≤ sizeLine) (room : Room k callerA)
    (F : ∀ base : Heap, K.In base → base.Ns mainGlobals mg → (∀ c ∈ cs, LamX.TabB base mg c.1 c.2) → FnG P w K mg base CX k fa fd [x] sp) (bind : ∀ (s : Shared) (u : Value), BindsTo s fd ⟨[u], []⟩ [(x, u)])
    (want : ∀ H : Hp, (∀ c ∈ cs, H c.2 = some (.tbl #[])) → SqL K H a (ns.map V.int) → sp [.ref a] H (fun v _ => v = .bl true) fun _ _ _ => False)
    (noErr : ∀ H e s', CX [] H t (fun _ _ _ => False) e s' → False) :
    codeAny (model P w) callerA (.call (.ref fa) ⟨[.ref a], []⟩) (fun r s' => r = .ok (.ret (.bool true)) ∧ OldK t.heap s'.heap ∧ s'.os = t.os ∧ AllBare s'.gens) t := by
  have hv : Vals (ns.map V.int) vs := vals_ints hints
  have hlv : vs.length = ns.length := hints.length
  obtain ⟨own, hown⟩ : ∃ own : Bool, own = (K.lookup a).isSome := ⟨_, rfl⟩
  obtain ⟨ts, hts⟩ : ∃ ts : List Addr, ts = cs.map (·.2) := ⟨_, rfl⟩
  have tin : ∀ {c : Addr × Addr}, c ∈ cs → c.2 ∈ ts := fun h => by
    rw [hts]
    exact List.mem_map.mpr ⟨_, h, rfl⟩
  have tout : ∀ {b : Addr}, b ∈ ts → ∃ c ∈ cs, c.2 = b := fun h => by
    rw [hts] at h
    exact List.mem_map.mp h
  have tget : ∀ {b : Addr}, b ∈ ts → t.heap.get? b = some (PySem.W.tabObj #[]) := fun h => by
    obtain ⟨c, hc, rfl⟩ := tout h
    exact tabs.at_ c hc
  have na : a ∉ ts := fun h => by
    have e := tget h
    rw [scr] at e
    have e2 := congrArg Obj.data (Option.some.inj e)
    cases e2
  let o : Obj := { cls := .type "list", data := .seq vs.toArray }
  let H0 : Hp := H0T a o ns own ts
  have hOk : HOk P w H0 t.heap := by
    intro b u e
    rcases h0t_some e with ⟨h, rfl⟩ | ⟨_, _, rfl, rfl⟩
    · exact tget h
    · exact ⟨scr, by rw [List.length_map]; exact short, vs, _, hv, scr⟩
  have none0 : ∀ {b : Addr}, b ∉ ts → own = true ∨ b ≠ a → H0 b = none := fun h1 h2 => (h0t_out h1).trans (h00_none h2)
  have keepT : ∀ {b : Addr} {ob : Obj}, t.heap.get? b = some ob → b ∉ ts → own = true ∨ b ≠ a → (hidT t.heap H0).get? b = some ob := fun e n1 n2 => hidT_get e (none0 n1 n2)
  -- what is neither the script nor a table
  have other : ∀ {b : Addr} {ob : Obj}, t.heap.get? b = some ob → (∀ xs n, ob.data ≠ .seq xs n) → ob.data ≠ .fields #[] → b ∉ ts ∧ b ≠ a := by
    intro b ob e n1 n2
    refine ⟨fun h => ?_, fun h => ?_⟩
    · rw [tget h] at e
      cases e
      exact n2 rfl
    · rw [h, scr] at e
      cases e
      exact n1 _ _ rfl
  have nsKeep : ∀ {b : Addr} {m : Str → Option Value}, t.heap.Ns b m → (hidT t.heap H0).Ns b m := by
    rintro b m ⟨ob, es, ep, e, dd, r⟩
    obtain ⟨n1, n2⟩ := other e (fun xs n z => by rw [dd] at z; cases z) (fun z => by rw [dd] at z; cases z)
    exact ⟨ob, es, ep, keepT e n1 (.inr n2), dd, r⟩
  have inK' : K.In (hidT t.heap H0) := by
    intro b ob e
    have nt : b ∉ ts := fun h => by
      obtain ⟨c, hc, rfl⟩ := tout h
      rw [tabs.free c hc] at e
      cases e
    refine keepT (inK b ob e) nt ?_
    by_cases hb : b = a
    · subst hb
      left
      rw [hown, e]
      rfl
    · exact .inr hb
  have noLim' : (hidT t.heap H0).NoLimit := by
    obtain ⟨mc, h1, h2⟩ := noLim
    exact ⟨mc, nsKeep h1, h2⟩
  have tabB : ∀ c ∈ cs, LamX.TabB (hidT t.heap H0) mg c.1 c.2 := by
    intro c hc
    have hP := tabs.at_ c hc
    constructor
    · obtain ⟨oc, us, file, tf, flags, tg, inF, text, tt, e, r1, r2, r3, r4⟩ := tabs.hd c hc
      obtain ⟨n1, n2⟩ := other e (fun xs n z => by rw [r2] at z; cases z) (fun z => by
        rw [r2] at z
        cases z
        cases r3)
      exact ⟨oc, us, file, tf, flags, tg, inF, text, tt, keepT e n1 (.inr n2), r1, r2, r3, r4⟩
    · obtain ⟨bm, ob, b1, b2, b3, b4, b5, b6⟩ := bmod
      obtain ⟨n1, n2⟩ := other b3 (fun xs n z => by rw [b6] at z; cases z) (fun z => by rw [b6] at z; cases z)
      refine ⟨bm, ob, b1, b2, ?_, fun z => n1 (z ▸ tin hc), keepT b3 n1 (.inr n2), b4, b5, b6⟩
      rintro rfl
      obtain ⟨og, es, ep, e, dd, _⟩ := glob
      rw [b3] at e
      cases e
      rw [b6] at dd
      cases dd
    · rintro z
      obtain ⟨og, es, ep, e, dd, _⟩ := glob
      rw [z, hP] at e
      cases e
      cases dd
  have env : Env0 P w K mg (hidT t.heap H0) callerA [] t H0 := by
    refine ⟨rfl, ⟨inK', nsKeep glob, ⟨mb, nsKeep blt, boot⟩, noLim'⟩, fun b ob e => of_hidT e, Nat.le_of_eq (hidT_size _ _), trivial, ?_, hOk, .of_eq gens⟩
    intro b hb
    exact absurd (show b ∈ ([] : List Addr) from hb) List.not_mem_nil
  have hS : SqL K H0 a (ns.map V.int) := by
    cases own with
    | false =>
      refine .inl (.inr ⟨o, ?_⟩)
      show H0T a o ns false ts a = _
      rw [h0t_out na]
      unfold H00
      rw [if_pos ⟨rfl, rfl⟩]
    | true =>
      obtain ⟨ob, e⟩ := Option.isSome_iff_exists.mp hown.symm
      have e2 := inK a ob e
      rw [scr] at e2
      cases e2
      exact .inr ⟨_, vs.toArray, _, e, rfl, rfl, rfl, by rw [List.size_toArray, hlv]; exact short, by simpa using hv⟩
  have runs := (F _ inK' (nsKeep glob) tabB).run callerA [] t H0 ⟨[.ref a], []⟩ [.ref a] [.ref a] _ _ rfl room env (bind t (.ref a)) (.cons rfl .nil) (want _ (fun c hc => h0t_in (tin hc)) hS)
  refine codeAny_mono runs ?_
  intro res s' hres
  match res, hres with
  | .error e, hres => exact (noErr _ e s' hres).elim
  | .ok (.ret u), hres =>
    obtain ⟨v, H', hos, bare, un, ok', rel, rfl⟩ := hres
    obtain rfl : u = Value.bool true := rel
    have stays : ∀ b ob, b ∉ ts → t.heap.get? b = some ob → s'.heap.get? b = some ob := by
      intro b ob nb e
      cases q : H0 b with
      | none => exact un.keep b ob e q (fun z => absurd (show b ∈ ([] : List Addr) from z) List.not_mem_nil) List.not_mem_nil
      | some u =>
        rcases h0t_some q with ⟨h, _⟩ | ⟨_, _, _, rfl⟩
        · exact absurd h nb
        · have q' := un.frzs b _ _ q
          have e1 := (hOk b _ q).1
          rw [e] at e1
          cases e1
          exact (ok' b _ q').1
    have grows : ∀ c ∈ cs, ∃ more : Array Value, s'.heap.get? c.2 = some (PySem.W.tabObj more) := by
      intro c hc
      obtain ⟨more, z⟩ := un.tbls c.2 #[] (h0t_in (tin hc))
      exact ⟨_, ok' c.2 _ z⟩
    refine ⟨rfl, ⟨fun b ob e => ?_, fun b ob e => ?_⟩, hos, bare⟩
    · by_cases hb : b ∈ ts
      · obtain ⟨c, hc, rfl⟩ := tout hb
        obtain ⟨more, hm⟩ := grows c hc
        have hP := tabs.at_ c hc
        rw [hP] at e
        cases e
        refine .inr (.inl ⟨((tabs.hd c hc).tab hP).isCodeTable, rfl, #[], more, rfl, ?_⟩)
        rw [Array.empty_append]
        exact hm
      · exact .inl (stays b ob hb e)
    · by_cases hb : b ∈ ts
      · obtain ⟨c, hc, rfl⟩ := tout hb
        obtain ⟨more, hm⟩ := grows c hc
        exact ⟨_, hm⟩
      · exact ⟨ob, stays b ob hb e⟩
/-- what k_head leaves, for such a law -/
theorem walkGT {l : PySem.W.OpenLaw} {n k : Nat} {q : Program} {loose : List Str} {XP : (Str → Option Value) → Heap → Prop} {YP : World → Heap → Prop} {d : DefRec} {K : Params → PySem.W.Frag} {CX : World → CXT} {x : Str}
    (most : l.most = some n) (small : n ≤ sizeLine) (plain : d.params.defaults = []) (room : Room k callerA) (hY : ∀ (w : World) (h : Heap), YP w h → (K w.params).In h)
    (F : ∀ (w : World) (mg : Str → Option Value) (fa : Addr) (h : Heap), (K w.params).In h → h.Ns mainGlobals mg → mg d.name = some (.ref fa) →
      ∃ (fd : FuncData) (cs : List (Addr × Addr)) (sp : Sp), (∀ c ∈ cs, (∃ (y : Str) (e : DefRec), (recsOf q).find? (fun r => r.name == y) = some e ∧ PySem.W.tabIn (K w.params) y = some c) ∧ (K w.params).lookup c.2 = none) ∧
        (∀ (s : Shared) (u : Value), BindsTo s fd ⟨[u], []⟩ [(x, u)]) ∧
        (∀ (H : Hp) (a : Addr) (ns : List Int), ns.length ≤ n → (∀ c ∈ cs, H c.2 = some (.tbl #[])) → SqL (K w.params) H a (ns.map V.int) → sp [.ref a] H (fun v _ => v = .bl true) fun _ _ _ => False) ∧
        ∀ base : Heap, (K w.params).In base → base.Ns mainGlobals mg → (∀ c ∈ cs, LamX.TabB base mg c.1 c.2) → FnG l.prog w (K w.params) mg base (CX w) k fa fd [x] sp)
    (noErr : ∀ (w : World) (H : Hp) (s : Shared) (e : Value) (s' : Shared), CX w [] H s (fun _ _ _ => False) e s' → False) :
    PySem.W.WalkO q loose XP YP l.row.toRowW d [] (fun f vs => PySem.call f vs) := by
  refine Att.attach_call most plain fun w s₀ t mg mb fa o pm cd doc a vs ns G Y ho hd hcd hmg scr hints hlen gens => ?_
  obtain ⟨fd, cs, sp, tabs, bind, want, body⟩ := F w mg fa _ (hY w _ Y) G.T.g hmg
  have th : ∀ c ∈ cs, PySem.W.CodeHd t.heap c.1 c.2 ∧ t.heap.get? c.2 = some (PySem.W.tabObj #[]) := fun c hc => by
    obtain ⟨⟨y, e, h1, h2⟩, _⟩ := tabs c hc
    exact PySem.W.tab_of G.T (hY w _ Y) h1 h2
  exact lawGT (hY w _ Y) G.T.g G.T.b G.T.builtins G.T.nolimit gens ⟨fun c hc => (th c hc).1, fun c hc => (th c hc).2, fun c hc => (tabs c hc).2⟩ G.T.bmain scr hints (Nat.le_trans hlen small) room body bind
    (fun H hO hS => want H a ns hlen hO hS) fun H e s' => noErr w H t e s'
/-! ### a def that makes lambdas: its own code is known -/
section
variable {P : Program} {w : World} {K : PySem.W.Frag} {mg : Str → Option Value} {base : Heap}
/-- .. where no repr is under way; its code object is at c -/
theorem okGL {x qual : Str} {st : Stmt} {f c : Addr} {fd : FuncData} {N ps : List Str} {k : Nat} {sp : Sp} (F : Fun K x qual st f fd) (hc : fd.code = .ref c) (S : FnScope N ps (defScope st)) (hlen : ∀ vs H Q E, sp vs H Q E → vs.length = ps.length)
    (hb : ∀ (A : Around) (outer : List Env) (s : Shared) (H : Hp) (vs : List V) (Q : VK) (E : XK), Gd (A.deeper (envOfC qual (defScope st) s.heap.objs.size f (.ref c))) → Room k (A.deeper (envOfC qual (defScope st) s.heap.objs.size f (.ref c))) → sp vs H Q E →
      ∃ t, PSs (cxOf CX0 P w K mg base N qual (defScope st) f (.ref c) A outer s H E).nox (defBody st) t ∧ t { nx := fun _ H' => Q .non H', rt := Q } (start N vs) H) : FnG P w K mg base CX0 (k + 1) f fd ps sp := by
  obtain ⟨oc, od, kV, doc, pm, an, cdv, ct, osl, rfl, lk, hcd⟩ := F.ex
  have e : cdv = .ref c := hc
  subst e
  refine fnG_body lk hcd S hlen fun A outer s H vs Q E g hr want => ?_
  obtain ⟨t, h, q⟩ := hb A outer s H vs Q E g hr want
  exact ⟨t, h.nox, q⟩
end
end Gx

set_option maxRecDepth 100000
set_option maxHeartbeats 4000000
namespace Gx
open PySem PySem.Spec PyProof.Rows L2 LamX
/-- an own class of errors is not caught by the name of another -/
theorem exm_no {K : PySem.W.Frag} {S C : Addr} (b : PySem.W.subIn K (.ref C) (.type "BaseException") = some true) (i : PySem.W.isClsIn K C = true) (t : PySem.W.typeIn K (.ref C) = some (.type "type")) (s : PySem.W.subIn K (.ref S) (.ref C) = some false) : PySem.W.exmOne K (.ref S) (.ref C) = some false := by
  have i' : (PySem.W.clsIn K C).isSome = true := i
  unfold PySem.W.exmOne PySem.W.kitCls
  simp [b, i', t, s]
/-- one table, one name -/
theorem one_of : ∀ {Tb : List (Addr × Str)} {P : Addr} {q : Str}, (Tb.map (·.1)).Nodup → (P, q) ∈ Tb → ∀ p ∈ Tb, p.1 = P → p.2 = q
  | (P0, q0) :: r, P, q, nd, m, p, hp, e => by
    rw [List.map_cons, List.nodup_cons] at nd
    rcases List.mem_cons.mp m with h | h
    · cases h
      rcases List.mem_cons.mp hp with rfl | h2
      · rfl
      · exact absurd (List.mem_map.mpr ⟨p, h2, e⟩) nd.1
    · rcases List.mem_cons.mp hp with rfl | h2
      · exact absurd (List.mem_map.mpr ⟨_, h, e.symm⟩) nd.1
      · exact one_of nd.2 h p h2 e
/-- as Def.calG, the name's address handed on -/
theorem Def.calGL {P : Program} {w : World} {K : PySem.W.Frag} {mg : Str → Option Value} {base : Heap} {x qual : Str} {st : Stmt} {ps : List Str} (d : Def K mg x qual st ps) {k : Nat} {sp : Sp} (h : ∀ f fd, mg x = some (.ref f) → Fun K x qual st f fd → FnG P w K mg base CX0 k f fd ps sp) : CalG P w K mg base k x ps sp := by
  obtain ⟨f, fd, F, b, g⟩ := d
  exact ⟨f, fd, h f fd g F, F.kp, b, g⟩
abbrev ln (x : Str) : Str := (x ++ ".<locals>.") ++ "<lambda>"
/-- a def of the module that makes lambdas: its code and its table -/
structure Lam (K : PySem.W.Frag) (mg : Str → Option Value) (base : Heap) (Tb : List (Addr × Str)) (x : Str) (c Pt : Addr) : Prop where
  tb : TabB base mg c Pt
  mem : (Pt, ln x) ∈ Tb
  one : ∀ p ∈ Tb, p.1 = Pt → p.2 = ln x
  code : ∀ (f : Addr) (oc : Value) (od : Option Addr) (fd : FuncData) (sl : Array (Option Value)), mg x = some (.ref f) → K.lookup f = some ⟨oc, od, .func fd, sl⟩ → fd.code = .ref c
theorem Lam.of {K : PySem.W.Frag} {mg : Str → Option Value} {base : Heap} {Tb : List (Addr × Str)} {x : Str} {c Pt : Addr} (L : Lam K mg base Tb x c Pt) {qual : Str} {st : Stmt} {f : Addr} {fd : FuncData} (g : mg x = some (.ref f)) (F : Fun K x qual st f fd) : fd.code = .ref c := by
  obtain ⟨oc, od, kV, doc, pm, an, cdv, ct, osl, _, lk, _⟩ := F.ex
  exact L.code f oc od fd osl g lk
theorem tabIn_of {K : PySem.W.Frag} {x : Str} {f c Pt : Addr} {oc oc2 : Value} {od od2 : Option Addr} {fd : FuncData} {sl sl2 : Array (Option Value)} {vs : Array Value} (a : PySem.W.nsIn K mainGlobals x = some (some (.ref f))) (l : K.lookup f = some ⟨oc, od, .func fd, sl⟩) (hc : fd.code = .ref c) (lc : K.lookup c = some ⟨oc2, od2, .fields vs, sl2⟩) (hp : vs[11]? = some (.ref Pt)) : PySem.W.tabIn K x = some (c, Pt) := by
  unfold PySem.W.tabIn
  simp only [a, l, hc, lc, hp]
/-- .. as the top has made it -/
theorem Lam.mk_of {K : PySem.W.Frag} {mg : Str → Option Value} {base : Heap} {Tb : List (Addr × Str)} {x : Str} {c Pt : Addr} (X : K.In base) (G : base.Ns mainGlobals mg) (ht : PySem.W.tabIn K x = some (c, Pt)) (tb : TabB base mg c Pt) (nd : (Tb.map (·.1)).Nodup) (m : (Pt, ln x) ∈ Tb) : Lam K mg base Tb x c Pt :=
  ⟨tb, m, one_of nd m, fun f oc od fd sl g lk => PySem.W.law_code X G ht g (X _ _ lk) rfl⟩
end Gx

set_option maxRecDepth 100000
set_option maxHeartbeats 4000000
/-! ### own rules: a def that may raise, whatever is under way -/
namespace Gx
open PySem PySem.Spec PyProof.Rows L2
section
variable {X : Cx} {C : Addr} {k : Nat} {ps : List Str} {sp : Sp} {E : L2.St → XK}
theorem runX_below {f : Addr} {fd : FuncData} {A : Around} {pins : List (Addr × Obj)} {σ : L2.St} {H : Hp} {s : Shared} {us : List Value} {vs : List V} {Q : VK} (F : FnOk X.prog X.w X.K X.mg X.base (L2.CX X.prog X.w) k f fd ps sp) (room : Room k A) (fr : A.frames = X.A.frames) (b : Binds X.K fd ps [])
    (hx : PassesAt (L2.CX X.prog X.w) X σ (E σ)) (I : Inv X pins σ H s) (r : Vals vs us) (want : sp vs H Q (E σ)) : wpAny (model X.prog X.w) A (call (.ref f) us) (EP X pins σ Q) X.xe s := by
  have e0 : Env0 X.prog X.w X.K X.mg X.base A X.stack s H := by
    have e := I.env0
    exact ⟨by rw [fr]; exact e.frames, e.mod, e.bs, e.bsz, e.funs, e.frf, e.hok, e.bare⟩
  have hl : us.length = ps.length := r.length.symm.trans (F.len _ _ _ _ want)
  have bt : BindsTo s fd ⟨us, []⟩ (ps.zip us) := by
    have q := b s us I.kIn (by rw [List.append_nil]; exact hl)
    rw [List.append_nil] at q
    exact q
  refine wpAny_call (codeAny_mono (F.run A X.stack s H ⟨us, []⟩ us vs Q (E σ) room e0 bt r want) fun res s' hres => ?_)
  match res, hres with
  | .error e, hres => exact hx pins H s e s' I hres
  | .ok (.ret u), hres => exact I.after hres
end
/-- the name x is a def that keeps sp and may raise, whatever is under way -/
def CalY (P : Program) (w : World) (K : PySem.W.Frag) (mg : Str → Option Value) (base : Heap) (k : Nat) (x : Str) (ps : List Str) (sp : Sp) : Prop :=
  ∃ (f : Addr) (fd : FuncData), FnOk P w K mg base (L2.CX P w) k f fd ps sp ∧ PySem.W.keepIn K (.ref f) = true ∧ Binds K fd ps [] ∧ mg x = some (.ref f)
section
variable {P : Program} {w : World} {K : PySem.W.Frag} {mg : Str → Option Value} {base : Heap}
theorem CalY.up {j k : Nat} {x : Str} {ps : List Str} {sp : Sp} (c : CalY P w K mg base j x ps sp) (h : j ≤ k) : CalY P w K mg base k x ps sp := by
  obtain ⟨f, fd, F, r⟩ := c
  exact ⟨f, fd, F.mono h, r⟩
theorem Def.calY {x qual : Str} {st : Stmt} {ps : List Str} (d : Def K mg x qual st ps) {k : Nat} {sp : Sp} (h : ∀ f fd, Fun K x qual st f fd → FnOk P w K mg base (L2.CX P w) k f fd ps sp) : CalY P w K mg base k x ps sp := by
  obtain ⟨f, fd, F, b, g⟩ := d
  exact ⟨f, fd, h f fd F, F.kp, b, g⟩
end
section
variable {X : Cx} {k : Nat} {ps : List Str} {sp : Sp} {E : L2.St → XK}
def tClY (sp : Sp) (E : L2.St → XK) (t : TA) : TE := fun σ H Q => t σ H fun vs H1 => sp vs H1 Q (E σ)
theorem pe_calY {x : Str} {e : Expr} {es : List Expr} {t : TA} {p pos : Pos} (c : CalY X.prog X.w X.K X.mg X.base k x ps sp) (room : Room k X.A) (hg : Gl X x) (hx : ∀ σ, PassesAt (L2.CX X.prog X.w) X σ (E σ)) (h : PA X (e :: es) t)
    (hdb : (x == ("__debug__" : Str)) = false := by decide) (hst : starEach (e :: es) X.env = (false, eval e X.env) :: starEach es X.env := by rfl) (hpl : (backTo pos (starEach es X.env)).any (·.1) = false := by rfl) :
    PE X (.Call (.Name x p) (e :: es) [] pos) (tClY sp E t) := by
  obtain ⟨f, fd, F, kp, b, hm⟩ := c
  refine ⟨fun pins s σ H Q I want => wpAny_Call_Name_kw (ld_glob I hg hm ?_ hdb)⟩
  refine PySem.W.callWith_K (h₀ := X.base) I.ok.mod.kin kp (thn (h.run pos pins s σ H _ I want) fun us s1 ⟨vs, H1, I1, r, q⟩ => ⟨I1.kIn, ?_⟩) hst hpl
  exact runX_below F room rfl b (hx σ) I1 r q
end
end Gx

set_option maxRecDepth 100000
set_option maxHeartbeats 4000000
/-! ### own rules: classmethods that may raise; a class held by a local name -/
namespace Gx
open PySem PySem.Spec PyProof.Rows L2 ClX
/-- C.m is a classmethod -/
def ClsMd (K : PySem.W.Frag) (C : Addr) (m qual : Str) (st : Stmt) (ps : List Str) : Prop :=
  ∃ (p g : Addr) (fd : FuncData), CRead K C (.type "type") ∧ CMet K C (.type "type") m p g ∧ Fun K m qual st g fd ∧ Binds K fd ps []
/-- the classmethod m of C keeps sp and may raise -/
def CalQ (P : Program) (w : World) (K : PySem.W.Frag) (mg : Str → Option Value) (base : Heap) (C : Addr) (m : Str) (k : Nat) (ps : List Str) (sp : Sp) : Prop :=
  ∃ (p g : Addr) (fd : FuncData), FnOk P w K mg base (L2.CX P w) k g fd ps sp ∧ CRead K C (.type "type") ∧ CMet K C (.type "type") m p g ∧ Binds K fd ps []
theorem ClsMd.cal {P : Program} {w : World} {K : PySem.W.Frag} {mg : Str → Option Value} {base : Heap} {C : Addr} {m qual : Str} {st : Stmt} {k : Nat} {ps : List Str} {sp : Sp} (d : ClsMd K C m qual st ps)
    (h : ∀ f fd, Fun K m qual st f fd → FnOk P w K mg base (L2.CX P w) k f fd ps sp) : CalQ P w K mg base C m k ps sp := by
  obtain ⟨p, g, fd, r, c, F, b⟩ := d
  exact ⟨p, g, fd, h g fd F, r, c, b⟩
theorem CalQ.up {P : Program} {w : World} {K : PySem.W.Frag} {mg : Str → Option Value} {base : Heap} {C : Addr} {m : Str} {j k : Nat} {ps : List Str} {sp : Sp} (c : CalQ P w K mg base C m j ps sp) (h : j ≤ k) : CalQ P w K mg base C m k ps sp := by
  obtain ⟨p, g, fd, F, r⟩ := c
  exact ⟨p, g, fd, F.mono h, r⟩
section
variable {X : Cx} {C : Addr} {k : Nat} {ps : List Str} {sp : Sp} {E : L2.St → XK} {pins : List (Addr × Obj)} {σ : L2.St} {H : Hp} {s : Shared}
def tCMethX (C : Addr) (sp : Sp) (E : L2.St → XK) (ta : TE) (t : TA) : TE := fun σ H Q => ta σ H fun x H1 => x = .ref C ∧ t σ H1 fun vs H2 => sp (.ref C :: vs) H2 Q (E σ)
theorem run_fnX {f : Addr} {fd : FuncData} {us : List Value} {vs : List V} {Q : VK} (F : FnOk X.prog X.w X.K X.mg X.base (L2.CX X.prog X.w) k f fd ps sp) (room : Room k X.A) (b : Binds X.K fd ps [])
    (hx : PassesAt (L2.CX X.prog X.w) X σ (E σ)) (I : Inv X pins σ H s) (r : Vals vs us) (want : sp vs H Q (E σ)) :
    codeAny (model X.prog X.w) X.A (.call (.ref f) ⟨us, []⟩) (fun r s' => match r with | .ok (.ret v) => EP X pins σ Q v s' | .ok _ => False | .error e => X.xe e s') s := by
  have hl : us.length = ps.length := r.length.symm.trans (F.len _ _ _ _ want)
  have bt : BindsTo s fd ⟨us, []⟩ (ps.zip us) := by
    have q := b s us I.kIn (by rw [List.append_nil]; exact hl)
    rw [List.append_nil] at q
    exact q
  refine codeAny_mono (F.run X.A X.stack s H ⟨us, []⟩ us vs Q (E σ) room I.env0 bt r want) fun res s' hres => ?_
  match res, hres with
  | .error e, hres => exact hx pins H s e s' I hres
  | .ok (.ret u), hres => exact I.after hres
theorem run_cmX {g : Addr} {fd : FuncData} {q : Addr} {Q : VK} {us : List Value} {vs : List V} (F : FnOk X.prog X.w X.K X.mg X.base (L2.CX X.prog X.w) k g fd ps sp) (hr : Room k X.A) (b : Binds X.K fd ps []) (hx : PassesAt (L2.CX X.prog X.w) X σ (E σ))
    (I : Inv X ((q, PySem.W.methodObj (.ref g) (.ref C)) :: pins) σ H s) (r : Vals vs us) (h : sp (.ref C :: vs) H Q (E σ)) : wpAny (model X.prog X.w) X.A (call (.ref q) us) (EP X pins σ Q) X.xe s := by
  have z : wpAny (model X.prog X.w) X.A (call (.ref q) us) (EP X ((q, PySem.W.methodObj (.ref g) (.ref C)) :: pins) σ Q) X.xe s :=
    wpAny_call (PySem.W.method_call (pin_at I) (run_fnX (us := .ref C :: us) (vs := .ref C :: vs) F hr b hx I (.cons rfl r) h))
  exact thn z fun _ _ y => unpinE y
/-- C.m(..), m a classmethod that may raise -/
theorem pe_cmX {m : Str} {o e : Expr} {es : List Expr} {ta : TE} {t : TA} {pos apos : Pos} {pl : Sem Bool} (he : PE X o ta) (c : CalQ X.prog X.w X.K X.mg X.base C m k ps sp) (hr : Room k X.A) (hx : ∀ σ, PassesAt (L2.CX X.prog X.w) X σ (E σ)) (ha : PA X (e :: es) t)
    (hst : starEach (e :: es) X.env = (false, eval e X.env) :: starEach es X.env := by rfl) (hpl : (backTo pos (starEach es X.env)).any (·.1) = false := by rfl)
    (ht : eval (.Call (.Attribute o m apos) (e :: es) [] pos) X.env = (do
      let ov ← eval o X.env
      standAt apos.atName
      let (f, first) ← holding [ov] (getMethod ov m pl)
      callWith pos f first (backTo pos (starEach (e :: es) X.env)) (backToKw pos (keywordEach [] X.env))) := by rfl) :
    PE X (.Call (.Attribute o m apos) (e :: es) [] pos) (tCMethX C sp E ta t) := by
  obtain ⟨p, g, fd, F, r, c, b⟩ := c
  refine ⟨fun pins s σ H Q I h => ?_⟩
  refine PySem.W.methodCall_KW (pl := pl) (thn (he.run pins s σ H _ I h) fun u s1 ⟨x, H1, I1, rx, ex, q⟩ => ?_) ht
  subst ex
  obtain rfl : u = Value.ref C := rx
  refine getmethcm_ok I1 r c fun s2 I2 => ?_
  refine callwith_cm I2 (base_none I1 (Nat.le_refl _)) c.fi (thn (ha.run pos _ s2 σ H1 _ I2 q) fun us s3 ⟨vs, H2, I3, rv, q2⟩ => ⟨⟨pin_at I3, I3.kIn⟩, ?_⟩) hst hpl
  exact run_cmX F hr b (hx σ) I3 rv q2
/-- x(..), x a local name that holds the class at C -/
def tMakeL (i : Nat) (C : Addr) (sp : Sp) (t : TA) : TE := fun σ H Q => σ[i]? = some (some (.ref C)) ∧ tMakeC C sp t σ H Q
theorem pe_makeL {i : Nat} {x : Str} {p pos : Pos} {e : Expr} {es : List Expr} {t : TA} (c : CalI X.prog X.w X.K X.mg X.base C k ps sp) (hr : Room (k + 1) X.A) (hN : X.N[i]? = some x) (hv : Vis X.env.scope x) (ha : PA X (e :: es) t)
    (hd : (x == ("__debug__" : Str)) = false := by decide) (hcd : (x == ("__classdict__" : Str)) = false := by decide) (he : starEach (e :: es) X.env = (false, eval e X.env) :: starEach es X.env := by rfl) (hpl : (backTo pos (starEach es X.env)).any (·.1) = false := by rfl) :
    PE X (.Call (.Name x p) (e :: es) [] pos) (tMakeL i C sp t) := by
  obtain ⟨f, fd, M, F, b⟩ := c
  refine ⟨fun pins s σ H Q I h => ?_⟩
  obtain ⟨h0, h⟩ := h
  rw [← tMakeC_eq] at h
  refine wpAny_Call_Name_kw (thn ((pe_var (pos := p) (i := i) hN hv hd hcd).run pins s σ H (fun v H1 => v = .ref C ∧ H1 = H) I ⟨.ref C, h0, rfl, rfl⟩) fun u s1 ⟨v, H1, I1, r1, q1⟩ => ?_)
  obtain ⟨ev, eH⟩ := q1
  subst ev
  rw [eH] at I1
  obtain rfl : u = Value.ref C := r1
  refine PySem.W.callWith_K (h₀ := X.base) I1.ok.mod.kin M.kp (thn (ha.run pos pins s1 σ H _ I1 h) fun us s2 ⟨vs, H1, I2, r, q⟩ => ⟨I2.kIn, ?_⟩) he hpl
  exact run_make M F hr b .nil pass0 I2 r q
end
end Gx

set_option maxRecDepth 100000
set_option maxHeartbeats 4000000
/-! ### own rules: a class whose __init__ may raise; two attributes set at once -/
namespace Gx
open PySem PySem.Spec PySem.W PySem.Calls PyProof.Rows L2
/-- the __init__ of the class at C keeps sp and may raise -/
def CalIX (P : Program) (w : World) (K : PySem.W.Frag) (mg : Str → Option Value) (base : Heap) (C : Addr) (k : Nat) (ps : List Str) (sp : Sp) : Prop :=
  ∃ (f : Addr) (fd : FuncData), Mk K C f ∧ FnOk P w K mg base (L2.CX P w) k f fd ps sp ∧ Binds K fd ps []
section
variable {X : Cx} {C : Addr} {k : Nat} {ps : List Str} {sp : Sp} {E : L2.St → XK}
theorem run_makeX {f : Addr} {fd : FuncData} {pins : List (Addr × Obj)} {σ : L2.St} {H : Hp} {s : Shared} {Q : VK} {us : List Value} {vs : List V} (M : Mk X.K C f) (F : FnOk X.prog X.w X.K X.mg X.base (L2.CX X.prog X.w) k f fd ps sp) (hr : Room (k + 1) X.A) (hb : Binds X.K fd ps [])
    (hx : PassesAt (L2.CX X.prog X.w) X σ (E σ)) (I : Inv X pins σ H s) (r : Vals vs us)
    (h : ∀ x dx, H x = none → H dx = none → dx ≠ x → sp (.ref x :: vs) (upd (upd H dx (.own x)) x (.ins C dx [])) (fun v H2 => v = .non ∧ Q (.ref x) H2) (E σ)) :
    wpAny (model X.prog X.w) X.A (call (.ref C) us) (EP X pins σ Q) X.xe s := by
  have hq := h (s.heap.objs.size + 1) s.heap.objs.size (I.hok.fresh (Nat.le_succ _)) (I.hok.fresh (Nat.le_refl _)) (Nat.ne_of_lt (Nat.lt_succ_self _))
  have I2 := Inv.made (C := C) I
  have r2 : Vals (V.ref (s.heap.objs.size + 1) :: vs) (Value.ref (s.heap.objs.size + 1) :: us) := .cons rfl r
  have hl : (Value.ref (s.heap.objs.size + 1) :: us).length = ps.length := by
    have e := r2.length
    rw [F.len _ _ _ _ hq] at e
    exact e.symm
  have hb1 := hb _ (Value.ref (s.heap.objs.size + 1) :: us) I2.kIn (by rw [List.append_nil]; exact hl)
  rw [List.append_nil] at hb1
  refine wpAny_call (make_map (f := f) I.kIn M.makes M.init (beq_iff_eq.mp M.fn) (codeAny_mono (F.run _ X.stack _ _ ⟨Value.ref (s.heap.objs.size + 1) :: us, []⟩ (Value.ref (s.heap.objs.size + 1) :: us) _ _ (E σ) (hr.make C us [])
    (I2.env0.make C us []) hb1 r2 hq) fun r s' hq' => ?_))
  cases r with
  | error e => exact hx pins _ _ e s' I2 hq'
  | ok fl =>
    cases fl with
    | ret u =>
      obtain ⟨v, H', I3, rv, ev, q3⟩ := I2.after hq'
      subst ev
      exact ⟨rv, ⟨V.ref (s.heap.objs.size + 1), H', I3, rfl, q3⟩⟩
    | next => exact False.elim hq'
    | brk => exact False.elim hq'
    | cont => exact False.elim hq'
/-- x(..), an own class whose __init__ may raise -/
def tMakeX (C : Addr) (sp : Sp) (E : L2.St → XK) (t : TA) : TE := fun σ H Q => t σ H fun vs H1 => ∀ x dx, H1 x = none → H1 dx = none → dx ≠ x → sp (.ref x :: vs) (upd (upd H1 dx (.own x)) x (.ins C dx [])) (fun v H2 => v = .non ∧ Q (.ref x) H2) (E σ)
theorem pe_makeX {x : Str} {p pos : Pos} {e : Expr} {es : List Expr} {t : TA} (c : CalIX X.prog X.w X.K X.mg X.base C k ps sp) (hr : Room (k + 1) X.A) (hg : Gl X x) (hm : X.mg x = some (.ref C)) (hx : ∀ σ, PassesAt (L2.CX X.prog X.w) X σ (E σ)) (ha : PA X (e :: es) t)
    (hdb : (x == ("__debug__" : Str)) = false := by decide) (he : starEach (e :: es) X.env = (false, eval e X.env) :: starEach es X.env := by rfl) (hpl : (backTo pos (starEach es X.env)).any (·.1) = false := by rfl) :
    PE X (.Call (.Name x p) (e :: es) [] pos) (tMakeX C sp E t) := by
  obtain ⟨f, fd, M, F, b⟩ := c
  refine ⟨fun pins s σ H Q I h => ?_⟩
  refine wpAny_Call_Name_kw (ld_glob I hg hm ?_ hdb)
  refine PySem.W.callWith_K (h₀ := X.base) I.ok.mod.kin M.kp (thn (ha.run pos pins s σ H _ I h) fun us s2 ⟨vs, H1, I2, r, q⟩ => ⟨I2.kIn, ?_⟩) he hpl
  exact run_makeX M F hr b (hx σ) I2 r q
end
end Gx

set_option maxRecDepth 100000
set_option maxHeartbeats 4000000
/-! ### own rules: classmethods with a star parameter; a class held by a local name whose __init__ may raise -/
namespace Gx
open PySem PySem.Spec PyProof.Rows L2 ClX
/-- C.m is a classmethod whose last parameter takes what is left over -/
def ClsMdS (K : PySem.W.Frag) (C : Addr) (m qual : Str) (st : Stmt) (ps : List Str) (pv : Str) : Prop :=
  ∃ (p g : Addr) (fd : FuncData), CRead K C (.type "type") ∧ CMet K C (.type "type") m p g ∧ Fun K m qual st g fd ∧ ∀ us rest : List Value, us.length = ps.length → bindArgs fd ⟨us ++ rest, []⟩ = (newTuple rest >>= fun t => pure (ps.zip us ++ [(pv, t)]))
/-- .. it keeps sp of the parameters and the tuple, and may raise -/
def CalQS (P : Program) (w : World) (K : PySem.W.Frag) (mg : Str → Option Value) (base : Heap) (C : Addr) (m : Str) (k n : Nat) (sp : Sp) : Prop :=
  ∃ (p g : Addr), CRead K C (.type "type") ∧ CMet K C (.type "type") m p g ∧
    FnR P w K mg base (L2.CX P w) k g (fun vs H Q E => ∃ ws rest, vs = ws ++ rest ∧ ws.length = n ∧ rest.length ≤ sizeLine ∧ ∀ p, H p = none → sp (ws ++ [V.ref p]) (upd H p (.tup rest)) Q E)
theorem ClsMdS.cal {P : Program} {w : World} {K : PySem.W.Frag} {mg : Str → Option Value} {base : Heap} {C : Addr} {m qual pv : Str} {st : Stmt} {k : Nat} {N ps : List Str} {sp : Sp} (d : ClsMdS K C m qual st ps pv) (S : FnScope N (ps ++ [pv]) (defScope st))
    (h : ∀ (f : Addr) (cdv : Value) (A : Around) (outer : List Env) (s : Shared) (H : Hp) (vs : List V) (Q : VK) (E : XK), Room k (A.deeper (envOfC qual (defScope st) s.heap.objs.size f cdv)) → sp vs H Q E →
      ∃ t, PSs (cxOf (L2.CX P w) P w K mg base N qual (defScope st) f cdv A outer s H E) (defBody st) t ∧ t { nx := fun _ H' => Q .non H', rt := Q } (start N vs) H) : CalQS P w K mg base C m (k + 1) ps.length sp := by
  obtain ⟨p, g, fd, r, c, F, hb⟩ := d
  obtain ⟨oc, od, an, kV, doc, pm, cdv, ct, osl, rfl, lk, hcd⟩ := F.ex
  exact ⟨p, g, r, c, StX.fn_star lk hcd S StX.cxUp hb fun A outer s H vs Q E hr want => h g cdv A outer s H vs Q E hr want⟩
section
variable {X : Cx} {C : Addr} {k n : Nat} {sp : Sp} {E : L2.St → XK} {pins : List (Addr × Obj)} {σ : L2.St} {H : Hp} {s : Shared}
theorem run_fnRX {f : Addr} {us : List Value} {vs : List V} {Q : VK} {sp : Sp} (F : FnR X.prog X.w X.K X.mg X.base (L2.CX X.prog X.w) k f sp) (room : Room k X.A)
    (hx : PassesAt (L2.CX X.prog X.w) X σ (E σ)) (I : Inv X pins σ H s) (r : Vals vs us) (want : sp vs H Q (E σ)) :
    codeAny (model X.prog X.w) X.A (.call (.ref f) ⟨us, []⟩) (fun r s' => match r with | .ok (.ret v) => EP X pins σ Q v s' | .ok _ => False | .error e => X.xe e s') s := by
  refine codeAny_mono (F X.A X.stack s H us vs Q (E σ) room I.env0 r want) fun res s' hres => ?_
  match res, hres with
  | .error e, hres => exact hx pins H s e s' I hres
  | .ok (.ret u), hres => exact I.after hres
theorem run_cmS {g : Addr} {q : Addr} {Q : VK} {us : List Value} {vs : List V} {sp : Sp} (F : FnR X.prog X.w X.K X.mg X.base (L2.CX X.prog X.w) k g sp) (hr : Room k X.A) (hx : PassesAt (L2.CX X.prog X.w) X σ (E σ))
    (I : Inv X ((q, PySem.W.methodObj (.ref g) (.ref C)) :: pins) σ H s) (r : Vals vs us) (h : sp (.ref C :: vs) H Q (E σ)) : wpAny (model X.prog X.w) X.A (call (.ref q) us) (EP X pins σ Q) X.xe s := by
  have z : wpAny (model X.prog X.w) X.A (call (.ref q) us) (EP X ((q, PySem.W.methodObj (.ref g) (.ref C)) :: pins) σ Q) X.xe s :=
    wpAny_call (PySem.W.method_call (pin_at I) (run_fnRX (us := .ref C :: us) (vs := .ref C :: vs) F hr hx I (.cons rfl r) h))
  exact thn z fun _ _ y => unpinE y
/-- C.m(..), m a classmethod with a star parameter behind the class -/
def tCMethS (C : Addr) (sp : Sp) (E : L2.St → XK) (ta : TE) (t : TA) : TE := fun σ H Q => ta σ H fun x H1 => x = .ref C ∧ t σ H1 fun vs H2 => vs.length ≤ sizeLine ∧ ∀ p, H2 p = none → sp [.ref C, .ref p] (upd H2 p (.tup vs)) Q (E σ)
theorem pe_cmS {m : Str} {o e : Expr} {es : List Expr} {ta : TE} {t : TA} {pos apos : Pos} {pl : Sem Bool} (he : PE X o ta) (c : CalQS X.prog X.w X.K X.mg X.base C m k 1 sp) (hr : Room k X.A) (hx : ∀ σ, PassesAt (L2.CX X.prog X.w) X σ (E σ)) (ha : PA X (e :: es) t)
    (hst : starEach (e :: es) X.env = (false, eval e X.env) :: starEach es X.env := by rfl) (hpl : (backTo pos (starEach es X.env)).any (·.1) = false := by rfl)
    (ht : eval (.Call (.Attribute o m apos) (e :: es) [] pos) X.env = (do
      let ov ← eval o X.env
      standAt apos.atName
      let (f, first) ← holding [ov] (getMethod ov m pl)
      callWith pos f first (backTo pos (starEach (e :: es) X.env)) (backToKw pos (keywordEach [] X.env))) := by rfl) :
    PE X (.Call (.Attribute o m apos) (e :: es) [] pos) (tCMethS C sp E ta t) := by
  obtain ⟨p, g, r, c, F⟩ := c
  refine ⟨fun pins s σ H Q I h => ?_⟩
  refine PySem.W.methodCall_KW (pl := pl) (thn (he.run pins s σ H _ I h) fun u s1 ⟨x, H1, I1, rx, ex, q⟩ => ?_) ht
  subst ex
  obtain rfl : u = Value.ref C := rx
  refine getmethcm_ok I1 r c fun s2 I2 => ?_
  refine callwith_cm I2 (base_none I1 (Nat.le_refl _)) c.fi (thn (ha.run pos _ s2 σ H1 _ I2 q) fun us s3 ⟨vs, H2, I3, rv, q2⟩ => ⟨⟨pin_at I3, I3.kIn⟩, ?_⟩) hst hpl
  exact run_cmS F hr (hx σ) I3 rv ⟨[.ref C], vs, rfl, rfl, q2.1, q2.2⟩
end
end Gx

set_option maxRecDepth 100000
set_option maxHeartbeats 4000000
namespace Gx
open PySem PySem.Spec PyProof.Rows L2
/-! ### dicts whose keys are nested tuples -/
mutual
/-- the value v is the key k -/
inductive KeyV (K : PySem.W.Frag) (H : Hp) : NestedKey → V → Prop
  | none : KeyV K H .none .non
  | bool (b : Bool) : KeyV K H (.num (if b = true then 1 else 0)) (.bl b)
  | int (i : Int) : KeyV K H (.num i) (.int i)
  | text (x : Str) : KeyV K H (.text x) (.str x)
  | tup {a : Addr} {xs : List V} {ks : List NestedKey} : SqT K H a xs → KeyAll K H ks xs → KeyV K H (.tup ks) (.ref a)
inductive KeyAll (K : PySem.W.Frag) (H : Hp) : List NestedKey → List V → Prop
  | nil : KeyAll K H [] []
  | cons {k : NestedKey} {v : V} {ks : List NestedKey} {vs : List V} : KeyV K H k v → KeyAll K H ks vs → KeyAll K H (k :: ks) (v :: vs)
end
/-- at a stands the key k -/
def KeyA (K : PySem.W.Frag) (H : Hp) (a : Addr) (k : NestedKey) : Prop := KeyV K H k (.ref a) ∧ k.depth ≤ 8
mutual
theorem KeyV.mono {K : PySem.W.Frag} {H H' : Hp} (m : ∀ a xs, SqT K H a xs → SqT K H' a xs) : ∀ (k : NestedKey) (v : V), KeyV K H k v → KeyV K H' k v
  | .none, _, x => by cases x; exact .none
  | .num i, _, x => by
    cases x with
    | bool b => exact .bool b
    | int _ => exact .int _
  | .text x, _, h => by cases h; exact .text _
  | .tup ks, _, h => by
    cases h with
    | tup h1 h2 => exact .tup (m _ _ h1) (KeyAll.mono m ks _ h2)
theorem KeyAll.mono {K : PySem.W.Frag} {H H' : Hp} (m : ∀ a xs, SqT K H a xs → SqT K H' a xs) : ∀ (ks : List NestedKey) (vs : List V), KeyAll K H ks vs → KeyAll K H' ks vs
  | [], _, x => by cases x; exact .nil
  | k :: ks, _, x => by
    cases x with
    | cons h1 h2 => exact .cons (KeyV.mono m k _ h1) (KeyAll.mono m ks _ h2)
end
theorem KeyA.mono {K : PySem.W.Frag} {H H' : Hp} (m : ∀ a xs, SqT K H a xs → SqT K H' a xs) {a : Addr} {k : NestedKey} (h : KeyA K H a k) : KeyA K H' a k := ⟨h.1.mono m k _, h.2⟩
/-- the entries: key, the key's own tuple, value -/
abbrev NL := List (NestedKey × Addr × V)
def prN (L : NL) : List (NestedKey × V) := L.map fun x => (x.1, x.2.2)
def getN (L : NL) (k : NestedKey) : Option V := valV (prN L) k
def putN (L : NL) (k : NestedKey) (a : Addr) (v : V) : NL := if (getN L k).isSome = true then L.map (fun x => if x.1 = k then (x.1, x.2.1, v) else x) else L ++ [(k, a, v)]
def dropN (L : NL) (k : NestedKey) : NL := L.filter fun x => decide (x.1 ≠ k)
theorem prN_put (L : NL) (k : NestedKey) (a : Addr) (v : V) : prN (putN L k a v) = putK (prN L) k v := by
  unfold putN putK
  rw [valV_any]
  show prN (if (valV (prN L) k).isSome = true then _ else _) = _
  split
  · unfold prN
    rw [List.map_map, List.map_map]
    refine List.map_congr_left fun x _ => ?_
    by_cases h : x.1 = k <;> simp [h]
  · simp [prN]
theorem prN_drop (L : NL) (k : NestedKey) : prN (dropN L k) = dropK (prN L) k := by
  unfold prN dropN dropK
  rw [List.filter_map]
  rfl
theorem prN_len (L : NL) : (prN L).length = L.length := by simp [prN]
theorem putN_len (L : NL) (k : NestedKey) (a : Addr) (v : V) : (putN L k a v).length ≤ L.length + 1 := by
  rw [← prN_len, prN_put, ← prN_len L]
  exact length_putK _ _ _
theorem dropN_len (L : NL) (k : NestedKey) : (dropN L k).length ≤ L.length := List.length_filter_le _ _
theorem putN_mem {L : NL} {k : NestedKey} {a : Addr} {v : V} {x : NestedKey × Addr × V} (h : x ∈ putN L k a v) : (∃ y ∈ L, x.1 = y.1 ∧ x.2.1 = y.2.1) ∨ (x.1 = k ∧ x.2.1 = a) := by
  unfold putN at h
  split at h
  · obtain ⟨y, hy, e⟩ := List.mem_map.mp h
    refine .inl ⟨y, hy, ?_⟩
    by_cases q : y.1 = k
    · rw [if_pos q] at e
      rw [← e]
      exact ⟨rfl, rfl⟩
    · rw [if_neg q] at e
      rw [← e]
      exact ⟨rfl, rfl⟩
  · rcases List.mem_append.mp h with h | h
    · exact .inl ⟨x, h, rfl, rfl⟩
    · have e : x = (k, a, v) := by simpa using h
      rw [e]
      exact .inr ⟨rfl, rfl⟩
abbrev NR : NL → List (NestedKey × Addr × Value) → Prop := Paired fun p q => q.1 = p.1 ∧ q.2.1 = p.2.1 ∧ RelV p.2.2 q.2.2
theorem NR.val {L : NL} {xs : List (NestedKey × Addr × Value)} (r : NR L xs) (k : NestedKey) : RelO (getN L k) ((atKey xs k).map (·.2)) := by
  unfold getN prN
  induction r with
  | nil => exact True.intro
  | @cons p q ps qs h t ih =>
    obtain ⟨h1, _, h2⟩ := h
    rw [List.map_cons]
    by_cases e : p.1 = k
    · have e' : q.1 = k := by rw [h1, e]
      have b : atKey (q :: qs) k = some q.2 := by simp [atKey, List.find?_cons, e']
      rw [valV_pos (p := (p.1, p.2.2)) e, b]; exact h2
    · have e' : ¬ q.1 = k := fun z => e (h1.symm.trans z)
      have b : atKey (q :: qs) k = atKey qs k := by simp [atKey, List.find?_cons, e']
      rw [valV_neg (p := (p.1, p.2.2)) e, b]; exact ih
theorem NR.repl {L : NL} {xs : List (NestedKey × Addr × Value)} (r : NR L xs) (k : NestedKey) {y : V} {u : Value} (ry : RelV y u) :
    NR (L.map fun x => if x.1 = k then (x.1, x.2.1, y) else x) (xs.map (putAt k u)) := by
  induction r with
  | nil => exact .nil
  | @cons p q ps qs h t ih =>
    rw [List.map_cons, List.map_cons]
    refine .cons ?_ ih
    obtain ⟨h1, h2, h3⟩ := h
    unfold putAt
    by_cases e : p.1 = k
    · rw [if_pos e, if_pos (by rw [h1, e])]; exact ⟨h1, h2, ry⟩
    · rw [if_neg e, if_neg (fun z => e (h1.symm.trans z))]; exact ⟨h1, h2, h3⟩
theorem NR.put {L : NL} {xs : List (NestedKey × Addr × Value)} (r : NR L xs) (k : NestedKey) {b : Addr} {y : V} {u : Value} (ry : RelV y u) : NR (putN L k b y) (storedH xs k b u) := by
  have e : (getN L k).isSome = (atKey xs k).isSome := by rw [(r.val k).isSome_eq, Option.isSome_map]
  unfold putN storedH
  rw [e]
  by_cases q : (atKey xs k).isSome = true
  · rw [if_pos q, if_pos q]; exact r.repl k ry
  · rw [if_neg q, if_neg q]; exact Paired.snoc r ⟨rfl, rfl, ry⟩
theorem NR.drop {L : NL} {xs : List (NestedKey × Addr × Value)} (r : NR L xs) (k : NestedKey) : NR (dropN L k) (withoutH xs k) := by
  unfold dropN withoutH
  induction r with
  | nil => exact .nil
  | @cons p q ps qs h t ih =>
    obtain ⟨h1, h2⟩ := h
    rw [List.filter_cons, List.filter_cons]
    by_cases e : p.1 = k
    · have a : ¬ decide (p.1 ≠ k) = true := by simp [e]
      have b : ¬ decide (q.1 ≠ k) = true := by simp [h1, e]
      rw [if_neg a, if_neg b]; exact ih
    · have e' : ¬ q.1 = k := fun z => e (h1.symm.trans z)
      have a : decide (p.1 ≠ k) = true := by simp [e]
      have b : decide (q.1 ≠ k) = true := by simp [e']
      rw [if_pos a, if_pos b]; exact .cons ⟨h1, h2⟩ ih
theorem NR.length {L : NL} {xs : List (NestedKey × Addr × Value)} (r : NR L xs) : L.length = xs.length := Paired.length r
/-- what is true of the dict's one object -/
def DNp (P : Program) (w : World) (d : Addr) (L : NL) (h : Heap) : Prop := L.length ≤ sizeLine ∧ (d == sysModules) = false ∧ ∃ xs, NR L xs ∧
  ∃ o es ep, h.get? d = some o ∧ o.ExactDict ∧ o.data = .dict es ep ∧ es.toList = xs.map (entryOfKey (nestedKind P w)) ∧ (xs.map (·.1)).Nodup
/-- the dict with the entries L stands at d -/
def DN (P : Program) (w : World) (d : Addr) (L : NL) : HO := .ext (DNp P w d L)
theorem dnp_at {P : Program} {w : World} {d : Addr} {L : NL} {h1 h2 : Heap} (x : DNp P w d L h1) (k : ∀ o, h1.get? d = some o → h2.get? d = some o) : DNp P w d L h2 := by
  obtain ⟨z, y, xs, r, o, es, ep, e, c⟩ := x
  exact ⟨z, y, xs, r, o, es, ep, k _ e, c⟩
theorem dn_ok {P : Program} {w : World} {d : Addr} {L : NL} {H : Hp} {h : Heap} (x : DNp P w d L h) : ObjOk P w H h d (DN P w d L) := by
  obtain ⟨z, y, xs, r, o, es, ep, e, c⟩ := id x
  exact ⟨x, ⟨o, e⟩, fun h1 h2 p k => dnp_at p k⟩
theorem dnp_of {P : Program} {w : World} {d : Addr} {L : NL} {H : Hp} {h : Heap} (ok : HOk P w H h) (e : Rd H d (DN P w d L)) : DNp P w d L h := (show ObjOk P w H h d (DN P w d L) from e.ok ok).1
/-- a dict that can be read, its keys standing -/
def NDict (P : Program) (w : World) (K : PySem.W.Frag) (H : Hp) (d : Addr) (L : NL) : Prop := Rd H d (DN P w d L) ∧ ∀ x ∈ L, KeyA K H x.2.1 x.1
section
variable {X : Cx} {pins : List (Addr × Obj)} {σ : L2.St} {H : Hp} {s : Shared} {d b : Addr} {L : NL} {k : NestedKey} {v z : V} {u r : Value} {A : Around} {E : Value → Shared → Prop}
mutual
theorem keyV_is (I : Inv X pins σ H s) : ∀ (k : NestedKey) (v : V) (u : Value), KeyV X.K H k v → RelV v u → NestedIs s.heap k u
  | .none, _, _, x, r => by cases x; obtain rfl := (show _ = Value.none from r); exact .none
  | .num i, _, _, x, r => by
    cases x with
    | bool b => obtain rfl := (show _ = Value.bool b from r); exact .bool rfl
    | int _ => obtain ⟨t, rfl⟩ := (show ∃ t, _ = Value.int i t from r); exact .int _ _
  | .text x, _, _, h, r => by cases h; obtain ⟨t, rfl⟩ := (show ∃ t, _ = Value.str x t from r); exact .text _ _
  | .tup ks, _, _, h, r => by
    cases h with
    | @tup a xs _ h1 h2 =>
      obtain rfl := (show _ = Value.ref a from r)
      obtain ⟨its, rv, ⟨o, e1, e2, n, e3⟩, _⟩ := I.tuple h1
      exact .tup e1 e2 e3 (by simpa using keyAll_is I ks _ _ h2 rv)
theorem keyAll_is (I : Inv X pins σ H s) : ∀ (ks : List NestedKey) (vs : List V) (us : List Value), KeyAll X.K H ks vs → Vals vs us → NestedAll s.heap ks us
  | [], _, _, x, r => by cases x; cases r; exact .nil
  | k :: ks, _, _, x, r => by
    cases x with
    | cons h1 h2 =>
      cases r with
      | cons r1 r2 => exact .cons (keyV_is I k _ _ h1 r1) (keyAll_is I ks _ _ h2 r2)
end
theorem nkey_of (I : Inv X pins σ H s) (h : KeyA X.K H b k) : (nestedKind X.prog X.w).is s.heap k b := ⟨keyV_is I k _ _ h.1 rfl, h.2⟩
theorem dn_rd (I : Inv X pins σ H s) (e : NDict X.prog X.w X.K H d L) : L.length ≤ sizeLine ∧ (d == sysModules) = false ∧ ∃ xs, NR L xs ∧ s.heap.DictOfH (nestedKind X.prog X.w) d xs := by
  obtain ⟨e, hk⟩ := e
  obtain ⟨z, y, xs, r, o, es, ep, h1, h2, h3, h4, h5⟩ := dnp_of I.hok e
  refine ⟨z, y, xs, r, o, es, ep, h1, h2, h3, h4, fun x hx => ?_, h5⟩
  have all : ∀ {l : NL} {m : List (NestedKey × Addr × Value)}, NR l m → (∀ x ∈ l, KeyA X.K H x.2.1 x.1) → ∀ x ∈ m, (nestedKind X.prog X.w).is s.heap x.1 x.2.1 := by
    intro l m q
    induction q with
    | nil => intro _ x hx; exact nomatch hx
    | @cons p q ps qs hq t ih =>
      intro hl x hx
      rcases List.mem_cons.mp hx with e | hx
      · subst e
        rw [hq.1, hq.2.1]
        exact nkey_of I (hl p List.mem_cons_self)
      · exact ih (fun y hy => hl y (List.mem_cons_of_mem _ hy)) x hx
  exact all r hk x hx
theorem roomN (hu : A.units + 64 < cLine) : (nestedKind X.prog X.w).room A.in1 := by
  show A.units + 1 + 8 < cLine
  omega
theorem n_getItem {Q : Value → Shared → Prop} (hu : A.units + 64 < cLine) (I : Inv X pins σ H s) (e : NDict X.prog X.w X.K H d L) (hb : KeyA X.K H b k) (hv : getN L k = some v) (h : ∀ w' s', Inv X pins σ H s' → RelV v w' → Q w' s') :
    wpAny (model X.prog X.w) A (getItem (.ref d) (.ref b)) Q E s := by
  obtain ⟨z, hd, xs, rel, dd⟩ := dn_rd I e
  obtain ⟨w', hw, rw'⟩ := RelO.some_of (v := v) (o := (atKey xs k).map (·.2)) (by rw [← hv]; exact rel.val k)
  obtain ⟨p, hp, hp2⟩ := Option.map_eq_some_iff.mp hw
  refine wpAny_getItem_heap (roomN (X := X) hu) (nkey_of I hb) dd hp ?_
  rw [hp2]
  exact h w' _ (I.tok _) rw'
theorem n_in {Q : Value → Shared → Prop} (hu : A.units + 64 < cLine) (I : Inv X pins σ H s) (e : NDict X.prog X.w X.K H d L) (hb : KeyA X.K H b k) (h : ∀ s', Inv X pins σ H s' → Q (.bool (getN L k).isSome) s') :
    wpAny (model X.prog X.w) A (compareOp .In (.ref b) (.ref d)) Q E s := by
  obtain ⟨z, hd, xs, rel, dd⟩ := dn_rd I e
  refine wpAny_in_heap (roomN (X := X) hu) (nkey_of I hb) hd dd ?_
  have q := (rel.val k).isSome_eq
  rw [Option.isSome_map] at q
  rw [← q]
  exact h _ (I.tok _)
theorem n_notIn {Q : Value → Shared → Prop} (hu : A.units + 64 < cLine) (I : Inv X pins σ H s) (e : NDict X.prog X.w X.K H d L) (hb : KeyA X.K H b k) (h : ∀ s', Inv X pins σ H s' → Q (.bool (!(getN L k).isSome)) s') :
    wpAny (model X.prog X.w) A (compareOp .NotIn (.ref b) (.ref d)) Q E s := by
  obtain ⟨z, hd, xs, rel, dd⟩ := dn_rd I e
  refine wpAny_notIn_heap (roomN (X := X) hu) (nkey_of I hb) hd dd ?_
  have q := (rel.val k).isSome_eq
  rw [Option.isSome_map] at q
  rw [← q]
  exact h _ (I.tok _)
theorem n_get2 {Q : Value → Shared → Prop} (hu : A.units + 64 < cLine) (I : Inv X pins σ H s) (e : NDict X.prog X.w X.K H d L) (hb : KeyA X.K H b k) (rd : RelV z r) (h : ∀ w' s', Inv X pins σ H s' → RelV ((getN L k).getD z) w' → Q w' s') :
    wpAny (model X.prog X.w) A (call (.builtin "dict.get") [.ref d, .ref b, r]) Q E s := by
  obtain ⟨_, hd, xs, rel, dd⟩ := dn_rd I e
  exact call_meetsIn PySem.F.slot_dict_get dd.typeIs PySem.F.entry_dict_get (PySem.F.args_dict_get_3 _ _ _) (meetsH_dict_get_default (nestedKind X.prog X.w) d b hd r) ⟨roomN (X := X) hu, k, xs, nkey_of I hb, dd, h _ _ (I.tok _) ((rel.val k).getD rd)⟩
/-- the keys stay when the dict's object is replaced -/
theorem SqT.ext_upd {K : PySem.W.Frag} {φ : Heap → Prop} {u : HO} {a : Addr} {xs : List V} (e : H d = some (.ext φ)) (h : SqT K H a xs) : SqT K (upd H d u) a xs := by
  rcases h with h | h
  · refine .inl ?_
    rcases h with h | ⟨o, h⟩
    · exact .inl (by rw [upd_ne (fun z => by rw [z, e] at h; cases h)]; exact h)
    · exact .inr ⟨o, by rw [upd_ne (fun z => by rw [z, e] at h; cases h)]; exact h⟩
  · exact .inr h
theorem KeyA.ext_upd {K : PySem.W.Frag} {φ : Heap → Prop} {u : HO} {a : Addr} {p : NestedKey} (e : H d = some (.ext φ)) (h : KeyA K H a p) : KeyA K (upd H d u) a p := h.mono fun _ _ q => SqT.ext_upd e q
theorem n_write {L' : NL} {xs : List (NestedKey × Addr × Value)} {h' : Heap} {t' : Nat} (I : Inv X pins σ H s) (e : H d = some (DN X.prog X.w d L)) (hl : L'.length ≤ sizeLine) (rel : NR L' xs) (dd : h'.DictOfH (nestedKind X.prog X.w) d xs) (hs : Heap.SameBut d s.heap h') :
    Inv X pins σ (upd H d (DN X.prog X.w d L')) { s with heap := h', toks := t' } := by
  obtain ⟨_, hd, _⟩ := dnp_of I.hok (.inl e)
  obtain ⟨q, es, ep, hq, h2, h3, h4, _, h5⟩ := dd
  exact d_write I (by rw [e]; exact True.intro) hs ⟨q, hq⟩ (dn_ok ⟨hl, hd, xs, rel, q, es, ep, hq, h2, h3, h4, h5⟩)
theorem n_setItem {Q : Unit → Shared → Prop} (hu : A.units + 64 < cLine) (I : Inv X pins σ H s) (e : H d = some (DN X.prog X.w d L)) (hk : ∀ x ∈ L, KeyA X.K H x.2.1 x.1) (hb : KeyA X.K H b k) (hz : L.length < sizeLine) (rv : RelV v r)
    (h : ∀ s', Inv X pins σ (upd H d (DN X.prog X.w d (putN L k b v))) s' → Q () s') : wpAny (model X.prog X.w) A (setItem (.ref d) (.ref b) r) Q E s := by
  obtain ⟨z, hd, xs, rel, dd⟩ := dn_rd I ⟨.inl e, hk⟩
  have hz' : xs.length ≤ sizeLine := by rw [← rel.length]; exact z
  exact wpAny_setItem_heap (hsz := hz') (roomN (X := X) hu) (nkey_of I hb) dd fun h' dd' hs => h _ (n_write I e (by have := putN_len L k b v; omega) (rel.put k rv) dd' hs)
theorem n_dictSet {Q : Unit → Shared → Prop} (hu : A.units + 64 < cLine) (I : Inv X pins σ H s) (e : H d = some (DN X.prog X.w d L)) (hk : ∀ x ∈ L, KeyA X.K H x.2.1 x.1) (hb : KeyA X.K H b k) (hz : L.length < sizeLine) (rv : RelV v r)
    (h : ∀ s', Inv X pins σ (upd H d (DN X.prog X.w d (putN L k b v))) s' → Q () s') : wpAny (model X.prog X.w) A (dictSet d (.ref b) r) Q E s := by
  obtain ⟨z, hd, xs, rel, dd⟩ := dn_rd I ⟨.inl e, hk⟩
  have hz' : xs.length ≤ sizeLine := by rw [← rel.length]; exact z
  exact wpAny_dictSet_heap (hsz := hz') (show A.units + 8 < cLine by omega) (nkey_of I hb) dd fun h' dd' hs => h _ (n_write I e (by have := putN_len L k b v; omega) (rel.put k rv) dd' hs)
theorem n_pop {Q : Value → Shared → Prop} (hu : A.units + 64 < cLine) (I : Inv X pins σ H s) (e : H d = some (DN X.prog X.w d L)) (hk : ∀ x ∈ L, KeyA X.K H x.2.1 x.1) (hb : KeyA X.K H b k) (hv : getN L k = some v)
    (h : ∀ w' s', Inv X pins σ (upd H d (DN X.prog X.w d (dropN L k))) s' → RelV v w' → Q w' s') : wpAny (model X.prog X.w) A (call (.builtin "dict.pop") [.ref d, .ref b]) Q E s := by
  obtain ⟨z, hd, xs, rel, dd⟩ := dn_rd I ⟨.inl e, hk⟩
  have hz' : xs.length ≤ sizeLine := by rw [← rel.length]; exact z
  obtain ⟨w', hw, rw'⟩ := RelO.some_of (v := v) (o := (atKey xs k).map (·.2)) (by rw [← hv]; exact rel.val k)
  obtain ⟨p, hp, hp2⟩ := Option.map_eq_some_iff.mp hw
  refine call_pop_heap (more := []) (hsz := hz') (.inl rfl) (PySem.F.args_dict_pop_2 _ _) (roomN (X := X) hu) (nkey_of I hb) hd dd hp fun h' dd' hs => ?_
  rw [hp2]
  exact h w' _ (n_write I e (Nat.le_trans (dropN_len L k) z) (rel.drop k) dd' hs) rw'
theorem n_clear {Q : Value → Shared → Prop} (I : Inv X pins σ H s) (e : H d = some (DN X.prog X.w d L)) (h : ∀ s', Inv X pins σ (upd H d (DN X.prog X.w d [])) s' → Q .none s') :
    wpAny (model X.prog X.w) A (call (.builtin "dict.clear") [.ref d]) Q E s := by
  obtain ⟨z, hd, xs, rel, o, es, ep, ho, hx, hdt, he, hn⟩ := dnp_of I.hok (.inl e)
  have hs : es.size ≤ sizeLine := by rw [size_of_entries he, ← rel.length]; exact z
  refine call_meetsIn PySem.F.slot_dict_clear ⟨o, ho, hx.1⟩ PySem.F.entry_dict_clear (PySem.F.args_dict_clear_1 _) (meets_dict_clear_raw d) ⟨es, ep, ⟨o, ho, hx, hdt⟩, hs, fun h' hr' hs' => h _ ?_⟩
  obtain ⟨o', ho', hc', hd'⟩ := hr'
  exact n_write (t' := s.toks) I e (Nat.zero_le _) .nil ⟨o', #[], ep + 1, ho', hc', hd', rfl, (fun _ hx => nomatch hx), List.nodup_nil⟩ hs'
theorem n_raw (I : Inv X pins σ H s) (e : Rd H d (DN X.prog X.w d L)) : L.length ≤ sizeLine ∧ (d == sysModules) = false ∧ ∃ es ep, s.heap.DictRaw d es ep ∧ es.size = L.length ∧
    ∀ (i : Nat) (x : NestedKey × Addr × V), L[i]? = some x → ∃ en, es[i]? = some en ∧ en.key = .ref x.2.1 ∧ RelV x.2.2 en.val := by
  obtain ⟨z, hd, xs, rel, o, es, ep, ho, hx, hdt, he, hn⟩ := dnp_of I.hok e
  refine ⟨z, hd, es, ep, ⟨o, ho, hx, hdt⟩, by rw [size_of_entries he, ← rel.length], fun i x hi => ?_⟩
  obtain ⟨y, hy, e1, e2, e3⟩ := paired_get rel hi
  have q := entry_at he i
  rw [hy] at q
  exact ⟨_, q, congrArg Value.ref e2, e3⟩
end
end Gx


set_option maxRecDepth 100000
set_option maxHeartbeats 4000000
namespace Gx
open PySem PySem.Spec PyProof.Rows L2
/-! ### rules over dicts with keys (text, tuple of texts) -/
/-- the context's program, world and written part -/
abbrev XI (X : Cx) (P : Program) (w : World) (K : PySem.W.Frag) : Prop := X.prog = P ∧ X.w = w ∧ X.K = K
section
variable {P : Program} {w : World} {K : PySem.W.Frag}
/-- d[y] -/
def tNGet (P : Program) (w : World) (K : PySem.W.Frag) (td ty : TE) : TE := fun σ H Q => td σ H fun x H1 => ty σ H1 fun y H2 => ∃ a b L k v, x = .ref a ∧ y = .ref b ∧ NDict P w K H2 a L ∧ KeyA K H2 b k ∧ getN L k = some v ∧ Q v H2
/-- y in d, y not in d -/
def tNIn (P : Program) (w : World) (K : PySem.W.Frag) (g : Bool → Bool) (ty td : TE) : TE := fun σ H Q => ty σ H fun y H1 => td σ H1 fun x H2 => ∃ a b L k, x = .ref a ∧ y = .ref b ∧ NDict P w K H2 a L ∧ KeyA K H2 b k ∧ Q (.bl (g (getN L k).isSome)) H2
/-- d[y] = v -/
def sNPut (P : Program) (w : World) (K : PySem.W.Frag) (td ty tv : TE) : TS := fun D σ H => tv σ H fun v H1 => td σ H1 fun x H2 => ty σ H2 fun y H3 => ∃ a b L k, x = .ref a ∧ y = .ref b ∧ H3 a = some (DN P w a L) ∧ (∀ e ∈ L, KeyA K H3 e.2.1 e.1) ∧ KeyA K H3 b k ∧ L.length < sizeLine ∧ D.nx σ (upd H3 a (DN P w a (putN L k b v)))
/-- d.get(y, z) -/
def tNGet2 (P : Program) (w : World) (K : PySem.W.Frag) (td ty tx : TE) : TE := fun σ H Q => td σ H fun x H1 => ∃ a L0, x = .ref a ∧ Rd H1 a (DN P w a L0) ∧ ty σ H1 fun y H2 => tx σ H2 fun z H3 => ∃ b L k, y = .ref b ∧ NDict P w K H3 a L ∧ KeyA K H3 b k ∧ Q ((getN L k).getD z) H3
/-- d.pop(y) of a key that is there; d.clear() -/
def tNPop (P : Program) (w : World) (K : PySem.W.Frag) (td ty : TE) : TE := fun σ H Q => td σ H fun x H1 => ∃ a L0, x = .ref a ∧ Rd H1 a (DN P w a L0) ∧ ty σ H1 fun y H2 => ∃ b L k v, y = .ref b ∧ H2 a = some (DN P w a L) ∧ (∀ e ∈ L, KeyA K H2 e.2.1 e.1) ∧ KeyA K H2 b k ∧ getN L k = some v ∧ Q v (upd H2 a (DN P w a (dropN L k)))
def tNClear (P : Program) (w : World) (td : TE) : TE := fun σ H Q => td σ H fun x H1 => ∃ a L, x = .ref a ∧ H1 a = some (DN P w a L) ∧ Q .non (upd H1 a (DN P w a []))
/-- {} -/
def tNNew (P : Program) (w : World) : TE := fun _ H Q => ∀ p, H p = none → Q (.ref p) (upd H p (DN P w p []))
theorem dn_empty {H : Hp} (h : Heap) (hb : sysModules < h.objs.size) : ObjOk P w H (h.push { cls := .type "dict", data := .dict #[] }) h.objs.size (DN P w h.objs.size []) :=
  dn_ok ⟨Nat.zero_le _, beq_eq_false_iff_ne.mpr (Ne.symm (Nat.ne_of_lt hb)), [], .nil, _, #[], 0, Heap.get?_push_size _ rfl, ⟨rfl, rfl, rfl⟩, rfl, rfl, List.nodup_nil⟩
section
variable {X : Cx} {pins : List (Addr × Obj)} {σ : L2.St} {H : Hp} {s : Shared} {a : Addr} {L : NL}
theorem n_type (I : Inv X pins σ H s) (e : Rd H a (DN X.prog X.w a L)) : s.TypeIs (.ref a) "dict" ∧ (∀ b, Value.ref a = .ref b → ∃ ob, s.heap.get? b = some ob ∧ ob.dict = none) := by
  obtain ⟨_, _, es, ep, ⟨o, h1, h2, _⟩, _⟩ := n_raw I e
  refine ⟨⟨o, h1, h2.1⟩, fun b q => ?_⟩
  cases q
  exact ⟨o, h1, h2.2.1⟩
end
section
variable {X : Cx} {o i e f value : Expr} {pos pos' apos cpos : Pos} {td ty tv tx : TE}
theorem pe_nget (hx : XI X P w K) (hu : X.A.units + 64 < cLine) (ho : PE X o td) (hi : PE X i ty) (hs : NoSl i) : PE X (.Subscript o i pos) (tNGet P w K td ty) := by
  obtain ⟨rfl, rfl, rfl⟩ := hx
  refine ⟨fun pins s σ H Q I h => ?_⟩
  refine subD_of PySem.F.slot_dict_getitem.lookup hs (thn (ho.run pins s σ H _ I h) fun u s1 ⟨x, H1, I1, rx, q1⟩ => thn (hi.run pins s1 σ H1 _ I1 q1) fun iv s2 ⟨y, H2, I2, ry, a, b, L, k, v, ex, ey, g, hb, hv, q2⟩ => ?_)
  subst ex ey
  obtain rfl : u = Value.ref a := rx
  obtain rfl : iv = Value.ref b := ry
  exact ⟨(n_type I2 g.1).1, n_getItem hu I2 g hb hv fun w' s3 I3 rw' => ⟨v, H2, I3, rw', q2⟩⟩
theorem pc_nin (hx : XI X P w K) (hu : X.A.units + 64 < cLine) (hi : PE X i ty) (ho : PE X o td) : PC X .In i o (tNIn P w K id ty td) := by
  obtain ⟨rfl, rfl, rfl⟩ := hx
  refine ⟨fun pins s σ H Q I h => ?_⟩
  refine thn (hi.run pins s σ H _ I h) fun iv s1 ⟨y, H1, I1, ry, q1⟩ => thn (ho.run pins s1 σ H1 _ I1 q1) fun u s2 ⟨x, H2, I2, rx, a, b, L, k, ex, ey, g, hb, q2⟩ => ?_
  subst ex ey
  obtain rfl : u = Value.ref a := rx
  obtain rfl : iv = Value.ref b := ry
  exact n_in hu I2 g hb fun s3 I3 => ⟨.bl (getN L k).isSome, H2, I3, rfl, q2⟩
theorem pc_nnotin (hx : XI X P w K) (hu : X.A.units + 64 < cLine) (hi : PE X i ty) (ho : PE X o td) : PC X .NotIn i o (tNIn P w K not ty td) := by
  obtain ⟨rfl, rfl, rfl⟩ := hx
  refine ⟨fun pins s σ H Q I h => ?_⟩
  refine thn (hi.run pins s σ H _ I h) fun iv s1 ⟨y, H1, I1, ry, q1⟩ => thn (ho.run pins s1 σ H1 _ I1 q1) fun u s2 ⟨x, H2, I2, rx, a, b, L, k, ex, ey, g, hb, q2⟩ => ?_
  subst ex ey
  obtain rfl : u = Value.ref a := rx
  obtain rfl : iv = Value.ref b := ry
  exact n_notIn hu I2 g hb fun s3 I3 => ⟨.bl (!(getN L k).isSome), H2, I3, rfl, q2⟩
theorem ps_nput (hx : XI X P w K) (hu : X.A.units + 64 < cLine) (ho : PE X o td) (hi : PE X i ty) (hv : PE X value tv) (hs : swapsWith value (some (.Subscript o i pos')) pos.line X.env = pure false) :
    PS X (.Assign [.Subscript o i pos'] value pos) (sNPut P w K td ty tv) := by
  obtain ⟨rfl, rfl, rfl⟩ := hx
  refine ⟨fun pins s σ H D I h => ?_⟩
  refine wpAny_Assign_Subscript (thn (hv.run pins s σ H _ I h) fun r s1 ⟨v, H1, I1, rv, q1⟩ => thn (ho.run pins s1 σ H1 _ I1 q1) fun u s2 ⟨x, H2, I2, rx, q2⟩ => thn (hi.run pins s2 σ H2 _ I2 q2) fun iv s3 ⟨y, H3, I3, ry, a, b, L, k, ex, ey, g, hk, hb, hz, q3⟩ => ?_) hs
  subst ex ey
  obtain rfl : u = Value.ref a := rx
  obtain rfl : iv = Value.ref b := ry
  exact n_setItem hu I3 g hk hb hz rv fun s4 I4 => ⟨σ, _, I4, q3⟩
theorem pe_nget2 (hx : XI X P w K) (hu : X.A.units + 64 < cLine) (ho : PE X o td) (he : PE X e ty) (hf : PE X f tx) (m : M2 X o "get" apos e f cpos) : PE X (.Call (.Attribute o "get" apos) [e, f] [] cpos) (tNGet2 P w K td ty tx) := by
  obtain ⟨rfl, rfl, rfl⟩ := hx
  refine ⟨fun pins s σ H Q I h => ?_⟩
  refine wpAny_Call_method m.base m.few m.line PySem.F.plainAttrs_dict PySem.F.slot_dict_get PySem.F.type_dict_get (thn (ho.run pins s σ H _ I h) fun u s1 ⟨x, H1, I1, rx, a, L0, ex, d, q1⟩ => ?_)
  subst ex
  obtain rfl : u = Value.ref a := rx
  obtain ⟨t1, t2⟩ := n_type I1 d
  refine ⟨t1, t2, ?_⟩
  rw [m.trees]
  refine Calls.callWith_builtin rfl (Calls.evalArgs_plain (Calls.spliced_cons (thn (he.run pins s1 σ H1 _ I1 q1) fun iv s2 ⟨y, H2, I2, ry, q2⟩ =>
    Calls.spliced_cons (thn (hf.run pins s2 σ H2 _ I2 q2) fun fv s3 ⟨z, H3, I3, rz, b, L, k, ey, g, hb, q3⟩ => Calls.spliced_nil ?_))))
  subst ey
  obtain rfl : iv = Value.ref b := ry
  exact n_get2 hu I3 g hb rz fun w' s4 I4 rw' => ⟨_, H3, I4, rw', q3⟩
theorem pe_npop (hx : XI X P w K) (hu : X.A.units + 64 < cLine) (ho : PE X o td) (he : PE X e ty) (m : M1 X o "pop" apos e cpos) : PE X (.Call (.Attribute o "pop" apos) [e] [] cpos) (tNPop P w K td ty) := by
  obtain ⟨rfl, rfl, rfl⟩ := hx
  refine ⟨fun pins s σ H Q I h => ?_⟩
  refine wpAny_Call_method m.base m.few m.line PySem.F.plainAttrs_dict PySem.F.slot_dict_pop PySem.F.type_dict_pop (thn (ho.run pins s σ H _ I h) fun u s1 ⟨x, H1, I1, rx, a, L0, ex, d, q1⟩ => ?_)
  subst ex
  obtain rfl : u = Value.ref a := rx
  obtain ⟨t1, t2⟩ := n_type I1 d
  refine ⟨t1, t2, ?_⟩
  rw [m.trees]
  refine Calls.callWith_builtin rfl (Calls.evalArgs_plain (Calls.spliced_cons (thn (he.run pins s1 σ H1 _ I1 q1) fun iv s2 ⟨y, H2, I2, ry, b, L, k, v, ey, g, hk, hb, hv, q2⟩ => Calls.spliced_nil ?_)))
  subst ey
  obtain rfl : iv = Value.ref b := ry
  exact n_pop hu I2 g hk hb hv fun w' s3 I3 rw' => ⟨v, _, I3, rw', q2⟩
theorem pe_nclear (hx : XI X P w K) (ho : PE X o td) (hbase : attributeBase o "clear" X.env (eval o X.env) = eval o X.env := by rfl) (hline : (apos.endLine == cpos.line) = true := by rfl) :
    PE X (.Call (.Attribute o "clear" apos) [] [] cpos) (tNClear P w td) := by
  obtain ⟨rfl, rfl, rfl⟩ := hx
  refine ⟨fun pins s σ H Q I h => ?_⟩
  refine wpAny_Call_method (T := "dict") (id := "dict.clear") hbase rfl hline PySem.F.plainAttrs_dict PySem.F.slot_dict_clear PySem.F.type_dict_clear (thn (ho.run pins s σ H _ I h) fun u s1 ⟨x, H1, I1, rx, a, L, ex, d, q1⟩ => ?_)
  subst ex
  obtain rfl : u = Value.ref a := rx
  obtain ⟨t1, t2⟩ := n_type I1 (.inl d)
  refine ⟨t1, t2, ?_⟩
  show wpAny _ _ (callWith cpos (.builtin "dict.clear") [.ref a] [] []) _ X.xe s1
  exact Calls.callWith_builtin rfl (PySem.evalArgs_none (n_clear I1 d fun s2 I2 => ⟨V.non, _, I2, rfl, q1⟩))
theorem pe_nnew (hx : XI X P w K) : PE X (.Dict [] [] pos) (tNNew P w) := by
  obtain ⟨rfl, rfl, rfl⟩ := hx
  exact ⟨fun pins s σ H Q I h =>
  wpAny_Dict_empty ⟨.ref s.heap.objs.size, _, I.laid (a := s.heap.objs.size) (o := DN X.prog X.w s.heap.objs.size []) (t' := s.toks) (fun _ _ q => Heap.get?_push_of_some _ q) (Nat.le_refl _) (dn_empty s.heap I.big), rfl, h _ (I.hok.fresh (Nat.le_refl _))⟩⟩
end
section
variable {X : Cx}
/-- len(d) -/
def rLenN (P : Program) (w : World) : List V → Hp → VK → Prop := fun vs H Q => ∃ (a : Addr) (L : NL), vs = [V.ref a] ∧ Rd H a (DN P w a L) ∧ Q (.int L.length) H
theorem call_lenN (hx : XI X P w K) : CallR X (.builtin "len") (rLenN P w) := by
  obtain ⟨rfl, rfl, rfl⟩ := hx
  intro pins s σ H vs us Q I r h
  obtain ⟨a, L, rfl, ha, q⟩ := h
  rw [Vals.ref1 r]
  obtain ⟨z, hd, es, ep, raw, hs, _⟩ := n_raw I ha
  have hz : L.length ≤ 16777216 := by rw [← sizeLine_eq]; exact z
  refine call_len_slot (n := (L.length : Int)) raw.typeIs PySem.F.slot_dict_len (fun Q' hq => call_len_raw hd raw (by rw [hs]; exact hq)) (by omega) (by omega) ⟨.int L.length, H, I.tok _, ⟨_, rfl⟩, q⟩
/-- list(d): a list of the keys' own tuples; list(d.values()) -/
theorem cr_listN (hx : XI X P w K) (hc : X.calm = true) : CallR X (.type "list") (fun vs H Q => ∃ (a : Addr) (L : NL), vs = [V.ref a] ∧ Rd H a (DN P w a L) ∧ ∀ p, H p = none → Q (.ref p) (upd H p (.lst (L.map fun x => V.ref x.2.1)))) := by
  obtain ⟨rfl, rfl, rfl⟩ := hx
  intro pins s σ H vs us Q I r h
  obtain ⟨a, L, rfl, ha, q⟩ := h
  rw [Vals.ref1 r]
  obtain ⟨z, hd, es, ep, raw, hs, hi⟩ := n_raw I ha
  refine PySem.W.kdl_call (KdlSrc.rawDict hd) (I.ok.hd hc) raw (by rw [hs]; exact z) fun h' tk acc c hk hD hacc => ?_
  have e : acc.toList = L.map fun x => Value.ref x.2.1 := by
    refine List.ext_getElem? fun j => ?_
    rw [List.getElem?_map, Array.getElem?_toList]
    cases hL : L[j]? with
    | none =>
      have : L.length ≤ j := List.getElem?_eq_none_iff.mp hL
      exact Array.getElem?_eq_none (by rw [hacc.1, hs]; exact this)
    | some x =>
      obtain ⟨en, h1, h2, _⟩ := hi j x hL
      have hj : j < acc.size := by
        have : j < L.length := (List.getElem?_eq_some_iff.mp hL).1
        rw [hacc.1, hs]; exact this
      obtain ⟨hlt, h3⟩ := hacc.2 j _ (Array.getElem?_eq_getElem hj)
      rw [Array.getElem?_eq_getElem hj, h3]
      rw [Array.getElem?_eq_getElem hlt] at h1
      rw [Option.some.inj h1, h2]
      rfl
  refine ⟨.ref s.heap.objs.size, upd H s.heap.objs.size (.lst (L.map fun x => V.ref x.2.1)), I.laid (t' := tk) hk (Nat.le_refl _) ⟨by rw [List.length_map]; exact z, acc.toList, c, ?_, by simpa using hD⟩, rfl, q _ (I.hok.fresh (Nat.le_refl _))⟩
  rw [e]
  exact vals_maps (fun x : NestedKey × Addr × V => V.ref x.2.1) (fun x => Value.ref x.2.1) L fun _ _ => rfl
end
/-! ### walks of a locked dict -/
def Itn (P : Program) (w : World) (d : Addr) (o : Obj) (L : NL) : It :=
  ⟨fun i H => H d = some (.frz o (DN P w d L)) ∧ i < L.length, fun i H x H' => H' = H ∧ ∃ e, L[i]? = some e ∧ x = .ref e.2.1, fun i H => H d = some (.frz o (DN P w d L)) ∧ L.length ≤ i⟩
def Itni (P : Program) (w : World) (d : Addr) (o : Obj) (L : NL) : It :=
  ⟨fun i H => H d = some (.frz o (DN P w d L)) ∧ i < L.length, fun i H x H' => ∃ T e, L[i]? = some e ∧ x = .ref T ∧ H T = none ∧ H' = upd H T (.tup [.ref e.2.1, e.2.2]), fun i H => H d = some (.frz o (DN P w d L)) ∧ L.length ≤ i⟩
theorem Inv.frzN {X : Cx} {pins : List (Addr × Obj)} {σ : L2.St} {H : Hp} {s : Shared} {d : Addr} {o : Obj} {L : NL} (I : Inv X pins σ H s) (h : H d = some (.frz o (DN X.prog X.w d L))) :
    (d == sysModules) = false ∧ s.heap.get? d = some o ∧ o.ExactDict ∧ ∃ (es : Array DictEntry) (ep : Nat), o.data = .dict es ep ∧ es.size = L.length ∧
      ∀ (i : Nat) (x : NestedKey × Addr × V), L[i]? = some x → ∃ (en : DictEntry), es[i]? = some en ∧ en.key = .ref x.2.1 ∧ RelV x.2.2 en.val := by
  obtain ⟨hd, _⟩ := I.hok d _ h
  obtain ⟨z, hs, es, ep, ⟨o', h1, h2, h3⟩, h4, h5⟩ := n_raw I (.inr ⟨o, h⟩)
  rw [hd] at h1
  cases h1
  exact ⟨hs, hd, h2, es, ep, h3, h4, h5⟩
section
variable {tg : Expr} {d : Addr} {o : Obj} {es : Array DictEntry} {ep : Nat} {L : NL}
theorem turn_keysN (it : Addr) (hod : o.data = .dict es ep) : Turn P w K tg (Itn P w d o L) [it] it (fun i h => h.IsKeyIter it d i L.length ep) where
  mem := by simp
  obj := fun i h st b hb => by
    have e : b = it := by simpa using hb
    subst e
    obtain ⟨oi, e, c, dd⟩ := st
    exact ⟨oi, e, fun v z => by rw [dd] at z; cases z⟩
  keep := fun i h h' st k => st.at fun oi e => k it (by simp) oi e
  item := by
    intro X hP hw hK hc i pins s σ H E I hf st hg
    subst hP hw hK
    obtain ⟨hd, hi⟩ := hg
    obtain ⟨f0, f1, f2, f3, f4, f5⟩ := hf it (by simp)
    obtain ⟨hs, hgd, hx, es', ep', hdt, hsz, ent⟩ := Gx.Inv.frzN I hd
    obtain ⟨rfl, rfl⟩ := dict_ep hod hdt
    obtain ⟨x, hkv⟩ : ∃ p, L[i]? = some p := ⟨L[i], List.getElem?_eq_getElem hi⟩
    obtain ⟨en, hen, hkey, _⟩ := ent i x hkv
    refine next_key_item st hgd hdt hsz hen fun h' st' sb => ?_
    have I1 : Inv X pins σ H { s with heap := h' } := I.turned (t' := s.toks) (fun b ob hb e => (sb.2 b hb).trans e) f0 f1 f3 f4 f5
    obtain ⟨oi, e, c, dd⟩ := id st'
    exact ⟨en.key, rfl, go_of (s := { s with heap := h' }) e c dd (by decide) ⟨.ref x.2.1, H, I1, hkey, ⟨rfl, x, hkv, rfl⟩, st', fun b hb => (hf b hb).1⟩⟩
  done := by
    intro X hP hw hK hc i pins s σ H E I hf st hg
    subst hP hw hK
    obtain ⟨hd, hi⟩ := hg
    obtain ⟨f0, f1, f2, f3, f4, f5⟩ := hf it (by simp)
    obtain ⟨hs, hgd, hx, es', ep', hdt, hsz, ent⟩ := Gx.Inv.frzN I hd
    obtain ⟨rfl, rfl⟩ := dict_ep hod hdt
    exact next_key_end (I.ok.hd hc) st hgd hdt hsz hi fun h' eb => ⟨rfl, I.turned (t' := s.toks) (fun b ob hb e => eb b ob hb e) f0 f1 f3 f4 f5⟩
  self := fun A i s Q E st h => by
    refine wpAny_pyIter_slot st.typeIs F.slot_dict_keyiterator_iter (wpAny_call_entry F.slot_dict_keyiterator_iter st.typeIs F.entry_dict_keyiterator_iter ?_ (F.args_dict_keyiterator_iter_1 _))
    show wpAny _ _ (ret (.ref it)) _ _ s
    exact wpAny_pure ⟨_, rfl, "dict_keyiterator", _, st.typeIs, F.slot_dict_keyiterator_next.lookup, h⟩
theorem turn_itemsN {elts : List Expr} {kk : Nat} {tpos : Pos} (it : Addr) (hod : o.data = .dict es ep) :
    Turn P w K (.Tuple elts kk tpos) (Itni P w d o L) [it] it (fun i h => ∃ ok ov, IsItemIter h it d i L.length ep ok ov) where
  mem := by simp
  obj := fun i h st b hb => by
    have e : b = it := by simpa using hb
    subst e
    obtain ⟨ok, ov, e⟩ := st
    exact ⟨_, e, fun v z => nomatch z⟩
  keep := fun i h h' st k => let ⟨ok, ov, e⟩ := st; ⟨ok, ov, k it (by simp) _ e⟩
  item := by
    intro X hP hw hK hc i pins s σ H E I hf st hg
    subst hP hw hK
    obtain ⟨hd, hi⟩ := hg
    obtain ⟨hs, hgd, hx, es', ep', hdt, hsz, ent⟩ := Gx.Inv.frzN I hd
    obtain ⟨rfl, rfl⟩ := dict_ep hod hdt
    obtain ⟨x, hkv⟩ : ∃ p, L[i]? = some p := ⟨L[i], List.getElem?_eq_getElem hi⟩
    obtain ⟨en, hen, hkey, hval⟩ := ent i x hkv
    obtain ⟨ok, ov, he⟩ := st
    rw [← hsz] at he
    have hlt : it < s.heap.objs.size := Heap.lt_size he
    have hi' : i < es'.size := by rw [hsz]; exact hi
    have een : es'[i] = en := by
      rw [Array.getElem?_eq_getElem hi'] at hen
      exact Option.some.inj hen
    refine DT.nextI he ⟨o, hgd, hx, hdt⟩ hi' fun h' ho hT hz hk => ?_
    rw [een] at ho hT
    refine ⟨_, rfl, wpAny_letOwnedTupleGo_items (s := { s with heap := h' }) ho fun h'' he' sb => ?_⟩
    have hT2 : h''.get? s.heap.objs.size = some { cls := .type "tuple", data := .seq #[en.key, en.val] } := (sb.2 _ (Nat.ne_of_gt hlt)).trans hT
    have new : ObjOk X.prog X.w (upd H s.heap.objs.size (.tup [.ref x.2.1, x.2.2])) h'' s.heap.objs.size (.tup [.ref x.2.1, x.2.2]) :=
      ⟨by show 2 ≤ sizeLine; decide, [en.key, en.val], .cons hkey (.cons hval .nil), ⟨_, hT2, rfl, _, rfl⟩⟩
    have I1 : Inv X pins σ (upd H s.heap.objs.size (.tup [.ref x.2.1, x.2.2])) { s with heap := h'' } :=
      I.turnedNew (t' := s.toks) (ch := [it]) (fun b ob hb e => (sb.2 b (by simpa using hb)).trans (hk b ob (by simpa using hb) e)) hf (Nat.le_refl _) new
    refine ⟨.ref s.heap.objs.size, _, I1, rfl, ⟨_, x, hkv, rfl, I.hok.fresh (Nat.le_refl _), rfl⟩, ⟨en.key, en.val, ?_⟩, fun b hb => ?_⟩
    · rw [← hsz]; exact he'
    · have e : b = it := by simpa using hb
      rw [e, upd_ne (Nat.ne_of_lt hlt)]
      exact (hf it (by simp)).1
  done := by
    intro X hP hw hK hc i pins s σ H E I hf st hg
    subst hP hw hK
    obtain ⟨hd, hi⟩ := hg
    obtain ⟨f0, f1, f2, f3, f4, f5⟩ := hf it (by simp)
    obtain ⟨hs, hgd, hx, es', ep', hdt, hsz, ent⟩ := Gx.Inv.frzN I hd
    obtain ⟨rfl, rfl⟩ := dict_ep hod hdt
    obtain ⟨ok, ov, he⟩ := st
    rw [← hsz] at he
    exact DT.endI (I.ok.hd hc) he ⟨o, hgd, hx, hdt⟩ (by rw [hsz]; exact hi) fun h' eb => ⟨rfl, I.turned (t' := s.toks) (fun b ob hb e => eb b ob hb e) f0 f1 f3 f4 f5⟩
  self := fun A i s Q E st h => let ⟨_, _, e⟩ := st; PySem.W.kcp_self e h
end
/-- the dict is locked -/
def iKeysN (P : Program) (w : World) (td : TE) : TI := fun σ H R => td σ H fun x H1 => ∃ d o L, x = .ref d ∧ H1 d = some (.frz o (DN P w d L)) ∧ R (Itn P w d o L) H1
def iItemsN (P : Program) (w : World) (td : TE) : TI := fun σ H R => td σ H fun x H1 => ∃ d o L, x = .ref d ∧ H1 d = some (.frz o (DN P w d L)) ∧ R (Itni P w d o L) H1
section
variable {X : Cx} {tg e : Expr} {td : TE} {apos cpos : Pos}
theorem pi_keysN (hx : XI X P w K) (he : PE X e td) : PI X tg e (iKeysN P w td) := by
  obtain ⟨rfl, rfl, rfl⟩ := hx
  refine ⟨fun pins s σ H R I h => ?_⟩
  refine thn (he.run pins s σ H _ I h) fun u s1 ⟨x, H1, I1, rx, d, o, L, ex, hd, q⟩ => ?_
  subst ex
  obtain rfl : u = Value.ref d := rx
  obtain ⟨hs, hgd, hx, es, ep, hdt, hsz, ent⟩ := Gx.Inv.frzN I1 hd
  refine iter_keys hs hgd hx hdt (pi_one (tk := s1.toks) I1 _ (turn_keysN _ hdt) ⟨_, Heap.get?_push_size _ rfl, rfl, ?_⟩ q)
  rw [hsz] <;> rfl
theorem pi_itemsN {elts : List Expr} {kk : Nat} {tpos : Pos} (hx : XI X P w K) (he : PE X e td) (hbase : attributeBase e "items" X.env (eval e X.env) = eval e X.env := by rfl) (hline : (apos.endLine == cpos.line) = true := by rfl) :
    PI X (.Tuple elts kk tpos) (.Call (.Attribute e "items" apos) [] [] cpos) (iItemsN P w td) := by
  obtain ⟨rfl, rfl, rfl⟩ := hx
  refine ⟨fun pins s σ H R I h => ?_⟩
  refine wpAny_Call_method (T := "dict") (id := "dict.items") hbase rfl hline F.plainAttrs_dict F.slot_dict_items F.type_dict_items (thn (he.run pins s σ H _ I h) fun u s1 ⟨x, H1, I1, rx, d, o, L, ex, hd, q⟩ => ?_)
  subst ex
  obtain rfl : u = Value.ref d := rx
  obtain ⟨hs, hgd, hx, es, ep, hdt, hsz, ent⟩ := Gx.Inv.frzN I1 hd
  obtain ⟨t1, t2⟩ := n_type I1 (.inr ⟨o, hd⟩)
  refine ⟨t1, t2, ?_⟩
  have I2 : Inv X pins σ H1 { s1 with heap := s1.heap.push { cls := .type "dict_items", data := .fields #[.ref d] } } := I1.kept (t' := s1.toks) fun b ob q => Heap.get?_push_of_some _ q
  have fin : wpAny (model X.prog X.w) X.A (pyIter (.ref s1.heap.objs.size)) (PIE X pins σ (.Tuple elts kk tpos) R) X.xe { s1 with heap := s1.heap.push { cls := .type "dict_items", data := .fields #[.ref d] } } := by
    refine DT.iterI (d := d) ⟨_, Heap.get?_push_size _ rfl, rfl, rfl⟩ (DT.Raw.push ⟨o, hgd, hx, hdt⟩ _) (pi_one (tk := s1.toks) I2 _ (turn_itemsN _ hdt) ⟨.none, .none, ?_⟩ q)
    rw [← hsz]
    exact Heap.get?_push_size _ rfl
  show wpAny _ _ (callWith cpos (.builtin "dict.items") [.ref d] [] []) _ X.xe s1
  exact method_meetsIn F.slot_dict_items F.entry_dict_items rfl (PySem.evalArgs_none ⟨rfl, t1, F.args_dict_items_1 _, _, DT.meetsItems (es := es) (ep := ep) hs, ⟨o, hgd, hx, hdt⟩, fin⟩)
end
theorem walk_keysN {d : Addr} {o : Obj} {L : NL} : Walk (Itn P w d o L) L.length (fun H => H d = some (.frz o (DN P w d L))) (fun i H x H' => H' = H ∧ ∃ e, L[i]? = some e ∧ x = .ref e.2.1) :=
  ⟨fun _ _ hi q => ⟨q, hi⟩, fun _ q => ⟨q, Nat.le_refl _⟩, fun _ _ _ _ _ _ y => y⟩
theorem walk_itemsN {d : Addr} {o : Obj} {L : NL} : Walk (Itni P w d o L) L.length (fun H => H d = some (.frz o (DN P w d L))) (YPair (fun i => L[i]?.map fun e => V.ref e.2.1) (fun i => L[i]?.map fun e => e.2.2)) := by
  refine ⟨fun _ _ hi q => ⟨q, hi⟩, fun _ q => ⟨q, Nat.le_refl _⟩, fun i H x H' _ _ y => ?_⟩
  obtain ⟨T, e, h1, h2, h3, h4⟩ := y
  exact ⟨T, .ref e.2.1, e.2.2, h2, h3, h4, by simp [h1], by simp [h1]⟩
end
end Gx

set_option maxRecDepth 100000
set_option maxHeartbeats 4000000
namespace Gx
open PySem PySem.Spec PyProof.Rows L2
/-! ### dict comprehensions, whatever the new dict's keys: new, its empty form; put, the reading of one store -/
abbrev PutG := Addr → V → V → Hp → (Hp → Prop) → Prop
def tDcG (new : Addr → HO) (put : PutG) (wi : TI) (g : TG) (tt : TT) (tk tv : TE) (vs : List Nat) : TE := fun σ H Q => wi σ H fun J H1 => ∀ D, H1 D = none → ∃ W : Nat → Nat → Hp → Prop, (∃ m, W 0 m (upd H1 D (new D))) ∧ ∀ i m H, W i m H →
  (J.stop i H ∧ Q (.ref D) H) ∨ (J.go i H ∧ ∃ Nx : Hp → Prop, (∀ H', Nx H' → ∃ m', m' < m ∧ W (i + 1) m' H') ∧ ∀ x H', J.yld i H x H' → g x (wipe σ vs) H' fun σ2 H2 => wipe σ2 vs = wipe σ vs ∧ tt σ2 H2 fun b H3 =>
    if b = true then tk σ2 H3 fun y H4 => tv σ2 H4 fun z H5 => put D y z H5 Nx else Nx H3)
/-- a store that the model's dictSet does -/
def PutOk (X : Cx) (put : PutG) : Prop := ∀ (A : Around) (hA : A = X.A) (pins : List (Addr × Obj)) (σ : L2.St) (H : Hp) (s : Shared) (E : Value → Shared → Prop) (D : Addr) (y z : V) (u r : Value) (N : Hp → Prop), Inv X pins σ H s → RelV y u → RelV z r → put D y z H N →
  wpAny (model X.prog X.w) A (dictSet D u r) (fun _ s' => ∃ H', Inv X pins σ H' s' ∧ N H') E s
/-- the new dict's object, just laid -/
def NewOk (P : Program) (w : World) (new : Addr → HO) : Prop := ∀ (H : Hp) (h : Heap), sysModules < h.objs.size → ObjOk P w H (h.push { cls := .type "dict", data := .dict #[] }) h.objs.size (new h.objs.size)
section
variable {X : Cx} {new : Addr → HO} {put : PutG}
theorem dcG_core {pins : List (Addr × Obj)} {s : Shared} {σ : L2.St} {H : Hp} {Q : VK} {kx vx tg iter : Expr} {ifs : List Expr} {scope : Scope} {own : List (Str × Nat)} {pos pos' : Pos} {wi : TI} {g : TG} {tt : TT} {tk tv : TE} {use : Option (Value → Sem Unit)} {Qf : Value → Shared → Prop}
    (hnew : NewOk X.prog X.w new) (hput : ∀ (s : Shared) (H : Hp) (C : Addr) (cl : List (Str × Addr)) (fp : List Addr), PutOk (X.blk s H scope (compEnvC scope cl C X.env) fp) put)
    (hc : X.calm = true) (hN : X.N.Nodup) (I : Inv X pins σ H s) (hi : PI X tg iter wi) (ok : BlkOk X.N X.env.scope scope own)
    (hg : ∀ (s : Shared) (H : Hp) (C : Addr) (cl : List (Str × Addr)) (fp : List Addr), PG (X.blk s H scope (compEnvC scope cl C X.env) fp) tg g) (ht : ∀ (s : Shared) (H : Hp) (C : Addr) (cl : List (Str × Addr)) (fp : List Addr), PTs (X.blk s H scope (compEnvC scope cl C X.env) fp) ifs tt)
    (hk : ∀ (s : Shared) (H : Hp) (C : Addr) (cl : List (Str × Addr)) (fp : List Addr), PE (X.blk s H scope (compEnvC scope cl C X.env) fp) kx tk)
    (he : ∀ (s : Shared) (H : Hp) (C : Addr) (cl : List (Str × Addr)) (fp : List Addr), PE (X.blk s H scope (compEnvC scope cl C X.env) fp) vx tv) (hs : ∀ x, foldedSetIterable iter X.env x = pure x)
    (h : tDcG new put wi g tt tk tv (own.map (·.2)) σ H Q)
    (hRR : ∀ D C s' m H', Inv X pins σ H' s' → Q (.ref D) H' → s'.heap.Ns C m → FpOk X pins H' C → compPost (model X.prog X.w) X.A X.xe use Qf (.ref D) C (.ok .next) s') :
    wpAny (model X.prog X.w) X.A (comprehension (.DictComp kx vx [⟨tg, iter, ifs, 0⟩] scope pos) scope X.env pos' newDict false (eval iter X.env) use) Qf X.xe s := by
  have hfree : ∀ y ∈ scope.names, y.2 = .free → ∃ c, X.env.cells.lookup y.1 = some c := fun y hy e => by
    rcases ok.free y hy e with k | k
    · exact I.ok.has _ (.inl k)
    · exact I.ok.has _ (.inr k)
  refine wpAny_comprehension_free (use := use) rfl hs (closure_ok hfree) ok.kind (fun y hy e => by rw [ok.uniq y hy, e]) (thn (hi.run pins s σ H _ I h) fun xv s1 hx => thn hx fun itv s2 h2 => ?_)
  obtain ⟨it, fp, tn, J, H2, rfl, I2, T, st2, f2, q⟩ := h2
  refine wpAny_newObj_type (newEnv_comp ?_)
  generalize hD : s2.heap.objs.size = D
  have hDn : H2 D = none := I2.hok.fresh (Nat.le_of_eq hD)
  obtain ⟨W, ⟨m0, w0⟩, turn⟩ := q D hDn
  generalize hs3 : ({ s2 with heap := s2.heap.push { cls := .type "dict", data := .dict #[] } } : Shared) = s3
  have h3 : s3.heap = s2.heap.push { cls := .type "dict", data := .dict #[] } := by rw [← hs3]
  generalize hH3 : upd H2 D (new D) = H3 at w0
  have I3 : Inv X pins σ H3 s3 := by
    rw [← hs3, ← hH3]
    refine I2.laid (t' := s2.toks) (fun b o e => Heap.get?_push_of_some _ e) (Nat.le_of_eq hD) ?_
    rw [← hD]
    exact hnew _ s2.heap I2.big
  have f3 : ∀ b ∈ fp, FpOk X pins H3 b ∧ b < s3.heap.objs.size := fun b hb => by
    obtain ⟨o, e, _⟩ := T.obj _ _ st2 b hb
    have hlt := Heap.lt_size e
    refine ⟨⟨?_, (f2 b hb).2⟩, by rw [h3, Heap.size_push]; exact Nat.lt_succ_of_lt hlt⟩
    rw [← hH3, upd_ne (by rw [← hD]; exact Nat.ne_of_lt hlt)]
    exact (f2 b hb).1
  have st3 : tn 0 s3.heap := T.keep _ _ _ st2 fun b _ o e => by rw [h3]; exact Heap.get?_push_of_some _ e
  have I4 := block_start I3 ok hN f3
  show codeAny _ _ (.compStart (.DictComp kx vx [⟨tg, iter, ifs, 0⟩] scope pos) 0 (.ref it) (.ref D) (compEnvC scope (cellsFrom (s3.heap.objs.size + 1) scope.names (cloFrom X.env.cells scope.names [])) s3.heap.objs.size X.env)) (compPost (model X.prog X.w) X.A X.xe use Qf (.ref D) s3.heap.objs.size) { s3 with heap := pushCells (s3.heap.push { cls := .type "dict", data := .dict #[] }) scope.names }
  generalize hcl : cellsFrom (s3.heap.objs.size + 1) scope.names (cloFrom X.env.cells scope.names []) = cl at I4 ⊢
  have pg := hg s3 H3 s3.heap.objs.size cl fp
  have pt := ht s3 H3 s3.heap.objs.size cl fp
  have pk := hk s3 H3 s3.heap.objs.size cl fp
  have pe := he s3 H3 s3.heap.objs.size cl fp
  have pp := hput s3 H3 s3.heap.objs.size cl fp
  generalize hce : compEnvC scope cl s3.heap.objs.size X.env = ce at I4 pg pt pk pe pp ⊢
  have cL : ce.locals = s3.heap.objs.size := by subst hce; rfl
  generalize hs4 : ({ s3 with heap := pushCells (s3.heap.push { cls := .type "dict", data := .dict #[] }) scope.names } : Shared) = s4 at I4 ⊢
  have st4 : tn 0 s4.heap := T.keep _ _ _ st3 fun b _ o e => by rw [← hs4]; exact pushCells_keeps _ _ _ _ (Heap.get?_push_of_some _ e)
  generalize hB : X.blk s3 H3 scope ce fp = B at I4 pg pt pk pe pp
  have calmB : B.calm = true := by rw [← hB]; exact hc
  have stat : ∀ {σ' : L2.St} {H' : Hp} {s' : Shared}, Inv B [] σ' H' s' → (∀ b ∈ fp, H' b = none) → ∀ b ∈ fp, FpOk B [] H' b := fun {σ' H' s'} I' hn b hb => by
    subst hB
    exact ⟨hn b hb, (I'.ok.exf b hb).1, I'.ok.exfs b hb, .inl hb, fun x c e => (I'.ok.exf b hb).2 x c e, fun p hp => absurd (show p ∈ ([] : List (Addr × Obj)) ++ [] from hp) (by simp)⟩
  have loop : codeAny (model X.prog X.w) X.A (.compLoop (.DictComp kx vx [⟨tg, iter, ifs, 0⟩] scope pos) 0 (.ref it) (.ref D) ce) (compPost (model X.prog X.w) X.A X.xe use Qf (.ref D) s3.heap.objs.size) s4 := by
    refine compLoop_anyD (fun n s' => ∃ i H', Inv B [] (wipe σ (own.map (·.2))) H' s' ∧ tn i s'.heap ∧ (∀ b ∈ fp, H' b = none) ∧ W i n H') ?_ m0 ⟨0, H3, I4, st4, fun b hb => (f3 b hb).1.1, w0⟩
    rintro n s5 ⟨i, H5, I5, st5, n5, w5⟩
    rcases turn i n H5 w5 with ⟨stop, qq⟩ | ⟨go, Nx, hNx, step⟩
    · subst hB
      have td := T.done (X.blk s3 H3 scope ce fp) rfl rfl rfl hc i [] s5 _ H5 (fun _ _ => False) I5 (stat I5 n5) st5 stop
      refine thnF td fun r s6 ⟨hr, I6⟩ => ?_
      subst hr
      have I7 : Inv X pins σ H5 s6 := I3.call' (ch := fp) I6.os I6.base I6.hok I6.bare fun b hb => ⟨(f3 b hb).1.2.2.2.1, (f3 b hb).1.2.1, (f3 b hb).1.2.2.2.2.1, (f3 b hb).1.2.2.2.2.2⟩
      have nC : H5 s3.heap.objs.size = none := by
        have z : H5 ce.locals = none := I6.free
        rw [cL] at z
        exact z
      obtain ⟨m, hn, _⟩ := I6.loc
      have hn : s6.heap.Ns ce.locals m := hn
      rw [cL] at hn
      exact hRR D s3.heap.objs.size s6 m H5 I7 qq hn (I3.fpOk (Nat.le_refl _) nC)
    · subst hB
      have ti := T.item (X.blk s3 H3 scope ce fp) rfl rfl rfl hc i [] s5 _ H5 (fun _ _ => False) I5 (stat I5 n5) st5 go
      refine thnF ti fun r s6 ⟨u, hr, h6⟩ => ?_
      subst hr
      refine thnF h6 fun _ s7 ⟨x, H7, I7, r7, y7, st7, n7⟩ => ?_
      have I7' := I7.pinned (stat I7 n7) (T.obj _ _ st7)
      refine thnF (pg.run _ s7 _ H7 x u _ I7' r7 (step x H7 y7)) fun _ s8 ⟨σ8, H8, I8, hw8, q8⟩ => ?_
      refine thnF (pt.run _ s8 σ8 H8 _ I8 q8) fun b s9 ⟨H9, I9, q9⟩ => ?_
      have fin : ∀ {s' : Shared} {H' : Hp}, Inv (X.blk s3 H3 scope ce fp) ([] ++ pinsAt fp s7.heap) σ8 H' s' → Nx H' → ∃ m, m < n ∧ ∃ i H', Inv (X.blk s3 H3 scope ce fp) [] (wipe σ (own.map (·.2))) H' s' ∧ tn i s'.heap ∧ (∀ b ∈ fp, H' b = none) ∧ W i m H' := fun {s' H'} I' nx => by
        obtain ⟨m', hm, w'⟩ := hNx H' nx
        have pin' : ∀ b ∈ fp, ∀ o, s7.heap.get? b = some o → s'.heap.get? b = some o ∧ H' b = none := fun b hb o e =>
          let z := I'.pin (b, o) (List.mem_append_right _ (List.mem_append_right _ (mem_pinsAt hb e)))
          ⟨z.1, z.2.1⟩
        have hl : (wipe σ (own.map (·.2))).length = σ8.length := by rw [← hw8, wipe_length]
        refine ⟨m', hm, i + 1, H', (I'.unpinned (pins := [])).weak hl (fun j v e => ?_), T.keep _ _ _ st7 fun b hb o e => (pin' b hb o e).1, fun b hb => ?_, w'⟩
        · rw [← hw8] at e
          exact (wipe_some e).1
        · obtain ⟨o, e, _⟩ := T.obj _ _ st7 b hb
          exact (pin' b hb o e).2
      cases b with
      | false =>
        simp only [Bool.false_eq_true, if_false] at q9 ⊢
        exact fin I9 q9
      | true =>
        simp only [if_true] at q9 ⊢
        refine thnF (pk.run _ s9 σ8 H9 _ I9 q9) fun z s10 ⟨yk, H10, I10, r10, q10⟩ => ?_
        refine thnF (pe.run _ s10 σ8 H10 _ I10 q10) fun z2 s11 ⟨yv, H11, I11, r11, q11⟩ => ?_
        refine thnF (pp X.A rfl _ σ8 H11 s11 _ D yk yv z z2 Nx I11 r10 r11 q11) fun _ s12 ⟨H12, I12, nx⟩ => fin I12 nx
  exact codeAny_compStart_dict loop (T.self X.A 0 _ _ _ st4 loop)
theorem pe_dcG {kx vx tg iter : Expr} {ifs : List Expr} {scope : Scope} {own : List (Str × Nat)} {pos : Pos} {wi : TI} {g : TG} {tt : TT} {tk tv : TE} (hnew : NewOk X.prog X.w new) (hput : ∀ (s : Shared) (H : Hp) (C : Addr) (cl : List (Str × Addr)) (fp : List Addr), PutOk (X.blk s H scope (compEnvC scope cl C X.env) fp) put)
    (hc : X.calm = true) (hN : X.N.Nodup) (hi : PI X tg iter wi) (ok : BlkOk X.N X.env.scope scope own)
    (hg : ∀ (s : Shared) (H : Hp) (C : Addr) (cl : List (Str × Addr)) (fp : List Addr), PG (X.blk s H scope (compEnvC scope cl C X.env) fp) tg g) (ht : ∀ (s : Shared) (H : Hp) (C : Addr) (cl : List (Str × Addr)) (fp : List Addr), PTs (X.blk s H scope (compEnvC scope cl C X.env) fp) ifs tt)
    (hk : ∀ (s : Shared) (H : Hp) (C : Addr) (cl : List (Str × Addr)) (fp : List Addr), PE (X.blk s H scope (compEnvC scope cl C X.env) fp) kx tk)
    (he : ∀ (s : Shared) (H : Hp) (C : Addr) (cl : List (Str × Addr)) (fp : List Addr), PE (X.blk s H scope (compEnvC scope cl C X.env) fp) vx tv) (hs : ∀ x, foldedSetIterable iter X.env x = pure x := by intro _; rfl) :
    PE X (.DictComp kx vx [⟨tg, iter, ifs, 0⟩] scope pos) (tDcG new put wi g tt tk tv (own.map (·.2))) := by
  refine ⟨fun pins s σ H Q I h => ?_⟩
  rw [arm_eval_DictComp]
  refine dcG_core hnew hput hc hN I hi ok hg ht hk he hs h fun D C s' m H' I' q hn f => ⟨m, hn, fun h'' sb => ?_⟩
  obtain ⟨f0, f1, f2, f3, f4, f5⟩ := f
  exact ⟨.ref D, H', I'.turned (t' := s'.toks) (fun b o hb e => (sb.2 b hb).trans e) f0 f1 f3 f4 f5, rfl, q⟩
end
/-! ### for keys (text, tuple of texts) -/
def putG (P : Program) (w : World) (K : PySem.W.Frag) : PutG := fun D y z H N => ∃ (L : NL) (k : NestedKey) (b : Addr), y = .ref b ∧ KeyA K H b k ∧ H D = some (DN P w D L) ∧ (∀ e ∈ L, KeyA K H e.2.1 e.1) ∧ L.length < sizeLine ∧ N (upd H D (DN P w D (putN L k b z)))
theorem newN {P : Program} {w : World} : NewOk P w fun D => DN P w D [] := fun _ h hb => dn_empty h hb
theorem putN_ok {X : Cx} {P : Program} {w : World} {K : PySem.W.Frag} (hx : XI X P w K) (hu : X.A.units + 64 < cLine) : PutOk X (putG P w K) := by
  obtain ⟨rfl, rfl, rfl⟩ := hx
  intro A hA pins σ H s E D y z u r N I ry rz h
  obtain ⟨L, k, b, rfl, hb, hD, hk, hz, n⟩ := h
  obtain rfl : u = Value.ref b := ry
  subst hA
  exact n_dictSet hu I hD hk hb hz rz fun s' I' => ⟨_, I', n⟩
/-- a dict comprehension by its walk: Pv by the turn and the heap (the new dict at D within) -/
theorem dcG_it {new : Addr → HO} {put : PutG} {J : It} {n : Nat} {G : Hp → Prop} {Y : Nat → Hp → V → Hp → Prop} (w : Walk J n G Y) {g : TG} {tt : TT} {tk tv : TE} {vs : List Nat} {σ : L2.St} {H1 : Hp} {D : Addr} {Qd : Hp → Prop} (Pv : Nat → Hp → Prop) (h0 : Pv 0 (upd H1 D (new D))) (hG : ∀ i H, i ≤ n → Pv i H → G H)
    (hs : ∀ i x H H', i < n → Pv i H → Y i H x H' → g x (wipe σ vs) H' fun σ2 H2 => wipe σ2 vs = wipe σ vs ∧ tt σ2 H2 fun b H3 =>
      if b = true then tk σ2 H3 fun y H4 => tv σ2 H4 fun z H5 => put D y z H5 (Pv (i + 1)) else Pv (i + 1) H3) (hd : ∀ H, Pv n H → Qd H) :
    ∃ W : Nat → Nat → Hp → Prop, (∃ m, W 0 m (upd H1 D (new D))) ∧ ∀ i m H, W i m H →
      (J.stop i H ∧ Qd H) ∨ (J.go i H ∧ ∃ Nx : Hp → Prop, (∀ H', Nx H' → ∃ m', m' < m ∧ W (i + 1) m' H') ∧ ∀ x H', J.yld i H x H' → g x (wipe σ vs) H' fun σ2 H2 => wipe σ2 vs = wipe σ vs ∧ tt σ2 H2 fun b H3 =>
        if b = true then tk σ2 H3 fun y H4 => tv σ2 H4 fun z H5 => put D y z H5 Nx else Nx H3) := by
  refine ⟨fun i m H => m = n - i ∧ i ≤ n ∧ Pv i H, ⟨n, by simp, Nat.zero_le _, h0⟩, ?_⟩
  rintro i m H ⟨rfl, hi, p⟩
  have q := hG i H hi p
  by_cases hlt : i < n
  · exact .inr ⟨w.goes i H hlt q, Pv (i + 1), fun H' p' => ⟨n - (i + 1), by omega, rfl, hlt, p'⟩, fun x H' y => hs i x H H' hlt p (w.yields i H x H' hlt q y)⟩
  · have e : i = n := by omega
    subst e
    exact .inl ⟨w.stops H q, hd H p⟩
end Gx

set_option maxRecDepth 100000
set_option maxHeartbeats 4000000
namespace Kl
open PySem PySem.Spec PyProof.Rows L2 Gx Mx
/-! ### tuples of texts: their order, < and sorted -/
def ltT : List Str → List Str → Bool
  | [], [] => false
  | [], _ :: _ => true
  | _ :: _, [] => false
  | x :: xs, y :: ys => if x = y then ltT xs ys else ltCps x.cps.toList y.cps.toList
theorem alike_texts : ∀ xs ys : List Str, PySem.W.alikeAll (tD xs) (tD ys) = true
  | [], _ => by simp [tD, PySem.W.alikeAll]
  | _ :: _, [] => by simp [tD, PySem.W.alikeAll]
  | x :: xs, y :: ys => by
    have ih := alike_texts xs ys
    unfold tD at ih ⊢
    rw [List.map_cons, List.map_cons, PySem.W.alikeAll, ih]
    simp [PySem.W.alike]
theorem lt_texts : ∀ xs ys : List Str, PySem.W.dataLt (.tuple (tD xs)) (.tuple (tD ys)) = ltT xs ys
  | [], [] => by
    rw [PySem.W.dataLt_tuple]
    exact lex_irrefl _
  | [], y :: ys => by
    rw [PySem.W.dataLt_tuple]
    unfold tD
    rw [List.map_nil, List.map_cons, PySem.W.keyToksAll, PySem.W.keyToksAll, PyProof.Rows.lex_diff (by decide)]
    rfl
  | x :: xs, [] => by
    rw [PySem.W.dataLt_tuple]
    unfold tD
    rw [List.map_nil, List.map_cons, PySem.W.keyToksAll, PySem.W.keyToksAll, PyProof.Rows.lex_diff (by decide)]
    rfl
  | x :: xs, y :: ys => by
    have ih := lt_texts xs ys
    rw [PySem.W.dataLt_tuple] at ih ⊢
    have al : PySem.W.alike (.str x) (.str y) = true := rfl
    unfold ltT
    by_cases e : x = y
    · subst e
      rw [if_pos rfl, ← ih]
      exact PySem.W.dataLt_all_yes al (by simp [PyData.eqv])
    · rw [if_neg e]
      have h := PySem.W.dataLt_all_no (xs := tD xs) (ys := tD ys) al (show PyData.eqv (.str x) (.str y) = false by simp [PyData.eqv, e])
      exact h.trans (by rw [PySem.W.dataLt_str, ltCps_eq])
theorem ltT_irrefl : ∀ xs : List Str, ltT xs xs = false
  | [] => rfl
  | x :: xs => by
    unfold ltT
    rw [if_pos rfl, ltT_irrefl xs]
theorem cps_total {x y : Str} (n : x ≠ y) (h : ltCps x.cps.toList y.cps.toList = false) : ltCps y.cps.toList x.cps.toList = true := by
  cases e : ltCps y.cps.toList x.cps.toList with
  | true => rfl
  | false => exact absurd (leS_anti ((leS_iff x y).mpr e) ((leS_iff y x).mpr h)) n
theorem cps_trans {x y z : Str} (h1 : ltCps x.cps.toList y.cps.toList = true) (h2 : ltCps y.cps.toList z.cps.toList = true) : ltCps x.cps.toList z.cps.toList = true := by
  rw [ltCps_eq, decide_eq_true_iff] at h1 h2 ⊢
  exact List.lt_trans h1 h2
theorem cps_irrefl (x : Str) : ltCps x.cps.toList x.cps.toList = false := (leS_iff x x).mp (leS_refl x)
theorem ltT_total : ∀ xs ys : List Str, ltT xs ys = true ∨ xs = ys ∨ ltT ys xs = true
  | [], [] => .inr (.inl rfl)
  | [], _ :: _ => .inl rfl
  | _ :: _, [] => .inr (.inr rfl)
  | x :: xs, y :: ys => by
    unfold ltT
    by_cases e : x = y
    · subst e
      rw [if_pos rfl, if_pos rfl]
      rcases ltT_total xs ys with h | h | h
      · exact .inl h
      · exact .inr (.inl (by rw [h]))
      · exact .inr (.inr h)
    · rw [if_neg e, if_neg fun q => e q.symm]
      cases c : ltCps x.cps.toList y.cps.toList with
      | true => exact .inl rfl
      | false => exact .inr (.inr (cps_total e c))
theorem ltT_trans : ∀ xs ys zs : List Str, ltT xs ys = true → ltT ys zs = true → ltT xs zs = true
  | [], [], _, h, _ => nomatch h
  | [], _ :: _, [], _, h => nomatch h
  | [], _ :: _, _ :: _, _, _ => rfl
  | _ :: _, [], _, h, _ => nomatch h
  | _ :: _, _ :: _, [], _, h => nomatch h
  | x :: xs, y :: ys, z :: zs, h1, h2 => by
    unfold ltT at h1 h2 ⊢
    by_cases e : x = y
    · subst e
      rw [if_pos rfl] at h1
      by_cases e2 : x = z
      · subst e2
        rw [if_pos rfl] at h2 ⊢
        exact ltT_trans xs ys zs h1 h2
      · rw [if_neg e2] at h2 ⊢
        exact h2
    · rw [if_neg e] at h1
      by_cases e2 : y = z
      · subst e2
        rw [if_neg e]
        exact h1
      · rw [if_neg e2] at h2
        have h3 := cps_trans h1 h2
        by_cases e3 : x = z
        · subst e3
          rw [cps_irrefl] at h3
          cases h3
        · rw [if_neg e3]
          exact h3
theorem ltT_asym {xs ys : List Str} (h : ltT xs ys = true) : ltT ys xs = false := by
  cases e : ltT ys xs with
  | false => rfl
  | true =>
    have := ltT_trans _ _ _ h e
    rw [ltT_irrefl] at this
    cases this
theorem leT_trans {xs ys zs : List Str} (h1 : ltT ys xs = false) (h2 : ltT zs ys = false) : ltT zs xs = false := by
  cases e : ltT zs xs with
  | false => rfl
  | true =>
    rcases ltT_total ys xs with h | h | h
    · rw [h] at h1; cases h1
    · rw [← h, h2] at e
      cases e
    · rw [ltT_trans _ _ _ e h] at h2
      cases h2
section
variable {X : Cx}
def rLtTT (K : PySem.W.Frag) : R2 := fun x y H Q => ∃ a b xs ys, x = .ref a ∧ y = .ref b ∧ SqT K H a (xs.map V.str) ∧ SqT K H b (ys.map V.str) ∧ Q (.bl (ltT xs ys)) H
theorem op_ltTT (hu : X.A.units + 64 < cLine) : OpR X (compareOp .Lt) (rLtTT X.K) := by
  intro pins s σ H x y v u Q I rx ry h
  obtain ⟨a, b, xs, ys, rfl, rfl, ha, hb, q⟩ := h
  obtain ⟨as, r1⟩ := Dp.reads I (.tuple (tD xs)) _ _ (.tup ha (dp_texts xs)) rx
  obtain ⟨bs, r2⟩ := Dp.reads I (.tuple (tD ys)) _ _ (.tup hb (dp_texts ys)) ry
  have h1 := PySem.W.rcLt_alike (.tuple (tD xs)) (.tuple (tD ys)) X.A s v u as bs r1 r2 (by simp only [PySem.W.alike]; exact alike_texts xs ys) nofun (by
    have := depth_texts xs
    simp only [PyData.depth]
    omega)
  rw [lt_texts] at h1
  exact h1 _ _ _ _ ⟨.bl (ltT xs ys), H, I, rfl, q⟩
def rSortTT (K : PySem.W.Frag) : List V → Hp → VK → Prop := fun vs H Q => ∃ (a : Addr) (L : List (Addr × List Str)), vs = [V.ref a] ∧ SqL K H a (L.map fun p => V.ref p.1) ∧ L.length ≤ 100000 ∧ (∀ p ∈ L, SqT K H p.1 (p.2.map V.str) ∧ p.2 ≠ []) ∧
  ∀ (L' : List (Addr × List Str)) (p : Addr), L'.Perm L → L'.Pairwise (fun a b => ltT b.2 a.2 = false) → H p = none → Q (.ref p) (upd H p (.lst (L'.map fun p => V.ref p.1)))
theorem each_of {K : PySem.W.Frag} : ∀ {L : List (Addr × List Str)} {us : List Value}, Vals (L.map fun p => V.ref p.1) us → PySem.W.EachIs (fun v b => v = Value.ref b.1) us L
  | [], _, .nil => .nil
  | p :: L, _, .cons h t => .cons h (each_of (K := K) t)
theorem vals_of : ∀ {L : List (Addr × List Str)} {us : List Value}, PySem.W.EachIs (fun v b => v = Value.ref b.1) us L → Vals (L.map fun p => V.ref p.1) us
  | [], _, .nil => .nil
  | p :: L, _, .cons h t => .cons h (vals_of t)
theorem cr_sortedTT (hu : X.A.units + 64 < cLine) : CallR X (.builtin "sorted") (rSortTT X.K) := by
  intro pins s σ H vs us Q I r h
  obtain ⟨a, L, rfl, hs, hL, hp, q⟩ := h
  obtain ⟨its, rv, hl, _⟩ := I.list hs
  rw [Vals.ref1 r]
  have big : 100000 ≤ sizeLine := by decide
  have e := each_of (K := X.K) rv
  refine PySem.W.sorted_data (R := fun v b => v = Value.ref b.1) (bs := L) (enc := fun b => .tuple (tD b.2)) hl.isList e ?_ ?_ ?_ (Nat.le_trans hL big) (fun b hb => ?_) fun out h1 h2 => ?_
  · have er : ∀ {vs : List Value} {bs : List (Addr × List Str)}, PySem.W.EachIs (fun v b => v = Value.ref b.1) vs bs → (∀ p ∈ bs, SqT X.K H p.1 (p.2.map V.str)) → PySem.W.EachIs (fun v b => ∃ as, Reads s.heap v (.tuple (tD b.2)) as) vs bs := by
      intro vs bs e
      induction e with
      | nil => exact fun _ => .nil
      | @cons v b vs bs h _ ih =>
        intro hq
        refine .cons ?_ (ih fun p hp => hq p (List.mem_cons_of_mem _ hp))
        exact Dp.reads I (.tuple (tD b.2)) (.ref b.1) v (.tup (hq b List.mem_cons_self) (dp_texts b.2)) h
    exact er e fun p h => (hp p h).1
  · exact PySem.W.AllAlike.of fun b b' => by
      simp only [PySem.W.alike]
      exact alike_texts b.2 b'.2
  · refine .inl fun d hd => ?_
    obtain ⟨b, hb, rfl⟩ := List.mem_map.mp hd
    cases e2 : b.2 with
    | nil => exact absurd e2 (hp b hb).2
    | cons x r => exact ⟨.str x, tD r, by unfold tD; rfl⟩
  · have := depth_texts b.2
    simp only [PyData.depth]
    omega
  · have hperm : (L.mergeSort (PySem.W.dataLe false fun b => .tuple (tD b.2))).Perm L := List.mergeSort_perm _ _
    have ele : ∀ a b : Addr × List Str, PySem.W.dataLe false (fun b : Addr × List Str => PyData.tuple (tD b.2)) a b = !ltT b.2 a.2 := fun a b => by
      rw [PySem.W.dataLe_eq]
      show (!PySem.W.dataLt (.tuple (tD b.2)) (.tuple (tD a.2))) = _
      rw [lt_texts]
    have hsrt := List.pairwise_mergeSort (le := PySem.W.dataLe false fun b : Addr × List Str => PyData.tuple (tD b.2)) (fun a b c h1 h2 => by
      rw [ele, Bool.not_eq_true'] at h1 h2 ⊢
      exact leT_trans h1 h2) (fun a b => by
      rw [ele, ele]
      cases e : ltT b.2 a.2 with
      | false => rfl
      | true => rw [ltT_asym e]; rfl) L
    generalize L.mergeSort (PySem.W.dataLe false fun b => .tuple (tD b.2)) = L' at h2 hperm hsrt
    obtain ⟨ep, he'⟩ := PyProof.Rows.sortedAll_at s.heap its out.toArray
    have hlen : (L'.map fun p => V.ref p.1).length ≤ sizeLine := by rw [List.length_map, hperm.length_eq]; omega
    exact ⟨.ref _, upd H (s.heap.objs.size + 1) (.lst (L'.map fun p => V.ref p.1)), I.laid (t' := s.toks) (fun _ _ => PyProof.Rows.sortedAll_old) (Nat.le_succ _) ⟨hlen, out, ep, vals_of h2, by simpa using he'⟩, rfl, q L' _ hperm (hsrt.imp fun {a b} h => by rw [ele] at h; simpa using h) (I.hok.fresh (Nat.le_succ _))⟩
end
end Kl

set_option maxRecDepth 100000
set_option maxHeartbeats 4000000
namespace Gx
open PySem PySem.W PySem.Calls PyProof.Rows PyProof.V PySem.Spec
/-! ### sorted(d), up to the sort of the keys -/
section
variable {prog : Program} {w : World} {A : Around} {E : Value → Shared → Prop} {s : Shared} {T : String} {r d : Addr} {n : Nat} {P : Nat → Value → Prop} {OK : Heap → Prop}
theorem collectK {R : List Value → Shared → Prop} (K : KdlSrc prog w T r d n P OK) (hh : A.handled = none) (hok : OK s.heap) (hn : n ≤ sizeLine)
    (h : ∀ (h' : Heap) (tk : Nat) (acc : Array Value), (∀ b o, s.heap.get? b = some o → h'.get? b = some o) → s.heap.objs.size < h'.objs.size → ItemsOf P acc n → R acc.toList { s with heap := h', toks := tk }) :
    wpAny (model prog w) A (collect (.ref r)) R E s := by
  obtain ⟨hr, hd⟩ := K.there _ hok
  unfold collect
  refine wpAny_bind (wpAny_runValue (codeAny_builtin entry_proto_collect' ?_))
  rw [Around.under_plainId PySem.F.plain_proto_collect _]
  show wpAny _ A.in1 (newList [] >>= fun l => again (.builtin "list.__iadd__" ⟨[l, .ref r], []⟩)) _ _ s
  refine wpAny_bind (wpAny_newObj_type ?_)
  refine wpAny_pure ⟨plainId_quiet PySem.F.plain_list_iadd _, codeAny_builtin entry_list_iadd' ?_⟩
  rw [Around.under_plainId PySem.F.plain_list_iadd _]
  have hS₁ : (s.heap.push { cls := .type "list", data := .seq ([] : List Value).toArray }).get? s.heap.objs.size = some { cls := .type "list", data := .seq #[] } := Heap.get?_push_size _ rfl
  show wpAny _ A.in1 (Builtin.List.listExtendWith (.ref s.heap.objs.size) (.ref r) (.ref s.heap.objs.size)) _ _ _
  have key := kdl_extend (prog := prog) (w := w) (A := A) (s := { s with heap := s.heap.push { cls := .type "list", data := .seq ([] : List Value).toArray } })
    (R := fun (q : Result) (s' : Shared) => ∃ (h' : Heap) (tk : Nat) (acc' : Array Value) (c' : Nat), q = .ok (.ret (.ref s.heap.objs.size)) ∧ s' = { s with heap := h', toks := tk } ∧
      (∀ b o, s.heap.get? b = some o → h'.get? b = some o) ∧ h'.get? s.heap.objs.size = some { cls := .type "list", dict := none, data := .seq acc' c', slots := #[] } ∧ ItemsOf P acc' n)
    K hh (K.keep _ _ hok fun b _ o e => Heap.get?_push_of_some _ e) s.heap.objs.size (Nat.ne_of_gt hr) (Nat.ne_of_gt hd) (.ref s.heap.objs.size) 0 hS₁
    (fun h' tk acc' c' hk hS' hacc => ⟨h', tk, acc', c', rfl, rfl, fun b o e => hk b o (Nat.ne_of_lt (Heap.lt_size e)) (Heap.get?_push_of_some _ e), hS', hacc⟩) hn
  refine wpAny_mono key (fun fin s' x => ?_) fun e s' x => ?_
  · cases fin with
    | done f =>
      obtain ⟨h', tk, acc', c', e, rfl, hk, hS', hacc⟩ := x
      cases e
      show wpAny _ A (load s.heap.objs.size >>= _) _ _ _
      refine wpAny_bind (wpAny_load hS' ?_)
      refine wpAny_pure ?_
      show R acc'.toList _
      exact h h' tk acc' hk (Heap.lt_size hS') hacc
    | again c₁ =>
      refine ⟨x.1, codeAny_mono x.2 fun q s₂ y => ?_⟩
      obtain ⟨h', tk, acc', c', rfl, rfl, hk, hS', hacc⟩ := y
      show wpAny _ A (load s.heap.objs.size >>= _) _ _ _
      refine wpAny_bind (wpAny_load hS' ?_)
      refine wpAny_pure ?_
      show R acc'.toList _
      exact h h' tk acc' hk (Heap.lt_size hS') hacc
  · obtain ⟨_, _, _, _, e', _⟩ := x
    cases e'
/-- sorted(r), r collected by K, its items data that can be told apart by < -/
theorem sortedK {β : Type} {Q : Value → Shared → Prop} (K : KdlSrc prog w T r d n P OK) (hh : A.handled = none) (hok : OK s.heap) (hn : n ≤ sizeLine) (R : Value → β → Prop) (enc : β → PyData) (bs : List β)
    (hP : ∀ acc : Array Value, ItemsOf P acc n → EachIs R acc.toList bs) (hR : ∀ v b, b ∈ bs → R v b → ∃ as, Reads s.heap v (enc b) as) (hal : AllAlike (bs.map enc)) (hk : Sortable (bs.map enc)) (hu : ∀ b, b ∈ bs → A.units + 2 + (enc b).depth < cLine)
    (h : ∀ (h' : Heap) (tk p : Nat) (out : List Value) (c : Nat), (∀ b o, s.heap.get? b = some o → h'.get? b = some o) → s.heap.objs.size ≤ p → h'.get? p = some (seqObj "list" out.toArray c) → EachIs R out (bs.mergeSort (dataLe false enc)) → Q (.ref p) { s with heap := h', toks := tk }) :
    wpAny (model prog w) A (call (.builtin "sorted") [.ref r]) Q E s := by
  refine call_function_entry kind_sorted plain_sorted entry_sorted (args_sorted1 _) ?_
  unfold Builtin.«sorted»
  refine wpAny_bind (m := checkCount "sorted" 1 1 _) (wpAny_pure ?_)
  refine wpAny_bind (collectK (A := A.in1) K hh hok hn fun h' tk acc hk' hlt hacc => ?_)
  have e := hP acc hacc
  have hlen : acc.toList.length ≤ sizeLine := by rw [Array.length_toList, hacc.1]; exact hn
  refine wpAny_bind (wpAny_newList ?_ hlen)
  generalize acc.toList = vs at e hlen ⊢
  have hoL : (h'.push (seqObj "list" vs.toArray 0)).get? h'.objs.size = some (seqObj "list" vs.toArray 0) := Heap.get?_push_size _ rfl
  have old : ∀ b o, s.heap.get? b = some o → (sortingHeap (h'.push (seqObj "list" vs.toArray 0)) h'.objs.size vs).get? b = some o := fun b o q => by
    have q1 := hk' b o q
    have lt := Heap.lt_size q1
    exact sortingHeap_old (Nat.ne_of_lt lt) (Heap.get?_push_of_some _ q1)
  have er' : EachIs (fun v b => ∃ as, Reads (sortingHeap (h'.push (seqObj "list" vs.toArray 0)) h'.objs.size vs) v (enc b) as) vs bs := by
    refine (each_mem e).mono fun v b x => ?_
    obtain ⟨as, q⟩ := hR v b x.2 x.1
    exact ⟨as, PyProof.Rows.Reads.keeps old q⟩
  refine wpAny_bind (wpAny_holding (wpAny_call_entry slot_list_sort ⟨_, hoL, rfl⟩ entry_list_sort
    (list_sort_vals (κ := dataKind (sortingHeap (h'.push (seqObj "list" vs.toArray 0)) h'.objs.size vs) (bs.map enc)) (s := { s with heap := h'.push (seqObj "list" vs.toArray 0), toks := tk }) hoL
      (SortsAt.data (s := { s with heap := sortingHeap (h'.push (seqObj "list" vs.toArray 0)) h'.objs.size vs, toks := tk }) (each_map (R := fun v d => ∃ as, Reads (sortingHeap (h'.push (seqObj "list" vs.toArray 0)) h'.objs.size vs) v d as) enc er') hal hk (bound_map hu)) hlen ⟨.none, rfl, ?_⟩) (args_list_sort _)))
  have out := sortVals_data false e er' hal
  obtain ⟨c, hc⟩ := sortedHeap_at (vs := vs) (out := (sortVals (dataKind (sortingHeap (h'.push (seqObj "list" vs.toArray 0)) h'.objs.size vs) (bs.map enc)) false vs vs).toArray) hoL
  refine wpAny_pure ⟨_, rfl, h _ tk h'.objs.size _ c (fun b o q => ?_) (Nat.le_of_lt hlt) hc out⟩
  have q1 := hk' b o q
  have lt := Heap.lt_size q1
  exact (sortedHeap_old (Nat.ne_of_lt lt) (by rw [Heap.size_push]; exact Nat.lt_succ_of_lt lt)).trans (Heap.get?_push_of_some _ q1)
end
end Gx

set_option maxRecDepth 100000
set_option maxHeartbeats 4000000
namespace Kl
open PySem PySem.Spec PyProof.Rows L2 Gx Mx
/-! ### keys (text, tuple of texts) -/
abbrev KW := Str × List Str
def keyK (p : KW) : NestedKey := .tup [.text p.1, .tup (p.2.map .text)]
theorem texts_injK : ∀ {a b : List Str}, a.map NestedKey.text = b.map NestedKey.text → a = b
  | [], [], _ => rfl
  | [], _ :: _, e => by simp at e
  | _ :: _, [], e => by simp at e
  | x :: xs, y :: ys, e => by
    rw [List.map_cons, List.map_cons] at e
    injection e with e1 e2
    injection e1 with e1
    rw [e1, texts_injK e2]
theorem keyK_inj {p q : KW} (e : keyK p = keyK q) : p = q := by
  obtain ⟨a, b⟩ := p
  obtain ⟨c, d⟩ := q
  unfold keyK at e
  injection e with e
  injection e with e1 e2
  injection e1 with e1
  injection e2 with e2 _
  injection e2 with e2
  rw [show a = c from e1, show b = d from texts_injK e2]
theorem depth_keyT : ∀ l : List Str, NestedKey.depthAll (l.map .text) = 0
  | [] => by simp [NestedKey.depthAll]
  | x :: xs => by rw [List.map_cons, NestedKey.depthAll, depth_keyT xs]; simp [NestedKey.depth]
theorem depthK (p : KW) : (keyK p).depth = 2 := by
  unfold keyK
  rw [NestedKey.depth, NestedKey.depthAll, NestedKey.depthAll, NestedKey.depthAll, NestedKey.depth, NestedKey.depth, depth_keyT]
  rfl
theorem keyT_all {K : PySem.W.Frag} {H : Hp} : ∀ l : List Str, KeyAll K H (l.map .text) (l.map V.str)
  | [] => .nil
  | x :: xs => .cons (.text x) (keyT_all xs)
theorem keyT_inv {K : PySem.W.Frag} {H : Hp} : ∀ {l : List Str} {vs : List V}, KeyAll K H (l.map .text) vs → vs = l.map V.str
  | [], _, h => by cases h; rfl
  | x :: xs, _, h => by
    rw [List.map_cons] at h
    cases h with
    | cons h1 h2 =>
      cases h1
      rw [keyT_inv h2]
      rfl
theorem keyK_at {K : PySem.W.Frag} {H : Hp} {a : Addr} {p : KW} : KeyA K H a (keyK p) ↔ ∃ g, SqT K H a [.str p.1, .ref g] ∧ SqT K H g (p.2.map V.str) := by
  constructor
  · rintro ⟨h, _⟩
    unfold keyK at h
    cases h with
    | tup h1 h2 =>
      cases h2 with
      | cons q1 q2 =>
        cases q1
        cases q2 with
        | cons q3 q4 =>
          cases q4
          cases q3 with
          | tup q5 q6 =>
            rw [keyT_inv q6] at q5
            exact ⟨_, h1, q5⟩
  · rintro ⟨g, h1, h2⟩
    refine ⟨?_, by rw [depthK]; omega⟩
    unfold keyK
    exact .tup h1 (.cons (.text _) (.cons (.tup h2 (keyT_all p.2)) .nil))
/-- entries with such keys -/
abbrev ML := List (KW × Addr × V)
def toN (M : ML) : NL := M.map fun x => (keyK x.1, x.2)
def prM (M : ML) : List (KW × V) := M.map fun x => (x.1, x.2.2)
theorem valV_keyK (p : KW) : ∀ M : ML, valV (M.map fun x => (keyK x.1, x.2.2)) (keyK p) = valV (M.map fun x => (x.1, x.2.2)) p
  | [] => rfl
  | x :: M => by
    have ih := valV_keyK p M
    rw [List.map_cons, List.map_cons]
    by_cases e : x.1 = p
    · rw [valV_pos (p := (keyK x.1, x.2.2)) (show keyK x.1 = keyK p by rw [e]), valV_pos (p := (x.1, x.2.2)) e]
    · rw [valV_neg (p := (keyK x.1, x.2.2)) (fun z : keyK x.1 = keyK p => e (keyK_inj z)), valV_neg (p := (x.1, x.2.2)) e]
      exact ih
theorem getN_to (M : ML) (p : KW) : getN (toN M) (keyK p) = valV (prM M) p := by
  unfold getN toN prN prM
  rw [List.map_map]
  exact valV_keyK p M
def putM (M : ML) (k : KW) (a : Addr) (v : V) : ML := if (valV (prM M) k).isSome = true then M.map (fun x => if x.1 = k then (x.1, x.2.1, v) else x) else M ++ [(k, a, v)]
theorem putN_to (M : ML) (k : KW) (a : Addr) (v : V) : putN (toN M) (keyK k) a v = toN (putM M k a v) := by
  unfold putN putM
  rw [getN_to]
  split
  · unfold toN
    rw [List.map_map, List.map_map]
    refine List.map_congr_left fun x _ => ?_
    by_cases e : x.1 = k
    · simp [e]
    · have : ¬ keyK x.1 = keyK k := fun z => e (keyK_inj z)
      simp [e, this]
  · simp [toN]
theorem prM_put (M : ML) (k : KW) (a : Addr) (v : V) : prM (putM M k a v) = putK (prM M) k v := by
  unfold putM putK
  rw [valV_any]
  split
  · unfold prM
    rw [List.map_map, List.map_map]
    refine List.map_congr_left fun x _ => ?_
    by_cases h : x.1 = k <;> simp [h]
  · simp [prM]
/-! ### their order, sorted(d) -/
def ltK (p q : KW) : Bool := if p.1 = q.1 then ltT p.2 q.2 else ltCps p.1.cps.toList q.1.cps.toList
def encK (p : KW) : PyData := .tuple [.str p.1, .tuple (tD p.2)]
theorem ltK_irrefl (p : KW) : ltK p p = false := by
  unfold ltK
  rw [if_pos rfl, ltT_irrefl]
theorem ltK_total (p q : KW) : ltK p q = true ∨ p = q ∨ ltK q p = true := by
  obtain ⟨a, b⟩ := p
  obtain ⟨c, d⟩ := q
  unfold ltK
  by_cases e : a = c
  · subst e
    rw [if_pos rfl, if_pos rfl]
    rcases ltT_total b d with h | h | h
    · exact .inl h
    · exact .inr (.inl (by rw [show b = d from h]))
    · exact .inr (.inr h)
  · rw [if_neg e, if_neg fun z => e z.symm]
    cases q : ltCps a.cps.toList c.cps.toList with
    | true => exact .inl rfl
    | false => exact .inr (.inr (cps_total e q))
theorem ltK_trans {p q r : KW} (h1 : ltK p q = true) (h2 : ltK q r = true) : ltK p r = true := by
  obtain ⟨a, b⟩ := p
  obtain ⟨c, d⟩ := q
  obtain ⟨x, y⟩ := r
  unfold ltK at h1 h2 ⊢
  dsimp only at h1 h2 ⊢
  by_cases e : a = c
  · subst e
    rw [if_pos rfl] at h1
    by_cases e2 : a = x
    · rw [if_pos e2] at h2 ⊢
      exact ltT_trans _ _ _ h1 h2
    · rw [if_neg e2] at h2 ⊢
      exact h2
  · rw [if_neg e] at h1
    by_cases e2 : c = x
    · subst e2
      rw [if_neg e]
      exact h1
    · rw [if_neg e2] at h2
      have h3 := cps_trans h1 h2
      by_cases e3 : a = x
      · subst e3
        rw [cps_irrefl] at h3
        cases h3
      · rw [if_neg e3]
        exact h3
theorem ltK_asym {p q : KW} (h : ltK p q = true) : ltK q p = false := by
  cases e : ltK q p with
  | false => rfl
  | true =>
    have := ltK_trans h e
    rw [ltK_irrefl] at this
    cases this
theorem leK_trans {p q r : KW} (h1 : ltK q p = false) (h2 : ltK r q = false) : ltK r p = false := by
  cases e : ltK r p with
  | false => rfl
  | true =>
    rcases ltK_total q p with h | h | h
    · rw [h] at h1; cases h1
    · rw [← h, h2] at e
      cases e
    · rw [ltK_trans e h] at h2
      cases h2
theorem alike_keys (p q : KW) : PySem.W.alike (encK p) (encK q) = true := by
  unfold encK
  simp only [PySem.W.alike, PySem.W.alikeAll, alike_texts, Bool.and_self]
theorem lt_keys (p q : KW) : PySem.W.dataLt (encK p) (encK q) = ltK p q := by
  unfold encK ltK
  rw [PySem.W.dataLt_pair (by rfl) (by simp only [PySem.W.alike]; exact alike_texts _ _)]
  by_cases e : p.1 = q.1
  · rw [if_pos e, if_pos (by simp [PyData.eqv, e])]
    by_cases e2 : p.2 = q.2
    · rw [if_pos (by rw [e2, PyData.eqv, eqv_texts]; simp), e2, ltT_irrefl]
    · rw [if_neg (by rw [PyData.eqv, eqv_texts]; simp [e2]), lt_texts]
  · rw [if_neg e, if_neg (by simp [PyData.eqv, e]), PySem.W.dataLt_str, ltCps_eq]
section
variable {X : Cx} {P : Program} {w : World} {K : PySem.W.Frag}
theorem key_dp {H : Hp} {a : Addr} {p : KW} (h : KeyA K H a (keyK p)) : Dp K H (.ref a) (encK p) := by
  obtain ⟨g, h1, h2⟩ := keyK_at.mp h
  exact .tup h1 (.cons (.str _) (.cons (.tup h2 (dp_texts p.2)) .nil))
def rSortN (P : Program) (w : World) (K : PySem.W.Frag) : List V → Hp → VK → Prop := fun vs H Q => ∃ (a : Addr) (L : ML), vs = [V.ref a] ∧ NDict P w K H a (toN L) ∧ L.length ≤ 100000 ∧
  ∀ (L' : ML) (p : Addr), L'.Perm L → L'.Pairwise (fun a b => ltK b.1 a.1 = false) → H p = none → Q (.ref p) (upd H p (.lst (L'.map fun x => V.ref x.2.1)))
theorem eachN : ∀ {L : ML} {us : List Value}, (∀ (i : Nat) (x : KW × Addr × V), L[i]? = some x → us[i]? = some (Value.ref x.2.1)) → us.length = L.length → PySem.W.EachIs (fun v (b : KW × Addr × V) => v = Value.ref b.2.1) us L
  | [], [], _, _ => .nil
  | [], _ :: _, _, h => by simp at h
  | _ :: _, [], _, h => by simp at h
  | x :: L, u :: us, h, hl => .cons (Option.some.inj (h 0 x rfl)) (eachN (fun i y hy => by simpa using h (i + 1) y (by simpa using hy)) (by simpa using hl))
theorem valsN : ∀ {L : ML} {us : List Value}, PySem.W.EachIs (fun v (b : KW × Addr × V) => v = Value.ref b.2.1) us L → Vals (L.map fun x => V.ref x.2.1) us
  | [], _, .nil => .nil
  | _ :: _, _, .cons h t => .cons h (valsN t)
theorem cr_sortedN (hx : XI X P w K) (hc : X.calm = true) (hu : X.A.units + 64 < cLine) : CallR X (.builtin "sorted") (rSortN P w K) := by
  obtain ⟨rfl, rfl, rfl⟩ := hx
  intro pins s σ H vs us Q I r h
  obtain ⟨a, L, rfl, ha, hL, q⟩ := h
  rw [Vals.ref1 r]
  obtain ⟨z, hd, es, ep, raw, hs, hi0⟩ := n_raw I ha.1
  have hi : ∀ (i : Nat) (x : KW × Addr × V), L[i]? = some x → ∃ en, es[i]? = some en ∧ en.key = .ref x.2.1 ∧ RelV x.2.2 en.val := fun i x e => hi0 i (keyK x.1, x.2) (by unfold toN; rw [List.getElem?_map, e]; rfl)
  have hl : (toN L).length = L.length := by unfold toN; rw [List.length_map]
  rw [hl] at z hs
  refine sortedK (KdlSrc.rawDict hd) (I.ok.hd hc) raw (by rw [hs]; exact z) (fun v b => v = Value.ref b.2.1) (fun b : KW × Addr × V => encK b.1) L (fun acc hacc => ?_) (fun v b hb e => ?_) ?_ ?_ (fun b hb => ?_) fun h' tk p out c hk hp hg ho => ?_
  · refine eachN (fun i x hx => ?_) (by rw [Array.length_toList, hacc.1, hs])
    obtain ⟨en, e1, e2, _⟩ := hi i x hx
    have hj : i < acc.size := by
      have : i < L.length := (List.getElem?_eq_some_iff.mp hx).1
      rw [hacc.1, hs]; exact this
    obtain ⟨hlt, e3⟩ := hacc.2 i _ (Array.getElem?_eq_getElem hj)
    rw [Array.getElem?_toList, Array.getElem?_eq_getElem hj, e3]
    rw [Array.getElem?_eq_getElem hlt] at e1
    rw [Option.some.inj e1, e2]
  · exact Dp.reads I (encK b.1) (.ref b.2.1) v (key_dp (ha.2 _ (List.mem_map.mpr ⟨b, hb, rfl⟩))) e
  · exact PySem.W.AllAlike.of fun b b' => alike_keys b.1 b'.1
  · exact .inl fun d hd => by
      obtain ⟨b, hb, rfl⟩ := List.mem_map.mp hd
      exact ⟨_, _, rfl⟩
  · have := depth_texts b.1.2
    unfold encK
    simp only [PyData.depth, PyData.depthAll]
    omega
  · have hperm : (L.mergeSort (PySem.W.dataLe false fun b : KW × Addr × V => encK b.1)).Perm L := List.mergeSort_perm _ _
    have ele : ∀ a b : KW × Addr × V, PySem.W.dataLe false (fun b : KW × Addr × V => encK b.1) a b = !ltK b.1 a.1 := fun a b => by
      rw [PySem.W.dataLe_eq]
      show (!PySem.W.dataLt (encK b.1) (encK a.1)) = _
      rw [lt_keys]
    have hsrt := List.pairwise_mergeSort (le := PySem.W.dataLe false fun b : KW × Addr × V => encK b.1) (fun a b c h1 h2 => by
      rw [ele, Bool.not_eq_true'] at h1 h2 ⊢
      exact leK_trans h1 h2) (fun a b => by
      rw [ele, ele]
      cases e : ltK b.1 a.1 with
      | false => rfl
      | true => rw [ltK_asym e]; rfl) L
    generalize L.mergeSort (PySem.W.dataLe false fun b : KW × Addr × V => encK b.1) = L' at ho hperm hsrt
    have hlen : (L'.map fun x => V.ref x.2.1).length ≤ sizeLine := by rw [List.length_map, hperm.length_eq]; exact z
    exact ⟨.ref p, upd H p (.lst (L'.map fun x => V.ref x.2.1)), I.laid (t' := tk) hk hp ⟨hlen, out, c, valsN ho, hg⟩, rfl, q L' p hperm (hsrt.imp fun {a b} h => by rw [ele] at h; simpa using h) (I.hok.fresh hp)⟩
end
end Kl

set_option maxRecDepth 100000
set_option maxHeartbeats 4000000
namespace Gx
open PySem PySem.W PySem.Calls PyProof.Rows PyProof.V PySem.Spec
/-! ### d == e, d != e, the keys tuples -/
section
variable {prog : Program} {w : World} {K : Type} [DecidableEq K] {knd : HeapKind prog w K} {A : Around} {E : Value → Shared → Prop} {s : Shared}
inductive HitsH (prog : Program) (w : World) (A : Around) (s : Shared) (xb : List (K × Addr × Value)) : List (K × Addr × Value) → Bool → Prop
  | nil : HitsH prog w A s xb [] true
  | miss {k : K} {q : Addr × Value} {r : List (K × Addr × Value)} : atKey xb k = none → HitsH prog w A s xb ((k, q) :: r) false
  | hit {k : K} {q p : Addr × Value} {r : List (K × Addr × Value)} {e b : Bool} : atKey xb k = some p → SeqAt.EqP prog w A s q.2 p.2 e → HitsH prog w A s xb r b → HitsH prog w A s xb ((k, q) :: r) (e && b)
theorem HitsH.inv {xb : List (K × Addr × Value)} {k : K} {q : Addr × Value} {r : List (K × Addr × Value)} {b : Bool} (h : HitsH prog w A s xb ((k, q) :: r) b) :
    (atKey xb k = none ∧ b = false) ∨ ∃ p e b', atKey xb k = some p ∧ SeqAt.EqP prog w A s q.2 p.2 e ∧ HitsH prog w A s xb r b' ∧ b = (e && b') := by
  cases h with
  | miss hn => exact .inl ⟨hn, rfl⟩
  | hit hy he hr => exact .inr ⟨_, _, _, hy, he, hr, rfl⟩
theorem samePairsH {nm : String} {a b : Addr} {xa xb : List (K × Addr × Value)} {r : Bool} {Q : Bool → Shared → Prop} (hr : knd.room A) (ha : (a == sysModules) = false) (hb : (b == sysModules) = false)
    (da : s.heap.DictOfH knd a xa) (db : s.heap.DictOfH knd b xb) (hits : xa.length = xb.length → HitsH prog w A s xb xa r) (h : Q (xa.length == xb.length && r) s) :
    wpAny (model prog w) A (Builtin.Dict.samePairs nm a b) Q E s := by
  obtain ⟨oa, es, ep, hoa, _, hda, hea, hia, hna⟩ := da
  obtain ⟨ob, es', ep', hob, _, hdb, heb, hib, hnb⟩ := db
  have hla : es.size = xa.length := size_of_entries hea
  have hlb : es'.size = xb.length := size_of_entries heb
  rw [← hla, ← hlb] at h
  unfold Builtin.Dict.samePairs Builtin.Dict.showsAll
  rw [if_neg (show ¬ (a == sysModules) = true by rw [ha]; exact Bool.false_ne_true), if_neg (show ¬ (b == sysModules) = true by rw [hb]; exact Bool.false_ne_true)]
  refine wpAny_bind (wpAny_pure (wpAny_bind (wpAny_pure ?_)))
  refine wpAny_bind (wpAny_dictEntries hoa hda ?_)
  dsimp only
  refine wpAny_bind (wpAny_dictEntries hob hdb ?_)
  by_cases hsz : es.size = es'.size
  case neg =>
    rw [if_pos (by simpa using hsz)]
    have hbf : (es.size == es'.size) = false := by simpa using hsz
    rw [hbf, Bool.false_and] at h
    exact wpAny_bind (wpAny_rule (wpAny_pure h))
  case pos =>
    have h' : Q r s := by simpa [hsz] using h
    have hits' := hits (by rw [← hla, ← hlb]; exact hsz)
    rw [if_neg (by rw [hsz]; simp)]
    refine wpAny_bind (wpAny_dictEpoch hoa hda ?_)
    refine wpAny_bind ?_
    rw [Std.Legacy.Range.forIn_eq_forIn_range']
    simp only [Std.Legacy.Range.size, Nat.sub_zero, Nat.add_sub_cancel, Nat.div_one]
    refine wpAny_forIn_list _
      (fun rest q s' => s' = s ∧ q = (none, ()) ∧ ∃ i, rest = List.range' i (es.size - i) ∧ i ≤ es.size ∧ HitsH prog w A s xb (xa.drop i) r)
      _ ?_ ?_ _ _ ⟨rfl, rfl, 0, by simp, Nat.zero_le _, hits'⟩
    · rintro x rest q s' ⟨rfl, rfl, i, hr', hi, hpre⟩
      have hlt : i < es.size := by
        rcases Nat.lt_or_ge i es.size with h | h
        · exact h
        · rw [Nat.sub_eq_zero_of_le h] at hr'; simp at hr'
      obtain ⟨rfl, hrest⟩ : x = i ∧ rest = List.range' (i + 1) (es.size - (i + 1)) := by
        have e : es.size - i = (es.size - (i + 1)) + 1 := by omega
        rw [e, List.range'_succ] at hr'
        injection hr' with h1 h2
        exact ⟨h1, h2⟩
      refine wpAny_bind (wpAny_dictEntries hoa hda ?_)
      rw [Array.getElem?_eq_getElem hlt]
      have hlt' : x < xa.length := by rw [← hla]; exact hlt
      obtain ⟨k, q, hkv⟩ : ∃ k q, xa[x] = (k, q) := ⟨_, _, rfl⟩
      have hdrop : xa.drop x = (k, q) :: xa.drop (x + 1) := by rw [← hkv]; exact List.drop_eq_getElem_cons hlt'
      have hent : es[x] = entryOfKey knd (k, q) := by
        have e := entry_at hea x
        rw [Array.getElem?_eq_getElem hlt, List.getElem?_eq_getElem hlt', hkv] at e
        exact Option.some.inj e
      have hkey : knd.is s'.heap k q.1 := by
        have := hia xa[x] (List.getElem_mem hlt')
        rw [hkv] at this
        exact this
      rw [hdrop] at hpre
      rw [hent]
      show wpAny _ _ (holding [Value.ref q.1, q.2] _ >>= _) _ _ _
      show wpAny _ _ (holding [Value.ref q.1, q.2] (dictFind b (Value.ref q.1) (knd.hash k) >>= _) >>= _) _ _ _
      refine wpAny_bind (wpAny_holding (wpAny_bind (wpAny_dictFind_heap hr hkey hob hdb heb hib hnb (fun hno => ?_) fun j p hj => ?_)))
      · have hn : atKey xb k = none := atKey_none_of_get hno
        rcases hpre.inv with ⟨_, er⟩ | ⟨p, _, _, hy, _⟩
        · rw [er] at h'
          refine wpAny_pure ?_
          show wpAny _ _ (if (!false) = true then _ else _) _ _ _
          rw [if_pos (by decide)]
          exact wpAny_pure (wpAny_pure h')
        · rw [hn] at hy; exact nomatch hy
      · have hv' : atKey xb k = some p := atKey_of_get hnb hj
        have hent' : es'[j]? = some (entryOfKey knd (k, p)) := by rw [entry_at heb j, hj]; rfl
        refine wpAny_bind (wpAny_dictEntries hob hdb ?_)
        rw [hent']
        rcases hpre.inv with ⟨hn, _⟩ | ⟨p', e, b', hy, he, hrr, er⟩
        · rw [hv'] at hn; exact nomatch hn
        · have ey : p = p' := Option.some.inj (hv'.symm.trans hy)
          rw [← ey] at he
          refine wpAny_holding (he _ _ ?_)
          cases e with
          | false =>
            rw [er, Bool.false_and] at h'
            show wpAny _ _ (if (!false) = true then _ else _) _ _ _
            rw [if_pos (by decide)]
            exact wpAny_pure (wpAny_pure h')
          | true =>
            rw [Bool.true_and] at er
            rw [← er] at hrr
            show wpAny _ _ (if (!true) = true then _ else _) _ _ _
            rw [if_neg (by decide)]
            refine wpAny_bind (wpAny_dictEpoch hoa hda ?_)
            rw [if_neg (by simp)]
            exact wpAny_pure ⟨rfl, rfl, x + 1, hrest, hlt, hrr⟩
    · rintro q s' ⟨rfl, rfl, i, hr', hi, hpre⟩
      have hin : i = es.size := by
        rcases Nat.lt_or_ge i es.size with h | h
        · have e : es.size - i = (es.size - (i + 1)) + 1 := by omega
          rw [e, List.range'_succ] at hr'; exact nomatch hr'
        · exact Nat.le_antisymm hi h
      refine wpAny_pure ?_
      rw [hin, hla, List.drop_length] at hpre
      cases hpre
      exact h'
theorem rcH_dicts {a b : Addr} {xa xb : List (K × Addr × Value)} {r : Bool} (hr : knd.room A.in1) (ha : (a == sysModules) = false) (hb : (b == sysModules) = false)
    (da : s.heap.DictOfH knd a xa) (db : s.heap.DictOfH knd b xb) (hu : A.units < cLine) (hits : xa.length = xb.length → HitsH prog w A.in1 s xb xa r) (E Q : Value → Shared → Prop) (h : Q (.bool (xa.length == xb.length && r)) s) : wpAny (model prog w) A (richCompare .Eq (.ref a) (.ref b)) Q E s := by
  refine wpAny_richCompare_same_room (op := .Eq) da.typeIs db.typeIs PySem.F.slot_dict_eq (wpAny_call_entry PySem.F.slot_dict_eq da.typeIs PySem.F.entry_dict_eq ?_ (PySem.F.args_dict_eq_2 _ _)) hu
  show wpAny _ _ (Builtin.Dict.dictSlotArgs "__eq__" ⟨[.ref a, .ref b], []⟩ >>= _) _ _ s
  refine wpAny_bind ?_
  unfold Builtin.Dict.dictSlotArgs
  refine wpAny_bind (wpAny_notOrdered_dict da.typeIs ?_)
  show wpAny _ _ (pure (Value.ref a, Value.ref b)) _ _ s
  refine wpAny_pure ?_
  refine wpAny_bind (wpAny_isInstance (T := "dict") db.typeIs PySem.F.sub_dict_dict ?_)
  simp only [Bool.not_true, Bool.false_eq_true, if_false]
  refine wpAny_bind (wpAny_pure (wpAny_bind (wpAny_pure ?_)))
  refine wpAny_bind (samePairsH hr ha hb da db hits ?_)
  refine wpAny_pure ⟨_, rfl, ?_, ?_⟩
  · exact fun x => nomatch x
  · simpa using h
theorem neH_dicts {a b : Addr} {xa xb : List (K × Addr × Value)} {r : Bool} (hr : knd.room A.in1) (ha : (a == sysModules) = false) (hb : (b == sysModules) = false)
    (da : s.heap.DictOfH knd a xa) (db : s.heap.DictOfH knd b xb) (hu : A.units < cLine) (hits : xa.length = xb.length → HitsH prog w A.in1 s xb xa r) (E Q : Value → Shared → Prop) (h : Q (.bool (!(xa.length == xb.length && r))) s) : wpAny (model prog w) A (compareOp .NotEq (.ref a) (.ref b)) Q E s := by
  refine wpAny_richCompare_same_room (op := .NotEq) da.typeIs db.typeIs PySem.F.slot_dict_ne (wpAny_call_entry PySem.F.slot_dict_ne da.typeIs PySem.F.entry_dict_ne ?_ (PySem.F.args_dict_ne_2 _ _)) hu
  show wpAny _ _ (Builtin.Dict.dictSlotArgs "__ne__" ⟨[.ref a, .ref b], []⟩ >>= _) _ _ s
  refine wpAny_bind ?_
  unfold Builtin.Dict.dictSlotArgs
  refine wpAny_bind (wpAny_notOrdered_dict da.typeIs ?_)
  show wpAny _ _ (pure (Value.ref a, Value.ref b)) _ _ s
  refine wpAny_pure ?_
  refine wpAny_bind (wpAny_isInstance (T := "dict") db.typeIs PySem.F.sub_dict_dict ?_)
  simp only [Bool.not_true, Bool.false_eq_true, if_false]
  refine wpAny_bind (wpAny_pure (wpAny_bind (wpAny_pure ?_)))
  refine wpAny_bind (samePairsH hr ha hb da db hits ?_)
  refine wpAny_pure ⟨_, rfl, ?_, ?_⟩
  · exact fun x => nomatch x
  · simpa using h
end
end Gx
namespace Gx
open PySem PySem.Spec PyProof.Rows L2
/-- the same keys with the same values -/
def eqN (L M : NL) : Bool := decide (L.length = M.length) && (prN L).all fun p => decide (valV (prN M) p.1 = some p.2)
def Texts (L : NL) : Prop := ∀ x ∈ L, ∃ z, x.2.2 = V.str z
section
variable {P : Program} {w : World} {A : Around} {s : Shared}
theorem hitsN {M : NL} {xb : List (NestedKey × Addr × Value)} (rb : NR M xb) (hM : Texts M) : ∀ {L : NL} {xa : List (NestedKey × Addr × Value)}, NR L xa → Texts L →
    HitsH P w A s xb xa ((prN L).all fun p => decide (valV (prN M) p.1 = some p.2))
  | [], _, .nil, _ => .nil
  | x :: L, q :: xa, .cons h t, hL => by
    obtain ⟨h1, h2, h3⟩ := h
    have ih := hitsN rb hM t fun y hy => hL y (List.mem_cons_of_mem _ hy)
    obtain ⟨z, hz⟩ := hL x List.mem_cons_self
    rw [hz] at h3
    obtain ⟨t1, h3⟩ := h3
    have v := rb.val x.1
    obtain ⟨k, q1, q2⟩ := q
    obtain rfl : k = x.1 := h1
    obtain rfl : q2 = Value.str z t1 := h3
    show HitsH P w A s xb _ (decide (valV (prN M) x.1 = some x.2.2) && (prN L).all fun p => decide (valV (prN M) p.1 = some p.2))
    rw [hz]
    cases g : atKey xb x.1 with
    | none =>
      rw [g] at v
      have e : valV (prN M) x.1 = none := by
        cases c : valV (prN M) x.1 with
        | none => rfl
        | some _ =>
          unfold getN at v
          rw [c] at v
          exact (show False from v).elim
      rw [e, decide_eq_false (by simp), Bool.false_and]
      exact .miss g
    | some p =>
      rw [g] at v
      obtain ⟨y, hy⟩ : ∃ y, valV (prN M) x.1 = some y := by
        cases c : valV (prN M) x.1 with
        | none =>
          unfold getN at v
          rw [c] at v
          exact (show False from v).elim
        | some y => exact ⟨y, rfl⟩
      have ym : ∃ e ∈ M, e.2.2 = y := by
        unfold valV at hy
        obtain ⟨kv, hkv, e⟩ := Option.map_eq_some_iff.mp hy
        have := List.mem_of_find?_eq_some hkv
        unfold prN at this
        obtain ⟨e0, he0, e1⟩ := List.mem_map.mp this
        exact ⟨e0, he0, by rw [← e, ← e1]⟩
      obtain ⟨e0, he0, ee⟩ := ym
      obtain ⟨z2, hz2⟩ := hM e0 he0
      have ey : y = V.str z2 := by rw [← ee, hz2]
      rw [hy, ey]
      have rv : RelV (V.str z2) p.2 := by
        unfold getN at v
        rw [hy, ey] at v
        exact v
      obtain ⟨t2, ht2⟩ := rv
      refine .hit g ?_ ih
      show SeqAt.EqP P w A s (Value.str z t1) p.2 _
      rw [ht2]
      intro E Q hq
      refine wpAny_eqBool_str ?_
      have e : decide (some (V.str z2) = some (V.str z)) = decide (z = z2) := by
        by_cases c : z = z2
        · subst c; simp
        · rw [decide_eq_false c, decide_eq_false]
          intro q
          injection q with q
          injection q with q
          exact c q.symm
      rw [e] at hq
      first
        | exact hq
        | simpa using hq
end
section
variable {X : Cx} {P : Program} {w : World} {K : PySem.W.Frag}
/-- d == e, d != e, the values texts -/
def rEqN (P : Program) (w : World) (K : PySem.W.Frag) (g : Bool → Bool) : R2 := fun x y H Q => ∃ a b L M, x = .ref a ∧ y = .ref b ∧ NDict P w K H a L ∧ NDict P w K H b M ∧ Texts L ∧ Texts M ∧ Q (.bl (g (eqN L M))) H
theorem op_eqN (hx : XI X P w K) (hu : X.A.units + 64 < cLine) : OpR X (compareOp .Eq) (rEqN P w K id) := by
  obtain ⟨rfl, rfl, rfl⟩ := hx
  intro pins s σ H x y v u Q I rx ry h
  obtain ⟨a, b, L, M, rfl, rfl, ha, hb, tL, tM, q⟩ := h
  obtain rfl : v = Value.ref a := rx
  obtain rfl : u = Value.ref b := ry
  obtain ⟨_, ya, va, ra, da⟩ := dn_rd I ha
  obtain ⟨_, yb, vb, rb, db⟩ := dn_rd I hb
  refine rcH_dicts (roomN (X := X) hu) ya yb da db (by omega) (fun _ => hitsN rb tM ra tL) _ _ ⟨.bl (eqN L M), H, I, ?_, q⟩
  show _ = Value.bool (eqN L M)
  unfold eqN
  rw [ra.length, rb.length]
  rfl
theorem op_neN (hx : XI X P w K) (hu : X.A.units + 64 < cLine) : OpR X (compareOp .NotEq) (rEqN P w K not) := by
  obtain ⟨rfl, rfl, rfl⟩ := hx
  intro pins s σ H x y v u Q I rx ry h
  obtain ⟨a, b, L, M, rfl, rfl, ha, hb, tL, tM, q⟩ := h
  obtain rfl : v = Value.ref a := rx
  obtain rfl : u = Value.ref b := ry
  obtain ⟨_, ya, va, ra, da⟩ := dn_rd I ha
  obtain ⟨_, yb, vb, rb, db⟩ := dn_rd I hb
  refine neH_dicts (roomN (X := X) hu) ya yb da db (by omega) (fun _ => hitsN rb tM ra tL) _ _ ⟨.bl (!eqN L M), H, I, ?_, q⟩
  show _ = Value.bool (!eqN L M)
  unfold eqN
  rw [ra.length, rb.length]
  rfl
end
end Gx

set_option maxRecDepth 100000
set_option maxHeartbeats 4000000
namespace Gx
open PySem PySem.Spec PyProof.Rows L2
/-! ### dict(list of pairs) -/
def foldN (acc M : NL) : NL := M.foldl (fun a e => putN a e.1 e.2.1 e.2.2) acc
theorem NR.merge : ∀ {M : NL} {ps : List (NestedKey × Addr × Value)} {acc : NL} {xs : List (NestedKey × Addr × Value)}, NR M ps → NR acc xs → NR (foldN acc M) (storedAllH xs ps)
  | [], _, _, _, .nil, r => r
  | x :: M, q :: ps, acc, xs, .cons h t, r => by
    obtain ⟨h1, h2, h3⟩ := h
    have e : NR (putN acc x.1 x.2.1 x.2.2) (storedH xs q.1 q.2.1 q.2.2) := by
      rw [h1, h2]
      exact r.put x.1 h3
    have z := NR.merge t e
    exact z
theorem foldN_len : ∀ (M acc : NL), (foldN acc M).length ≤ acc.length + M.length
  | [], acc => by show acc.length ≤ acc.length + 0; omega
  | x :: M, acc => by
    have h1 := foldN_len M (putN acc x.1 x.2.1 x.2.2)
    have h2 := putN_len acc x.1 x.2.1 x.2.2
    show (foldN (putN acc x.1 x.2.1 x.2.2) M).length ≤ _
    rw [List.length_cons]
    omega
theorem foldN_mem {G : NestedKey → Addr → Prop} : ∀ {M acc : NL}, (∀ x ∈ acc, G x.1 x.2.1) → (∀ x ∈ M, G x.1 x.2.1) → ∀ x ∈ foldN acc M, G x.1 x.2.1
  | [], _, h, _ => h
  | y :: M, acc, h, hM => foldN_mem (acc := putN acc y.1 y.2.1 y.2.2) (fun x hx => by
      rcases putN_mem hx with ⟨z, hz, e1, e2⟩ | ⟨e1, e2⟩
      · rw [e1, e2]
        exact h z hz
      · rw [e1, e2]
        exact hM y List.mem_cons_self) fun x hx => hM x (List.mem_cons_of_mem _ hx)
theorem putN_new {L : NL} {k : NestedKey} {a : Addr} {v : V} (h : k ∉ L.map (·.1)) : putN L k a v = L ++ [(k, a, v)] := by
  unfold putN
  rw [if_neg]
  intro q
  unfold getN at q
  rw [← valV_any] at q
  obtain ⟨x, hx, e⟩ := List.any_eq_true.mp q
  unfold prN at hx
  obtain ⟨y, hy, rfl⟩ := List.mem_map.mp hx
  exact h (List.mem_map.mpr ⟨y, hy, by simpa using e⟩)
theorem foldN_nodup : ∀ (M acc : NL), ((acc ++ M).map (·.1)).Nodup → foldN acc M = acc ++ M
  | [], acc, _ => by rw [List.append_nil]; rfl
  | x :: M, acc, h => by
    have e : acc ++ x :: M = (acc ++ [x]) ++ M := by rw [List.append_assoc]; rfl
    have hn : x.1 ∉ acc.map (·.1) := by
      rw [List.map_append, List.map_cons] at h
      have := (List.nodup_append.mp h).2.2
      exact fun z => this _ z _ List.mem_cons_self rfl
    show foldN (putN acc x.1 x.2.1 x.2.2) M = _
    rw [putN_new hn, e, ← foldN_nodup M (acc ++ [x]) (by rw [← e]; exact h)]
section
variable {X : Cx} {P : Program} {w : World} {K : PySem.W.Frag}
theorem pairsN {pins : List (Addr × Obj)} {σ : L2.St} {H : Hp} {s : Shared} (I : Inv X pins σ H s) : ∀ {ps : List Addr} {M : NL}, Paired (fun p e => SqT X.K H p [V.ref e.2.1, e.2.2]) ps M →
    ∃ prs : List (NestedKey × Addr × Value), NR M prs ∧ prs.length = ps.length ∧ ∀ (j : Nat) (q : NestedKey × Addr × Value), prs[j]? = some q → ∃ b : Addr, ps[j]? = some b ∧ IsTup s.heap b #[Value.ref q.2.1, q.2.2]
  | _, _, .nil => ⟨[], .nil, rfl, fun j q e => by simp at e⟩
  | _, _, .cons (a := p) (b := x) h t => by
    obtain ⟨prs, r, hl, hp⟩ := pairsN I t
    obtain ⟨its, rv, ht, _⟩ := I.tuple h
    obtain ⟨u, y, ei, ru, ry⟩ := vals2 rv
    subst ei
    obtain rfl : u = Value.ref x.2.1 := ru
    refine ⟨(x.1, x.2.1, y) :: prs, .cons ⟨rfl, rfl, ry⟩ r, by rw [List.length_cons, List.length_cons, hl], fun j q e => ?_⟩
    cases j with
    | zero =>
      have e' : (x.1, x.2.1, y) = q := Option.some.inj e
      subst e'
      exact ⟨p, rfl, ht⟩
    | succ j =>
      obtain ⟨b, e1, e2⟩ := hp j q (by simpa using e)
      exact ⟨b, by simpa using e1, e2⟩
def rDictN (P : Program) (w : World) (K : PySem.W.Frag) : List V → Hp → VK → Prop := fun vs H Q => ∃ (a : Addr) (ps : List Addr) (M : NL), vs = [V.ref a] ∧ SqL K H a (ps.map V.ref) ∧ Paired (fun p e => SqT K H p [V.ref e.2.1, e.2.2]) ps M ∧
  (∀ e ∈ M, KeyA K H e.2.1 e.1) ∧ ∀ p, H p = none → Q (.ref p) (upd H p (DN P w p (foldN [] M)))
theorem call_dictN (hx : XI X P w K) (hc : X.calm = true) (hu : X.A.units + 64 < cLine) : CallR X (.type "dict") (rDictN P w K) := by
  obtain ⟨rfl, rfl, rfl⟩ := hx
  intro pins s σ H vs us Q I r h
  obtain ⟨a, ps, M, rfl, ha, hp, hk, q⟩ := h
  rw [Vals.ref1 r]
  obtain ⟨its, rv, ⟨o, n, ho, hcl, hdi, hdat⟩, hz⟩ := I.list ha
  have ei := refs_at rv
  subst ei
  rw [List.length_map] at hz
  obtain ⟨prs, rel, hl, hpr⟩ := pairsN I hp
  have hM : M.length = prs.length := rel.length
  let pv : List (Value × Value) := prs.map fun x => (Value.ref x.2.1, x.2.2)
  have hpv : pv.length = prs.length := by simp [pv]
  have pat : ∀ (j : Nat) (k v : Value), pv[j]? = some (k, v) → ∃ x : NestedKey × Addr × Value, prs[j]? = some x ∧ k = Value.ref x.2.1 ∧ v = x.2.2 := fun j k v e => by
    simp only [pv, List.getElem?_map] at e
    cases hx : prs[j]? with
    | none => rw [hx] at e; cases e
    | some x =>
      rw [hx] at e
      cases e
      exact ⟨x, rfl, rfl, rfl⟩
  refine call_dict_pairsH (knd := nestedKind X.prog X.w) (ps := prs) (PairArg.list a (ps.map Value.ref).toArray (fun j => ps.getD j 0) pv) (I.ok.hd hc) (show X.A.units + 1 + 1 + 8 < cLine by omega)
    ⟨⟨o, n, ho, hcl, hdi, hdat⟩, by rw [hpv, List.size_toArray, List.length_map, hl], fun j k v e => ?_⟩ ⟨hpv.symm, fun j k v e => ?_⟩ ?_ (by rw [hpv, hl]; exact hz) fun h' tk hd' hk' => ?_
  · obtain ⟨x, hx, rfl, rfl⟩ := pat j k v e
    obtain ⟨b, hb, ht⟩ := hpr j x hx
    refine ⟨?_, .inl ?_⟩
    · simp [hb]
    · have eb : ps.getD j 0 = b := by simp [hb]
      show s.heap.IsTuple (ps.getD j 0) _
      rw [eb]
      exact ht
  · obtain ⟨x, hx, rfl, rfl⟩ := pat j k v e
    exact ⟨x.1, x.2.1, hx, rfl⟩
  · intro h' hk' x hx
    have hd0 : ∀ b o, s.heap.get? b = some o → b ≠ s.heap.objs.size := fun b o e => Nat.ne_of_lt (Heap.lt_size e)
    obtain ⟨i, hi⟩ := List.mem_iff_getElem?.mp hx
    have all : ∀ {l : NL} {m : List (NestedKey × Addr × Value)}, NR l m → (∀ x ∈ l, KeyA X.K H x.2.1 x.1) → ∀ x ∈ m, (nestedKind X.prog X.w).is s.heap x.1 x.2.1 := by
      intro l m q
      induction q with
      | nil => intro _ x hx; exact nomatch hx
      | @cons p q ps qs hq t ih =>
        intro hl x hx
        rcases List.mem_cons.mp hx with e | hx
        · subst e
          rw [hq.1, hq.2.1]
          exact nkey_of I (hl p List.mem_cons_self)
        · exact ih (fun y hy => hl y (List.mem_cons_of_mem _ hy)) x hx
    exact nestedKind_stays.stays (fun b ob _ _ e _ => hk' b ob (hd0 b ob e) (fun z => nomatch z) e) (all rel hk x hx)
  · have hm : (s.heap.objs.size == sysModules) = false := beq_eq_false_iff_ne.mpr (Nat.ne_of_gt I.big)
    have hlen : (foldN [] M).length ≤ sizeLine := by
      refine Nat.le_trans (foldN_len M []) ?_
      rw [List.length_nil, Nat.zero_add, hM, hl]
      exact hz
    obtain ⟨o', es, ep, h1, h2, h3, h4, _, h5⟩ := hd'
    exact ⟨.ref s.heap.objs.size, upd H s.heap.objs.size (DN X.prog X.w s.heap.objs.size (foldN [] M)), I.laid (t' := tk) (fun b ob e => hk' b ob (fun z => nomatch z) e) (Nat.le_refl _)
      (dn_ok ⟨hlen, hm, _, NR.merge rel .nil, o', es, ep, h1, h2, h3, h4, h5⟩), rfl, q _ (I.hok.fresh (Nat.le_refl _))⟩
end
end Gx

set_option maxRecDepth 100000
set_option maxHeartbeats 4000000
namespace Kl
open PySem PySem.Spec PyProof.Rows L2 Gx
def topS (i : Nat) : Stmt := PySem.Challenge.pw_linkbooks_k04_whole_lines_of_kinds.main.body.getD i (.Pass ⟨0, 0, 0, 0⟩)
abbrev s_wall : Stmt := topS 0
theorem sc_wall : FnScope ["k"] ["k"] (defScope s_wall) := ⟨rfl, rfl, rfl, by decide +kernel, rfl, by decide +kernel, by decide +kernel⟩
abbrev s_is_integer : Stmt := topS 10
theorem sc_is_integer : FnScope ["value"] ["value"] (defScope s_is_integer) := ⟨rfl, rfl, rfl, by decide +kernel, rfl, by decide +kernel, by decide +kernel⟩
abbrev s_is_count : Stmt := topS 11
theorem sc_is_count : FnScope ["value"] ["value"] (defScope s_is_count) := ⟨rfl, rfl, rfl, by decide +kernel, rfl, by decide +kernel, by decide +kernel⟩
abbrev s_is_name : Stmt := topS 12
theorem sc_is_name : FnScope ["value"] ["value"] (defScope s_is_name) := ⟨rfl, rfl, rfl, by decide +kernel, rfl, by decide +kernel, by decide +kernel⟩
abbrev s_is_sorted : Stmt := topS 13
theorem sc_is_sorted : FnScope ["value", "most", "name"] ["value", "most"] (defScope s_is_sorted) := ⟨rfl, rfl, rfl, by decide +kernel, rfl, by decide +kernel, by decide +kernel⟩
abbrev s_words_of : Stmt := topS 15
theorem sc_words_of : FnScope ["line"] ["line"] (defScope s_words_of) := ⟨rfl, rfl, rfl, by decide +kernel, rfl, by decide +kernel, by decide +kernel⟩
abbrev s_names_in : Stmt := topS 16
theorem sc_names_in : FnScope ["text", "most", "names"] ["text", "most"] (defScope s_names_in) := ⟨rfl, rfl, rfl, by decide +kernel, rfl, by decide +kernel, by decide +kernel⟩
abbrev s_text_of : Stmt := topS 17
theorem sc_text_of : FnScope ["names"] ["names"] (defScope s_text_of) := ⟨rfl, rfl, rfl, by decide +kernel, rfl, by decide +kernel, by decide +kernel⟩
abbrev s_told_by : Stmt := topS 18
theorem sc_told_by : FnScope ["lines", "tell", "told", "index", "line", "found"] ["lines", "tell"] (defScope s_told_by) := ⟨rfl, rfl, rfl, by decide +kernel, rfl, by decide +kernel, by decide +kernel⟩
abbrev s_is_making : Stmt := topS 22
theorem sc_is_making : FnScope ["value"] ["value"] (defScope s_is_making) := ⟨rfl, rfl, rfl, by decide +kernel, rfl, by decide +kernel, by decide +kernel⟩
abbrev s_all_names : Stmt := topS 23
theorem sc_all_names : FnScope ["leaf", "makings"] ["leaf", "makings"] (defScope s_all_names) := ⟨rfl, rfl, rfl, by decide +kernel, rfl, by decide +kernel, by decide +kernel⟩
abbrev s_are_kinds : Stmt := topS 24
theorem sc_are_kinds : FnScope ["leaf", "makings", "names", "name", "part"] ["leaf", "makings"] (defScope s_are_kinds) := ⟨rfl, rfl, rfl, by decide +kernel, rfl, by decide +kernel, by decide +kernel⟩
abbrev s_leaf_in : Stmt := topS 25
theorem sc_leaf_in : FnScope ["line", "words"] ["line"] (defScope s_leaf_in) := ⟨rfl, rfl, rfl, by decide +kernel, rfl, by decide +kernel, by decide +kernel⟩
abbrev s_making_in : Stmt := topS 26
theorem sc_making_in : FnScope ["line", "words", "making"] ["line"] (defScope s_making_in) := ⟨rfl, rfl, rfl, by decide +kernel, rfl, by decide +kernel, by decide +kernel⟩
abbrev s_kinds_line : Stmt := topS 27
theorem sc_kinds_line : FnScope ["line", "leaf", "told"] ["line"] (defScope s_kinds_line) := ⟨rfl, rfl, rfl, by decide +kernel, rfl, by decide +kernel, by decide +kernel⟩
abbrev s_law_dice : Stmt := topS 30
theorem sc_law_dice : FnScope ["_law_script", "_law_spot", "_law_cell", "_law_left"] ["_law_script", "_law_spot"] (defScope s_law_dice) := ⟨rfl, rfl, rfl, by decide +kernel, rfl, by decide +kernel, by decide +kernel⟩
abbrev s_law_roll : Stmt := topS 31
theorem sc_law_roll : FnScope ["_law_dice_here", "_law_total", "_law_found", "_law_one", "_law_two"] ["_law_dice_here", "_law_total"] (defScope s_law_roll) := ⟨rfl, rfl, rfl, by decide +kernel, rfl, by decide +kernel, by decide +kernel⟩
abbrev s_law_pick : Stmt := topS 32
theorem sc_law_pick : FnScope ["_law_dice_here", "_law_items"] ["_law_dice_here", "_law_items"] (defScope s_law_pick) := ⟨rfl, rfl, rfl, by decide +kernel, rfl, by decide +kernel, by decide +kernel⟩
abbrev s_law_mixed : Stmt := topS 33
theorem sc_law_mixed : FnScope ["_law_dice_here", "_law_items", "_law_left", "_law_found", "_law_turn"] ["_law_dice_here", "_law_items"] (defScope s_law_mixed) := ⟨rfl, rfl, rfl, by decide +kernel, rfl, by decide +kernel, by decide +kernel⟩
abbrev s_law_kinds : Stmt := topS 34
theorem sc_law_kinds : FnScope ["_law_dice_here", "_law_most", "_law_pool", "_law_names", "_law_makings", "_law_name", "_law_parts", "_law_turn"] ["_law_dice_here", "_law_most"] (defScope s_law_kinds) := ⟨rfl, rfl, rfl, by decide +kernel, rfl, by decide +kernel, by decide +kernel⟩
abbrev s_law_asked : Stmt := topS 35
theorem sc_law_asked : FnScope ["_law_lines", "_law_n", "_law_a", "_law_some"] ["_law_lines"] (defScope s_law_asked) := ⟨rfl, rfl, rfl, by decide +kernel, rfl, by decide +kernel, by decide +kernel⟩
abbrev s_law_told : Stmt := topS 36
theorem sc_law_told : FnScope ["_law_lines", "e"] ["_law_lines"] (defScope s_law_told) := ⟨rfl, rfl, rfl, by decide +kernel, rfl, by decide +kernel, by decide +kernel⟩
abbrev s_law_is_name : Stmt := topS 37
theorem sc_law_is_name : FnScope ["_law_word", "_law_sign"] ["_law_word"] (defScope s_law_is_name) := ⟨rfl, rfl, rfl, by decide +kernel, rfl, by decide +kernel, by decide +kernel⟩
abbrev s_law_making : Stmt := topS 38
theorem sc_law_making : FnScope ["_law_word", "_law_parts", "_law_part"] ["_law_word"] (defScope s_law_making) := ⟨rfl, rfl, rfl, by decide +kernel, rfl, by decide +kernel, by decide +kernel⟩
abbrev s_law_read : Stmt := topS 39
theorem sc_law_read : FnScope ["_law_lines", "_law_leaf", "_law_makings", "_law_at", "_law_line", "_law_words", "_law_tells_leaf", "_law_tells_kind", "_law_known", "_law_parts", "_law_name", "_law_part"] ["_law_lines"] (defScope s_law_read) := ⟨rfl, rfl, rfl, by decide +kernel, rfl, by decide +kernel, by decide +kernel⟩
abbrev s_law_other_line : Stmt := topS 40
theorem sc_law_other_line : FnScope ["_law_dice_here", "_law_line", "_law_words", "_law_way", "_law_at", "_law_spot", "_law_word", "_law_sign", "_law_odd"] ["_law_dice_here", "_law_line"] (defScope s_law_other_line) := ⟨rfl, rfl, rfl, by decide +kernel, rfl, by decide +kernel, by decide +kernel⟩
abbrev s_law_bent : Stmt := topS 41
theorem sc_law_bent : FnScope ["_law_dice_here", "_law_lines", "_law_found", "_law_turn", "_law_at", "_law_way", "_law_other"] ["_law_dice_here", "_law_lines"] (defScope s_law_bent) := ⟨rfl, rfl, rfl, by decide +kernel, rfl, by decide +kernel, by decide +kernel⟩
abbrev s_law_is_due : Stmt := topS 42
theorem sc_law_is_due : FnScope ["_law_told_here", "_law_due"] ["_law_told_here", "_law_due"] (defScope s_law_is_due) := ⟨rfl, rfl, rfl, by decide +kernel, rfl, by decide +kernel, by decide +kernel⟩
abbrev s_law_right : Stmt := topS 43
theorem sc_law_right : FnScope ["_law_dice_here", "_law_leaf", "_law_makings", "_law_lines", "_law_kinds_here", "_law_turn", "_law_bent_here"] ["_law_dice_here"] (defScope s_law_right) := ⟨rfl, rfl, rfl, by decide +kernel, rfl, by decide +kernel, by decide +kernel⟩
abbrev s_law : Stmt := topS 44
theorem sc_law : FnScope ["_law_script", "_law_spot", "_law_few", "_law_lines"] ["_law_script"] (defScope s_law) := ⟨rfl, rfl, rfl, by decide +kernel, rfl, by decide +kernel, by decide +kernel⟩
abbrev s_ParseError_init : Stmt := inClass (topS 4) 0
abbrev XT_ParseError (K : PySem.W.Frag) (mg : Str → Option Value) (C fI : Addr) : Prop := XTxt K mg "ParseError" "number" "ValueError.__new__" [.type "ValueError", .type "Exception", .type "BaseException", .type "object"] C fI
/-- the error ParseError as the top has made it -/
def XDef_ParseError (K : PySem.W.Frag) (mg : Str → Option Value) : Prop := ∃ (C fI : Addr) (fd : FuncData), XT_ParseError K mg C fI ∧ Fun K "__init__" "ParseError.__init__" s_ParseError_init fI fd
theorem init_ParseError {K : PySem.W.Frag} {mg : Str → Option Value} {C fI : Addr} {fd : FuncData} (T : XT_ParseError K mg C fI) (F : Fun K "__init__" "ParseError.__init__" s_ParseError_init fI fd) : InitDoes K C fI "number" := by
  intro prog w A R s x t0 v inK lim hx fresh room hq
  obtain ⟨oc, od, kV, doc, pm, an, cdv, ct, osl, rfl, lk, hcd⟩ := F.ex
  refine Att.call_fn (binds := [("self", .ref x), ("number", v)]) inK lim lk hcd room (BindsTo.of_eq (by first | rfl | with_unfolding_all rfl)) (by first | rfl | decide) (fun s₁ IC => ?_) rfl rfl rfl
  obtain ⟨h₁, tk₁, rfl⟩ := IC.toInCall.same
  have k := IC.toInCall.keep
  have hn := IC.toInCall.ns
  have inK₁ : K.In h₁ := inK.keeps k
  have hx₁ := k _ _ hx
  show wpAny _ _ (execs _ _) _ _ _
  refine wpAny_execs_cons (plainObj_wpAny_Assign_Attribute ?_)
  refine wpAny_Name (wpAny_loadName_local (v := v) (by rfl) (by rfl) hn (by first | rfl | with_unfolding_all rfl | kernel_rfl) ?_) (by decide)
  refine wpAny_Name (wpAny_loadName_local (v := .ref x) (by rfl) (by rfl) hn (by first | rfl | with_unfolding_all rfl | kernel_rfl) ?_) (by decide)
  refine PySem.W.set_plain inK₁ (ox := PySem.W.excObj C t0 none .none) (od := none) ⟨hx₁, rfl, rfl, trivial⟩ T.sa ?_
  refine exc_storeX PySem.F.store_ValueError inK₁ hx₁ T.over T.tak T.hdC (fun h₃ tk₃ dx k₃ dn dne hx₃ hn₃ => ?_)
  show wpAny _ _ (execs _ _) _ _ _
  exact wpAny_execs_nil (hq h₃ tk₃ dx ⟨fun b o hb e => k₃ b o hb (k b o e), hx₃, Nat.le_of_lt (Nat.lt_of_lt_of_le hn.lt dn), dne, hn₃⟩)
abbrev s_UnknownName_init : Stmt := inClass (topS 5) 0
abbrev XT_UnknownName (K : PySem.W.Frag) (mg : Str → Option Value) (C fI : Addr) : Prop := XTxt K mg "UnknownName" "word" "LookupError.__new__" [.type "KeyError", .type "LookupError", .type "Exception", .type "BaseException", .type "object"] C fI
/-- the error UnknownName as the top has made it -/
def XDef_UnknownName (K : PySem.W.Frag) (mg : Str → Option Value) : Prop := ∃ (C fI : Addr) (fd : FuncData), XT_UnknownName K mg C fI ∧ Fun K "__init__" "UnknownName.__init__" s_UnknownName_init fI fd
theorem init_UnknownName {K : PySem.W.Frag} {mg : Str → Option Value} {C fI : Addr} {fd : FuncData} (T : XT_UnknownName K mg C fI) (F : Fun K "__init__" "UnknownName.__init__" s_UnknownName_init fI fd) : InitDoes K C fI "word" := by
  intro prog w A R s x t0 v inK lim hx fresh room hq
  obtain ⟨oc, od, kV, doc, pm, an, cdv, ct, osl, rfl, lk, hcd⟩ := F.ex
  refine Att.call_fn (binds := [("self", .ref x), ("word", v)]) inK lim lk hcd room (BindsTo.of_eq (by first | rfl | with_unfolding_all rfl)) (by first | rfl | decide) (fun s₁ IC => ?_) rfl rfl rfl
  obtain ⟨h₁, tk₁, rfl⟩ := IC.toInCall.same
  have k := IC.toInCall.keep
  have hn := IC.toInCall.ns
  have inK₁ : K.In h₁ := inK.keeps k
  have hx₁ := k _ _ hx
  show wpAny _ _ (execs _ _) _ _ _
  refine wpAny_execs_cons (plainObj_wpAny_Assign_Attribute ?_)
  refine wpAny_Name (wpAny_loadName_local (v := v) (by rfl) (by rfl) hn (by first | rfl | with_unfolding_all rfl | kernel_rfl) ?_) (by decide)
  refine wpAny_Name (wpAny_loadName_local (v := .ref x) (by rfl) (by rfl) hn (by first | rfl | with_unfolding_all rfl | kernel_rfl) ?_) (by decide)
  refine PySem.W.set_plain inK₁ (ox := PySem.W.excObj C t0 none .none) (od := none) ⟨hx₁, rfl, rfl, trivial⟩ T.sa ?_
  refine exc_storeX Gx.store_KeyErr inK₁ hx₁ T.over T.tak T.hdC (fun h₃ tk₃ dx k₃ dn dne hx₃ hn₃ => ?_)
  show wpAny _ _ (execs _ _) _ _ _
  exact wpAny_execs_nil (hq h₃ tk₃ dx ⟨fun b o hb e => k₃ b o hb (k b o e), hx₃, Nat.le_of_lt (Nat.lt_of_lt_of_le hn.lt dn), dne, hn₃⟩)
abbrev s_InvalidNumber_init : Stmt := inClass (topS 6) 0
abbrev XT_InvalidNumber (K : PySem.W.Frag) (mg : Str → Option Value) (C fI : Addr) : Prop := XTxt K mg "InvalidNumber" "value" "IndexError.__new__" [.type "IndexError", .type "LookupError", .type "Exception", .type "BaseException", .type "object"] C fI
/-- the error InvalidNumber as the top has made it -/
def XDef_InvalidNumber (K : PySem.W.Frag) (mg : Str → Option Value) : Prop := ∃ (C fI : Addr) (fd : FuncData), XT_InvalidNumber K mg C fI ∧ Fun K "__init__" "InvalidNumber.__init__" s_InvalidNumber_init fI fd
theorem init_InvalidNumber {K : PySem.W.Frag} {mg : Str → Option Value} {C fI : Addr} {fd : FuncData} (T : XT_InvalidNumber K mg C fI) (F : Fun K "__init__" "InvalidNumber.__init__" s_InvalidNumber_init fI fd) : InitDoes K C fI "value" := by
  intro prog w A R s x t0 v inK lim hx fresh room hq
  obtain ⟨oc, od, kV, doc, pm, an, cdv, ct, osl, rfl, lk, hcd⟩ := F.ex
  refine Att.call_fn (binds := [("self", .ref x), ("value", v)]) inK lim lk hcd room (BindsTo.of_eq (by first | rfl | with_unfolding_all rfl)) (by first | rfl | decide) (fun s₁ IC => ?_) rfl rfl rfl
  obtain ⟨h₁, tk₁, rfl⟩ := IC.toInCall.same
  have k := IC.toInCall.keep
  have hn := IC.toInCall.ns
  have inK₁ : K.In h₁ := inK.keeps k
  have hx₁ := k _ _ hx
  show wpAny _ _ (execs _ _) _ _ _
  refine wpAny_execs_cons (plainObj_wpAny_Assign_Attribute ?_)
  refine wpAny_Name (wpAny_loadName_local (v := v) (by rfl) (by rfl) hn (by first | rfl | with_unfolding_all rfl | kernel_rfl) ?_) (by decide)
  refine wpAny_Name (wpAny_loadName_local (v := .ref x) (by rfl) (by rfl) hn (by first | rfl | with_unfolding_all rfl | kernel_rfl) ?_) (by decide)
  refine PySem.W.set_plain inK₁ (ox := PySem.W.excObj C t0 none .none) (od := none) ⟨hx₁, rfl, rfl, trivial⟩ T.sa ?_
  refine exc_storeX PySem.F.store_IndexError inK₁ hx₁ T.over T.tak T.hdC (fun h₃ tk₃ dx k₃ dn dne hx₃ hn₃ => ?_)
  show wpAny _ _ (execs _ _) _ _ _
  exact wpAny_execs_nil (hq h₃ tk₃ dx ⟨fun b o hb e => k₃ b o hb (k b o e), hx₃, Nat.le_of_lt (Nat.lt_of_lt_of_le hn.lt dn), dne, hn₃⟩)
abbrev s_Kinds_init : Stmt := inClass (topS 28) 0
theorem sc_Kinds_init : FnScope ["self", "leaf", "makings", "name"] ["self", "leaf", "makings"] (defScope s_Kinds_init) := ⟨rfl, rfl, rfl, by decide +kernel, rfl, by decide +kernel, by decide +kernel⟩
abbrev s_Kinds_from_lines : Stmt := inClass (topS 28) 1
theorem sc_Kinds_from_lines : FnScope ["cls", "lines", "told", "makings", "place"] ["cls", "lines"] (defScope s_Kinds_from_lines) := ⟨rfl, rfl, rfl, by decide +kernel, rfl, by decide +kernel, by decide +kernel⟩
abbrev s_Kinds_leaf : Stmt := inClass (topS 28) 2
theorem sc_Kinds_leaf : FnScope ["self"] ["self"] (defScope s_Kinds_leaf) := ⟨rfl, rfl, rfl, by decide +kernel, rfl, by decide +kernel, by decide +kernel⟩
abbrev s_Kinds_makings : Stmt := inClass (topS 28) 3
theorem sc_Kinds_makings : FnScope ["self"] ["self"] (defScope s_Kinds_makings) := ⟨rfl, rfl, rfl, by decide +kernel, rfl, by decide +kernel, by decide +kernel⟩
abbrev s_Kinds_names : Stmt := inClass (topS 28) 4
theorem sc_Kinds_names : FnScope ["self"] ["self"] (defScope s_Kinds_names) := ⟨rfl, rfl, rfl, by decide +kernel, rfl, by decide +kernel, by decide +kernel⟩
abbrev s_Kinds_lines : Stmt := inClass (topS 28) 5
theorem sc_Kinds_lines : FnScope ["self", "made", "name"] ["self"] (defScope s_Kinds_lines) := ⟨rfl, rfl, rfl, by decide +kernel, rfl, by decide +kernel, by decide +kernel⟩
abbrev s_Kinds_contains : Stmt := inClass (topS 28) 9
theorem sc_Kinds_contains : FnScope ["self", "value"] ["self", "value"] (defScope s_Kinds_contains) := ⟨rfl, rfl, rfl, by decide +kernel, rfl, by decide +kernel, by decide +kernel⟩
abbrev s_Kinds_getitem : Stmt := inClass (topS 28) 10
theorem sc_Kinds_getitem : FnScope ["self", "name"] ["self", "name"] (defScope s_Kinds_getitem) := ⟨rfl, rfl, rfl, by decide +kernel, rfl, by decide +kernel, by decide +kernel⟩
abbrev s_Kinds_len : Stmt := inClass (topS 28) 12
theorem sc_Kinds_len : FnScope ["self"] ["self"] (defScope s_Kinds_len) := ⟨rfl, rfl, rfl, by decide +kernel, rfl, by decide +kernel, by decide +kernel⟩
abbrev s_Kinds_eq : Stmt := inClass (topS 28) 13
theorem sc_Kinds_eq : FnScope ["self", "other"] ["self", "other"] (defScope s_Kinds_eq) := ⟨rfl, rfl, rfl, by decide +kernel, rfl, by decide +kernel, by decide +kernel⟩
abbrev s_Kinds_str : Stmt := inClass (topS 28) 14
theorem sc_Kinds_str : FnScope ["self"] ["self"] (defScope s_Kinds_str) := ⟨rfl, rfl, rfl, by decide +kernel, rfl, by decide +kernel, by decide +kernel⟩
/-- the class Kinds as the top has made it -/
structure Cl_Kinds (K : PySem.W.Frag) (mg : Str → Option Value) (C : Addr) : Prop where
  gC : mg "Kinds" = some (.ref C)
  cl : Cls K C
  n_leaf : NoAttr K C "_leaf"
  n_makings : NoAttr K C "_makings"
  n_names : NoAttr K C "_names"
  made : ∃ f fd, Mk K C f ∧ Fun K "__init__" "Kinds.__init__" s_Kinds_init f fd ∧ Binds K fd ["self", "leaf", "makings"] []
  p_leaf : PropD K C "leaf" "Kinds.leaf" s_Kinds_leaf
  p_makings : PropD K C "makings" "Kinds.makings" s_Kinds_makings
  p_names : PropD K C "names" "Kinds.names" s_Kinds_names
  p_lines : PropD K C "lines" "Kinds.lines" s_Kinds_lines
  m_contains : DefM K C "__contains__" "Kinds.__contains__" s_Kinds_contains ["self", "value"]
  m_getitem : DefM K C "__getitem__" "Kinds.__getitem__" s_Kinds_getitem ["self", "name"]
  m_len : DefM K C "__len__" "Kinds.__len__" s_Kinds_len ["self"]
  m_eq : DefM K C "__eq__" "Kinds.__eq__" s_Kinds_eq ["self", "other"]
  m_str : DefM K C "__str__" "Kinds.__str__" s_Kinds_str ["self"]
  k_from_lines : ClsMdS K C "from_lines" "Kinds.from_lines" s_Kinds_from_lines ["cls"] "lines"
  ne : PySem.W.findIn K (.ref C) "__ne__" = some (some (.builtin "object.__ne__"))
  ob : PySem.W.mroIn K C (.type "object") = some true
  kit : PySem.W.kitOne K (.ref C) (.ref C) = some true
  kitT : PySem.W.kitOne K (.type "tuple") (.ref C) = some false
  kitD : PySem.W.kitOne K (.type "dict") (.ref C) = some false
  kitR : PySem.W.kitOne K (.ref C) (.type "tuple") = some false
  kitS : PySem.W.kitOne K (.ref C) (.type "str") = some false
  kit_NoneType : PySem.W.kitOne K (.type "NoneType") (.ref C) = some false
  kit_int : PySem.W.kitOne K (.type "int") (.ref C) = some false
  kit_bool : PySem.W.kitOne K (.type "bool") (.ref C) = some false
  kit_str : PySem.W.kitOne K (.type "str") (.ref C) = some false
  kit_list : PySem.W.kitOne K (.type "list") (.ref C) = some false
  ca : PySem.W.findIn K (.ref C) "__class__" = some (some (.builtin "object.__class__"))
  cg : PySem.W.specialIn K (.builtin "object.__class__") "__get__" = some (some (.builtin "getset_descriptor.__get__"))
  ct : PySem.W.takesIn K (.builtin "object.__class__") = some true
/-- what the walk asks of the top -/
structure Top (K : PySem.W.Frag) (mg : Str → Option Value) : Prop where
  b_IndexError : mg "IndexError" = none
  b_KeyError : mg "KeyError" = none
  b_TypeError : mg "TypeError" = none
  b_ValueError : mg "ValueError" = none
  b_abs : mg "abs" = none
  b_all : mg "all" = none
  b_bool : mg "bool" = none
  b_classmethod : mg "classmethod" = none
  b_dict : mg "dict" = none
  b_enumerate : mg "enumerate" = none
  b_int : mg "int" = none
  b_isinstance : mg "isinstance" = none
  b_len : mg "len" = none
  b_list : mg "list" = none
  b_max : mg "max" = none
  b_min : mg "min" = none
  b_property : mg "property" = none
  b_range : mg "range" = none
  b_repr : mg "repr" = none
  b_set : mg "set" = none
  b_sorted : mg "sorted" = none
  b_str : mg "str" = none
  b_tuple : mg "tuple" = none
  g_MAX_LETTERS : ∃ t, mg "MAX_LETTERS" = some (.int 8 t)
  g__TOO_LONG : ∃ t, mg "_TOO_LONG" = some (.int 1000000000000000000000000000000000000000000000000000000000000 t)
  g_MAX_KINDS : ∃ t, mg "MAX_KINDS" = some (.int 6 t)
  g_MAX_PARTS : ∃ t, mg "MAX_PARTS" = some (.int 3 t)
  d_wall : Def K mg "_wall" "_wall" s_wall ["k"]
  d_is_integer : Def K mg "is_integer" "is_integer" s_is_integer ["value"]
  d_is_count : Def K mg "is_count" "is_count" s_is_count ["value"]
  d_is_name : Def K mg "is_name" "is_name" s_is_name ["value"]
  d_is_sorted : DefK K mg "is_sorted" "is_sorted" s_is_sorted ["value", "most"] 1 ["most"]
  d_words_of : Def K mg "words_of" "words_of" s_words_of ["line"]
  d_names_in : DefK K mg "names_in" "names_in" s_names_in ["text", "most"] 1 ["most"]
  d_text_of : Def K mg "text_of" "text_of" s_text_of ["names"]
  d_told_by : Def K mg "told_by" "told_by" s_told_by ["lines", "tell"]
  d_is_making : Def K mg "_is_making" "_is_making" s_is_making ["value"]
  d_all_names : Def K mg "_all_names" "_all_names" s_all_names ["leaf", "makings"]
  d_are_kinds : Def K mg "_are_kinds" "_are_kinds" s_are_kinds ["leaf", "makings"]
  d_leaf_in : Def K mg "_leaf_in" "_leaf_in" s_leaf_in ["line"]
  d_making_in : Def K mg "_making_in" "_making_in" s_making_in ["line"]
  d_kinds_line : Def K mg "kinds_line" "kinds_line" s_kinds_line ["line"]
  d_law_dice : Def K mg "_law_dice" "_law_dice" s_law_dice ["_law_script", "_law_spot"]
  d_law_roll : Def K mg "_law_roll" "_law_roll" s_law_roll ["_law_dice_here", "_law_total"]
  d_law_pick : Def K mg "_law_pick" "_law_pick" s_law_pick ["_law_dice_here", "_law_items"]
  d_law_mixed : Def K mg "_law_mixed" "_law_mixed" s_law_mixed ["_law_dice_here", "_law_items"]
  d_law_kinds : Def K mg "_law_kinds" "_law_kinds" s_law_kinds ["_law_dice_here", "_law_most"]
  d_law_asked : Def K mg "_law_asked" "_law_asked" s_law_asked ["_law_lines"]
  d_law_told : Def K mg "_law_told" "_law_told" s_law_told ["_law_lines"]
  d_law_is_name : Def K mg "_law_is_name" "_law_is_name" s_law_is_name ["_law_word"]
  d_law_making : Def K mg "_law_making" "_law_making" s_law_making ["_law_word"]
  d_law_read : Def K mg "_law_read" "_law_read" s_law_read ["_law_lines"]
  d_law_other_line : Def K mg "_law_other_line" "_law_other_line" s_law_other_line ["_law_dice_here", "_law_line"]
  d_law_bent : Def K mg "_law_bent" "_law_bent" s_law_bent ["_law_dice_here", "_law_lines"]
  d_law_is_due : Def K mg "_law_is_due" "_law_is_due" s_law_is_due ["_law_told_here", "_law_due"]
  d_law_right : Def K mg "_law_right" "_law_right" s_law_right ["_law_dice_here"]
  c_Kinds : ∃ C, Cl_Kinds K mg C
  p_InvalidKinds : ∃ C, XPln K mg "InvalidKinds" "ValueError.__new__" "ValueError.__init__" [.type "ValueError", .type "Exception", .type "BaseException", .type "object"] C ∧ XCls K C ∧ PySem.W.exmOne K (.ref C) (.ref C) = some true
  x_ParseError : XDef_ParseError K mg
  x_UnknownName : XDef_UnknownName K mg
  x_InvalidNumber : XDef_InvalidNumber K mg
end Kl

set_option maxRecDepth 100000
set_option maxHeartbeats 4000000
namespace Kl
open PySem PySem.Spec PyProof.Rows L2 Gx Mx
section
variable {P : Program} {w : World} {K : PySem.W.Frag} {mg : Str → Option Value} {base : Heap}
/-! ### kinds of values -/
theorem tyx_same {H H' : Hp} (sm : Same H H') {v : V} {t : Value} (h : TyX K H v t) : TyX K H' v t := by
  cases h with
  | base b =>
    cases b with
    | non => exact .base .non
    | bl x => exact .base (.bl x)
    | int i => exact .base (.int i)
    | str x => exact .base (.str x)
    | flt x => exact .base (.flt x)
    | lst e => exact .base (.lst (sm _ _ e))
    | frz e => exact .base (.frz (sm _ _ e))
    | tup e => exact .base (.tup (sm _ _ e))
    | dK e => exact .base (.dK (sm _ _ e))
    | dT e => exact .base (.dT (sm _ _ e))
    | ins e cl ha hn htk hm => exact .base (.ins (sm _ _ e) cl ha hn htk hm)
  | byt b => exact .byt b
  | set e => exact .set (sm _ _ e)
  | kList e c => exact .kList e c
  | kTuple e c => exact .kTuple e c
  | kDict e c => exact .kDict e c
  | fTuple e => exact .fTuple (sm _ _ e)
  | fDict e => exact .fDict (sm _ _ e)
/-- the value is no instance of this built-in class -/
def Not (K : PySem.W.Frag) (H : Hp) (v : V) (T : String) : Prop := ∃ t, TyX K H v t ∧ PySem.W.kitOne K t (.type T) = some false
theorem Not.same {H H' : Hp} (sm : Same H H') {v : V} {T : String} (h : Not K H v T) : Not K H' v T := by
  obtain ⟨t, a, b⟩ := h
  exact ⟨t, tyx_same sm a, b⟩
/-- text, or not -/
def NameArg (K : PySem.W.Frag) (H : Hp) (v : V) : Prop := (∃ z : Str, v = .str z ∧ z.length ≤ sizeLine) ∨ ((∀ z, v ≠ .str z) ∧ Not K H v "str")
theorem NameArg.same {H H' : Hp} (sm : Same H H') {v : V} (h : NameArg K H v) : NameArg K H' v := by
  rcases h with h | ⟨a, b⟩
  · exact .inl h
  · exact .inr ⟨a, b.same sm⟩
/-- int, truth, or neither -/
def IntArg (K : PySem.W.Frag) (H : Hp) (v : V) : Prop := (∃ i, v = .int i) ∨ (∃ b, v = .bl b) ∨ ((∀ i, v ≠ .int i) ∧ Not K H v "int")
theorem IntArg.same {H H' : Hp} (sm : Same H H') {v : V} (h : IntArg K H v) : IntArg K H' v := by
  rcases h with h | h | ⟨a, b⟩
  · exact .inl h
  · exact .inr (.inl h)
  · exact .inr (.inr ⟨a, b.same sm⟩)
/-! ### is_integer, is_count -/
def TEN60 : Int := 1000000000000000000000000000000000000000000000000000000000000
def intV : V → Bool
  | .int i => decide (-TEN60 < i) && decide (i < TEN60)
  | _ => false
def cntV : V → Bool
  | .int i => (decide (-TEN60 < i) && decide (i < TEN60)) && decide (0 ≤ i)
  | _ => false
def spInt (K : PySem.W.Frag) : Sp := fun vs H Q _ => ∃ v : V, vs = [v] ∧ IntArg K H v ∧ Q (.bl (intV v)) H
theorem ok_int {f : Addr} {fd : FuncData} (F : Fun K "is_integer" "is_integer" s_is_integer f fd) (T : Top K mg) : FnOk P w K mg base CX0 1 f fd ["value"] (spInt K) := by
  obtain ⟨tm, gm⟩ := T.g__TOO_LONG
  refine F.ok sc_is_integer (fun vs H Q E h => ?_) (fun cdv A outer s H vs Q E hr h => ?_)
  · obtain ⟨v, rfl, _⟩ := h
    rfl
  · obtain ⟨v, rfl, hv, q⟩ := h
    refine ⟨_, pss_cons (ps_if (PW.pt (pw_or (pt_not (pt_val (pe_callB call_isi (by rfl) T.b_isinstance (by decide +kernel) (pa_cons (pv 0) (pa_cons (pe_bltn (v := .ty "int") (by rfl) T.b_int (by decide +kernel) rfl) pa_nil)))))
          (pw_or1 (pt_val (pe_callB call_isi (by rfl) T.b_isinstance (by decide +kernel) (pa_cons (pv 0) (pa_cons (pe_bltn (v := .ty "bool") (by rfl) T.b_bool (by decide +kernel) rfl) pa_nil)))))))
        (pss_one (ps_ret pe_bl)) pss_nil)
      (pss_one (ps_ret (pe_chain op_lt op_lt (pe_un un_neg (pe_glob (v := .int TEN60) (by rfl) gm ⟨_, rfl⟩)) (pv 0) (pe_glob (v := .int TEN60) (by rfl) gm ⟨_, rfl⟩)))), ?_⟩
    rcases hv with ⟨i, rfl⟩ | ⟨b, rfl⟩ | ⟨hn, t, ht, hk⟩
    · refine ⟨_, rfl, _, .ty "int", .type "int", .type "int", true, rfl, .ty _, .base (.int i), kit_ty (by decide +kernel), true, rfl, ?_⟩
      refine ⟨_, rfl, _, .ty "bool", .type "int", .type "bool", false, rfl, .ty _, .base (.int i), kit_ty (by decide +kernel), false, rfl, ?_⟩
      refine ⟨_, rfl, _, rfl, _, _, rfl, rfl, _, rfl, ?_⟩
      have q' : Q (.bl (decide (-TEN60 < i) && decide (i < TEN60))) H := q
      cases e : decide (-TEN60 < i) with
      | false =>
        rw [e] at q'
        exact q'
      | true =>
        rw [e] at q'
        exact ⟨_, _, rfl, rfl, q'⟩
    · refine ⟨_, rfl, _, .ty "int", .type "bool", .type "int", true, rfl, .ty _, .base (.bl b), kit_ty (by decide +kernel), true, rfl, ?_⟩
      exact ⟨_, rfl, _, .ty "bool", .type "bool", .type "bool", true, rfl, .ty _, .base (.bl b), kit_ty (by decide +kernel), true, rfl, q⟩
    · refine ⟨_, rfl, _, .ty "int", t, .type "int", false, rfl, .ty _, ht, hk, false, rfl, ?_⟩
      have e : intV v = false := by
        cases v with
        | int i => exact absurd rfl (hn i)
        | _ => rfl
      rw [e] at q
      exact q
def spCnt (K : PySem.W.Frag) : Sp := fun vs H Q _ => ∃ v : V, vs = [v] ∧ IntArg K H v ∧ Q (.bl (cntV v)) H
theorem ok_cnt {f : Addr} {fd : FuncData} (F : Fun K "is_count" "is_count" s_is_count f fd) (T : Top K mg) : FnOk P w K mg base CX0 2 f fd ["value"] (spCnt K) := by
  have ci : Cal P w K mg base 1 "is_integer" ["value"] (spInt K) := T.d_is_integer.cal fun f fd F => ok_int F T
  refine F.ok sc_is_count (fun vs H Q E h => ?_) (fun cdv A outer s H vs Q E hr h => ?_)
  · obtain ⟨v, rfl, _⟩ := h
    rfl
  · obtain ⟨v, rfl, hv, q⟩ := h
    refine ⟨_, pss_one (ps_ret (pe_and (pe_cal ci hr (by rfl) (pa_cons (pv 0) pa_nil)) (pe_one (pe_cmpR op_ge (pv 0) pe_int (nomark _))))), ?_⟩
    refine ⟨_, rfl, v, rfl, hv, _, rfl, ?_⟩
    cases v with
    | int i =>
      have q' : Q (.bl (intV (.int i) && decide (0 ≤ i))) H := q
      cases e : intV (.int i) with
      | false =>
        rw [e] at q'
        exact q'
      | true =>
        rw [e] at q'
        exact ⟨_, rfl, _, _, rfl, rfl, q'⟩
    | _ => exact q
/-! ### is_name -/
def nameV : V → Bool
  | .str z => nameB z
  | _ => false
def spName (K : PySem.W.Frag) : Sp := fun vs H Q _ => ∃ v : V, vs = [v] ∧ NameArg K H v ∧ Q (.bl (nameV v)) H
theorem nameV_no {v : V} (h : ∀ z, v ≠ .str z) : nameV v = false := by
  cases v with
  | str z => exact absurd rfl (h z)
  | _ => rfl
theorem ok_name {f : Addr} {fd : FuncData} (F : Fun K "is_name" "is_name" s_is_name f fd) (T : Top K mg) : FnOk P w K mg base CX0 1 f fd ["value"] (spName K) := by
  obtain ⟨tm, gm⟩ := T.g_MAX_LETTERS
  refine F.ok sc_is_name (fun vs H Q E h => ?_) (fun cdv A outer s H vs Q E hr h => ?_)
  · obtain ⟨v, rfl, _⟩ := h
    rfl
  · obtain ⟨v, rfl, hv, q⟩ := h
    refine ⟨_, pss_cons (ps_if (PW.pt (pw_or (pt_not (pt_val (pe_callB call_isi (by rfl) T.b_isinstance (by decide +kernel) (pa_cons (pv 0) (pa_cons (pe_bltn (v := .ty "str") (by rfl) T.b_str (by decide +kernel) rfl) pa_nil)))))
          (pw_or1 (pt_not (pt_chain op_le op_le pe_int (pe_callB call_len_str (by rfl) T.b_len PySem.boot_len (pa_cons (pv 0) pa_nil)) (pe_glob (v := .int 8) (by rfl) gm ⟨_, rfl⟩))))))
        (pss_one (ps_ret pe_bl)) pss_nil)
      (pss_one (ps_ret (pe_and (pe_m0 PySem.F.slot_str_isascii PySem.F.type_str_isascii mt_isascii (pv 0))
        (pe_and (pe_m0 PySem.F.slot_str_isalpha PySem.F.type_str_isalpha mt_isalpha (pv 0)) (pe_one (pe_m0 PySem.F.slot_str_islower PySem.F.type_str_islower mt_islower (pv 0))))))), ?_⟩
    rcases hv with ⟨z, rfl, hz⟩ | ⟨hn, t, ht, hk⟩
    · have q' : Q (.bl (nameB z)) H := q
      refine ⟨_, rfl, _, .ty "str", .type "str", .type "str", true, rfl, .ty _, .base (.str z), kit_ty (by decide +kernel), true, rfl, ?_⟩
      refine ⟨_, rfl, _, rfl, hz, _, _, rfl, rfl, _, rfl, ite2 (fun e1 => ?_) (fun e1 => ?_)⟩
      · have h1 : 1 ≤ z.cps.size := by
          have e2 : (1 : Int) ≤ (z.length : Int) := of_decide_eq_true e1
          have e3 : z.length = z.cps.size := rfl
          omega
        refine ⟨_, _, rfl, rfl, _, rfl, ?_⟩
        have e3 : decide ((z.length : Int) ≤ 8) = decide (z.cps.size ≤ 8) := decide_eq_decide.mpr (by
          have e3 : z.length = z.cps.size := rfl
          omega)
        by_cases h8 : z.cps.size ≤ 8
        · have e4 : decide ((z.length : Int) ≤ 8) = true := e3.trans (decide_eq_true h8)
          rw [e4]
          have e5 : nameB z = (Txt.isascii z && (Txt.isalpha z && Txt.islower z)) := by
            rw [name_by z h1]
            unfold nameB
            rw [decide_eq_true h1, decide_eq_true h8, Bool.true_and, Bool.true_and]
          rw [e5] at q'
          refine ⟨_, rfl, ⟨_, rfl⟩, z, rfl, rfl, trivial, _, rfl, ?_⟩
          cases a1 : Txt.isascii z with
          | false =>
            rw [a1] at q'
            exact q'
          | true =>
            rw [a1] at q'
            refine ⟨_, rfl, ⟨_, rfl⟩, z, rfl, rfl, trivial, _, rfl, ?_⟩
            cases a2 : Txt.isalpha z with
            | false =>
              rw [a2] at q'
              exact q'
            | true =>
              rw [a2] at q'
              exact ⟨_, rfl, ⟨_, rfl⟩, z, rfl, rfl, trivial, q'⟩
        · have e4 : decide ((z.length : Int) ≤ 8) = false := e3.trans (decide_eq_false h8)
          rw [e4]
          show Q (.bl false) H
          have e5 : nameB z = false := by
            unfold nameB
            rw [decide_eq_false h8, Bool.and_false, Bool.false_and]
          rw [← e5]
          exact q'
      · have h1 : ¬ 1 ≤ z.cps.size := fun h => e1 (decide_eq_true (by
          have e3 : z.length = z.cps.size := rfl
          omega))
        refine ⟨_, rfl, ?_⟩
        show Q (.bl false) H
        have e5 : nameB z = false := by
          unfold nameB
          rw [decide_eq_false h1, Bool.false_and, Bool.false_and]
        rw [← e5]
        exact q'
    · refine ⟨_, rfl, _, .ty "str", t, .type "str", false, rfl, .ty _, ht, hk, false, rfl, ?_⟩
      rw [nameV_no hn] at q
      exact q
end
end Kl

set_option maxRecDepth 100000
set_option maxHeartbeats 4000000
namespace Kl
open PySem PySem.Spec PyProof.Rows L2 Gx Mx
/-! ### kinds and their makings: the mathematics -/
abbrev Mak := List (Str × List Str)
/-- all names (in the place of a list of drawn ones) -/
structure Nms where
instance : Membership Str Nms := ⟨fun _ z => nameB z = true⟩
def POOL : Nms := ⟨⟩
theorem pool_name {z : Str} (h : z ∈ POOL) : nameB z = true := h
theorem in_pool {z : Str} (h : nameB z = true) : z ∈ POOL := h
theorem pool_len {z : Str} (h : z ∈ POOL) : z.length ≤ 8 := by
  have h : nameB z = true := h
  unfold nameB at h
  simp only [Bool.and_eq_true, decide_eq_true_eq] at h
  exact h.1.2
def keysOf (M : Mak) : List Str := M.map (·.1)
/-- these are kinds of drawn names -/
structure Vld (leaf : Str) (M : Mak) : Prop where
  lf : leaf ∈ POOL
  keys : ∀ z ∈ keysOf M, z ∈ POOL
  nd : (keysOf M).Nodup
  parts : ∀ m ∈ M, sortedS m.2 = true ∧ 2 ≤ m.2.length ∧ m.2.length ≤ 3 ∧ ∀ p ∈ m.2, p = leaf ∨ p ∈ keysOf M
  few : ∀ ns : List Str, ns.Nodup → (∀ z ∈ ns, z = leaf ∨ z ∈ keysOf M) → ns.length ≤ 6
theorem Vld.part {leaf : Str} {M : Mak} (v : Vld leaf M) {m : Str × List Str} (hm : m ∈ M) {p : Str} (hp : p ∈ m.2) : p ∈ POOL := by
  rcases (v.parts m hm).2.2.2 p hp with rfl | h
  · exact v.lf
  · exact v.keys p h
theorem Vld.len {leaf : Str} {M : Mak} (v : Vld leaf M) : M.length ≤ 6 := by
  have h := v.few (keysOf M) v.nd fun z hz => .inr hz
  unfold keysOf at h
  rw [List.length_map] at h
  exact h
/-- the ascending names of kinds -/
structure IsNames (leaf : Str) (ks ns : List Str) : Prop where
  srt : sortedS ns = true
  nd : ns.Nodup
  mem : ∀ z, z ∈ ns ↔ z = leaf ∨ z ∈ ks
theorem sorted_same {l m : List Str} (hl : sortedS l = true) (hm : sortedS m = true) (dl : l.Nodup) (dm : m.Nodup) (e : ∀ z, z ∈ l ↔ z ∈ m) : l = m :=
  sortedS_unique ((List.perm_ext_iff_of_nodup dl dm).mpr e) hl hm
theorem IsNames.unique {leaf : Str} {ks ks' ns ms : List Str} (h : IsNames leaf ks ns) (h' : IsNames leaf ks' ms) (e : ∀ z, z ∈ ks ↔ z ∈ ks') : ns = ms :=
  sorted_same h.srt h'.srt h.nd h'.nd fun z => by rw [h.mem, h'.mem, e]
theorem sortedS_sub {l m : List Str} (h : sortedS m = true) (s : l.Sublist m) : sortedS l = true := (sortedS_iff l).mpr (((sortedS_iff m).mp h).sublist s)
/-! ### makings looked up -/
def lookM (M : Mak) (z : Str) : Option (List Str) := (M.find? fun m => decide (m.1 = z)).map (·.2)
theorem lookM_cons (m : Str × List Str) (M : Mak) (z : Str) : lookM (m :: M) z = if m.1 = z then some m.2 else lookM M z := by
  unfold lookM
  rw [List.find?_cons]
  by_cases h : m.1 = z
  · rw [if_pos h, decide_eq_true h]
    rfl
  · rw [if_neg h, decide_eq_false h]
theorem lookM_mem {M : Mak} (nd : (keysOf M).Nodup) {m : Str × List Str} (h : m ∈ M) : lookM M m.1 = some m.2 := by
  induction M with
  | nil => cases h
  | cons x M ih =>
    have nd' : (x.1 :: keysOf M).Nodup := nd
    rw [List.nodup_cons] at nd'
    rw [lookM_cons]
    rcases List.mem_cons.mp h with rfl | h
    · rw [if_pos rfl]
    · rw [if_neg fun e => nd'.1 (by rw [e]; exact List.mem_map.mpr ⟨m, h, rfl⟩)]
      exact ih nd'.2 h
theorem lookM_some {M : Mak} {z : Str} {ps : List Str} (h : lookM M z = some ps) : (z, ps) ∈ M := by
  induction M with
  | nil => cases h
  | cons x M ih =>
    rw [lookM_cons] at h
    by_cases e : x.1 = z
    · rw [if_pos e] at h
      cases h
      rw [← e]
      exact List.mem_cons_self
    · rw [if_neg e] at h
      exact List.mem_cons_of_mem _ (ih h)
theorem lookM_none {M : Mak} {z : Str} : lookM M z = none ↔ z ∉ keysOf M := by
  induction M with
  | nil => exact ⟨(fun _ h => nomatch h), fun _ => rfl⟩
  | cons x M ih =>
    rw [lookM_cons]
    show _ ↔ z ∉ x.1 :: keysOf M
    rw [List.mem_cons, not_or]
    by_cases e : x.1 = z
    · rw [if_pos e]
      exact ⟨(fun h => nomatch h), fun h => absurd e.symm h.1⟩
    · rw [if_neg e, ih]
      exact ⟨fun h => ⟨fun q => e q.symm, h⟩, fun h => h.2⟩
theorem lookM_in {M : Mak} {z : Str} (h : z ∈ keysOf M) : ∃ ps, lookM M z = some ps := by
  cases e : lookM M z with
  | none => exact absurd h (lookM_none.mp e)
  | some ps => exact ⟨ps, rfl⟩
/-- M' is M, ascending by its keys -/
structure OrdOf (M M' : Mak) : Prop where
  srt : sortedS (keysOf M') = true
  nd : (keysOf M').Nodup
  look : ∀ z, lookM M' z = lookM M z
theorem OrdOf.keys {M M' : Mak} (h : OrdOf M M') (z : Str) : z ∈ keysOf M' ↔ z ∈ keysOf M := by
  have e := h.look z
  constructor
  · intro q
    obtain ⟨ps, hp⟩ := lookM_in q
    rw [hp] at e
    cases c : decide (z ∈ keysOf M) with
    | true => exact of_decide_eq_true c
    | false =>
      rw [lookM_none.mpr (of_decide_eq_false c)] at e
      cases e
  · intro q
    obtain ⟨ps, hp⟩ := lookM_in q
    rw [hp] at e
    cases c : decide (z ∈ keysOf M') with
    | true => exact of_decide_eq_true c
    | false =>
      rw [lookM_none.mpr (of_decide_eq_false c)] at e
      cases e
theorem mak_of_keys {M : Mak} (nd : (keysOf M).Nodup) : M = (keysOf M).map fun z => (z, (lookM M z).getD []) := by
  unfold keysOf
  rw [List.map_map]
  refine (List.map_id M).symm.trans (List.map_congr_left fun m hm => ?_)
  show m = (m.1, (lookM M m.1).getD [])
  rw [lookM_mem nd hm]
  rfl
theorem OrdOf.eq {M M' : Mak} (h : OrdOf M M') {ys : List Str} (hs : sortedS ys = true) (hp : ys.Perm (keysOf M)) (nd : (keysOf M).Nodup) : M' = ys.map fun z => (z, (lookM M z).getD []) := by
  have e : keysOf M' = ys := sorted_same h.srt hs h.nd (hp.nodup_iff.mpr nd) fun z => by rw [h.keys, hp.mem_iff]
  rw [mak_of_keys h.nd, e]
  exact List.map_congr_left fun z _ => by rw [h.look]
theorem OrdOf.mk' {M : Mak} {ys : List Str} (hs : sortedS ys = true) (hp : ys.Perm (keysOf M)) (nd : (keysOf M).Nodup) : OrdOf M (ys.map fun z => (z, (lookM M z).getD [])) := by
  have ek : keysOf (ys.map fun z => (z, (lookM M z).getD [])) = ys := by
    unfold keysOf
    rw [List.map_map]
    exact List.map_id ys
  have dy : ys.Nodup := hp.nodup_iff.mpr nd
  refine ⟨by rw [ek]; exact hs, by rw [ek]; exact dy, fun z => ?_⟩
  by_cases h : z ∈ ys
  · have h1 := lookM_mem (M := ys.map fun z => (z, (lookM M z).getD [])) (by rw [ek]; exact dy) (List.mem_map.mpr ⟨z, h, rfl⟩)
    obtain ⟨ps, q⟩ := lookM_in (hp.mem_iff.mp h)
    rw [h1, q]
    rfl
  · rw [lookM_none.mpr (by rw [ek]; exact h), lookM_none.mpr fun q => h (hp.mem_iff.mpr q)]
theorem OrdOf.vld {leaf : Str} {M M' : Mak} (h : OrdOf M M') (v : Vld leaf M) : Vld leaf M' := by
  refine ⟨v.lf, fun z hz => v.keys z ((h.keys z).mp hz), h.nd, fun m hm => ?_, fun ns hn hs => v.few ns hn fun z hz => (hs z hz).imp id (h.keys z).mp⟩
  have e := h.look m.1
  rw [lookM_mem h.nd hm] at e
  obtain ⟨h1, h2, h3, h4⟩ := v.parts (m.1, m.2) (lookM_some e.symm)
  exact ⟨h1, h2, h3, fun p hp => (h4 p hp).imp id (h.keys p).mpr⟩
/-! ### what is told of kinds -/
def lineK (n : Str) (ps : List Str) : Str := (("kind " : Str) ++ n ++ " ") ++ Txt.join "+" ps
def linesK (leaf : Str) (M : Mak) : List Str := (("leaf " : Str) ++ leaf) :: M.map fun m => lineK m.1 m.2
def usersK (M : Mak) (z : Str) : List Str := (M.filter fun m => decide (z ∈ m.2)).map (·.1)
def partedK (ps : List Str) (z : Str) : List Str := ps.take (ps.idxOf z) ++ ps.drop (ps.idxOf z + 1)
/-- the users by the names and the makings in any order -/
theorem users_by {leaf : Str} {M M' : Mak} {ns : List Str} (h : OrdOf M M') (hn : IsNames leaf (keysOf M) ns) (z : Str) : ns.filter (fun u => decide (z ∈ (lookM M u).getD [])) = usersK M' z := by
  have e : usersK M' z = (keysOf M').filter fun u => decide (z ∈ (lookM M u).getD []) := by
    unfold usersK keysOf
    rw [List.filter_map]
    refine congrArg _ (List.filter_congr fun m hm => ?_)
    show decide (z ∈ m.2) = decide (z ∈ (lookM M m.1).getD [])
    rw [← h.look, lookM_mem h.nd hm]
    rfl
  rw [e]
  refine sorted_same (sortedS_sub hn.srt List.filter_sublist) (sortedS_sub h.srt List.filter_sublist) (hn.nd.sublist List.filter_sublist) (h.nd.sublist List.filter_sublist) fun u => ?_
  rw [List.mem_filter, List.mem_filter, hn.mem, h.keys]
  constructor
  · rintro ⟨h1, h2⟩
    refine ⟨?_, h2⟩
    cases c : decide (u ∈ keysOf M) with
    | true => exact of_decide_eq_true c
    | false =>
      rw [lookM_none.mpr (of_decide_eq_false c)] at h2
      exact absurd (of_decide_eq_true h2) (by simp)
  · rintro ⟨h1, h2⟩
    exact ⟨.inr h1, h2⟩
/-! ### makings in the heap -/
/-- a tuple in the heap whose object has no dict of its own -/
def TupZ (H : Hp) (a : Addr) (xs : List V) : Prop := ∃ ob : Obj, ob.dict = none ∧ H a = some (.frz ob (.tup xs))
theorem TupZ.sq {K : PySem.W.Frag} {H : Hp} {a : Addr} {xs : List V} (h : TupZ H a xs) : SqT K H a xs := by
  obtain ⟨ob, _, e⟩ := h
  exact .inl (.inr ⟨ob, e⟩)
theorem TupZ.ty {K : PySem.W.Frag} {H : Hp} {a : Addr} {xs : List V} (h : TupZ H a xs) : TyX K H (.ref a) (.type "tuple") := by
  obtain ⟨ob, _, e⟩ := h
  exact .fTuple e
theorem TupZ.at {H H' : Hp} {a : Addr} {xs : List V} (h : TupZ H a xs) (s : ∀ o, H a = some o → H' a = some o) : TupZ H' a xs := by
  obtain ⟨ob, d, e⟩ := h
  exact ⟨ob, d, s _ e⟩
theorem TupZ.mono {H H' : Hp} {a : Addr} {xs : List V} (h : TupZ H a xs) (s : Same H H') : TupZ H' a xs := h.at fun o e => s _ _ e
theorem TupZ.ne {H : Hp} {a b : Addr} {xs : List V} (h : TupZ H a xs) {o : HO} (e : H b = some o) (n : ∀ ob, o ≠ .frz ob (.tup xs)) : a ≠ b := fun z => by
  obtain ⟨ob, _, q⟩ := h
  rw [z, e] at q
  exact n ob (Option.some.inj q)
def MakAt (H : Hp) (kvs : List (Key × V)) (M : Mak) : Prop := Paired (fun (kv : Key × V) (m : Str × List Str) => kv.1 = Sum.inr m.1 ∧ ∃ a, kv.2 = .ref a ∧ TupZ H a (m.2.map V.str)) kvs M
theorem MakAt.same {H H' : Hp} {kvs : List (Key × V)} {M : Mak} (h : MakAt H kvs M) (s : ∀ a xs, TupZ H a xs → TupZ H' a xs) : MakAt H' kvs M := by
  unfold MakAt at h ⊢
  induction h with
  | nil => exact .nil
  | cons h _ ih =>
    obtain ⟨h1, a, h2, h3⟩ := h
    exact .cons ⟨h1, a, h2, s a _ h3⟩ ih
theorem MakAt.len {H : Hp} {kvs : List (Key × V)} {M : Mak} (h : MakAt H kvs M) : kvs.length = M.length := Paired.length h
theorem MakAt.keys {H : Hp} {kvs : List (Key × V)} {M : Mak} (h : MakAt H kvs M) : kvs.map (·.1) = (keysOf M).map Sum.inr := by
  unfold MakAt at h
  induction h with
  | nil => rfl
  | cons h _ ih =>
    exact congr (congrArg List.cons h.1) ih
theorem MakAt.get {H : Hp} {kvs : List (Key × V)} {M : Mak} (h : MakAt H kvs M) (z : Str) : (lookM M z = none ∧ valV kvs (Sum.inr z) = none) ∨ ∃ ps a, lookM M z = some ps ∧ valV kvs (Sum.inr z) = some (.ref a) ∧ TupZ H a (ps.map V.str) := by
  unfold MakAt at h
  induction h with
  | nil => exact .inl ⟨rfl, rfl⟩
  | @cons kv m kvs M h _ ih =>
    obtain ⟨h1, a, h2, h3⟩ := h
    rw [lookM_cons]
    by_cases e : m.1 = z
    · rw [if_pos e, valV_pos (by rw [h1, e])]
      exact .inr ⟨m.2, a, rfl, by rw [h2], h3⟩
    · rw [if_neg e, valV_neg (by rw [h1]; exact fun q => e (Sum.inr.inj q))]
      exact ih
theorem MakAt.at {H : Hp} {kvs : List (Key × V)} {M : Mak} (h : MakAt H kvs M) {i : Nat} {k : Key} {v : V} (e : kvs[i]? = some (k, v)) : ∃ m a, M[i]? = some m ∧ k = Sum.inr m.1 ∧ v = .ref a ∧ TupZ H a (m.2.map V.str) := by
  unfold MakAt at h
  induction h generalizing i with
  | nil => cases e
  | @cons kv m kvs M h _ ih =>
    cases i with
    | zero =>
      cases e
      obtain ⟨h1, a, h2, h3⟩ := h
      exact ⟨m, a, rfl, h1, h2, h3⟩
    | succ i => exact ih e
theorem MakAt.key {H : Hp} {kvs : List (Key × V)} {M : Mak} (h : MakAt H kvs M) {z : Str} (hz : z ∈ keysOf M) : ∃ ps a, lookM M z = some ps ∧ valV kvs (Sum.inr z) = some (.ref a) ∧ TupZ H a (ps.map V.str) := by
  rcases h.get z with ⟨e, _⟩ | h
  · exact absurd hz (lookM_none.mp e)
  · exact h
/-- kinds with this leaf and these makings stand at x, their dict at md, their names ns -/
def KindsAt (C : Addr) (H : Hp) (x md : Addr) (leaf : Str) (M : Mak) (ns : List Str) : Prop :=
  ∃ dx nt kvs, H x = some (.ins C dx [("_leaf", .str leaf), ("_makings", .ref md), ("_names", .ref nt)]) ∧ H md = some (.dK kvs) ∧ MakAt H kvs M ∧ H nt = some (.tup (ns.map V.str))
theorem KindsAt.keep {C : Addr} {H H' : Hp} {x md e : Addr} {leaf : Str} {M : Mak} {ns : List Str} (h : KindsAt C H x md leaf M ns) (s : ∀ b o, b ≠ e → H b = some o → H' b = some o) (n1 : x ≠ e) (n2 : md ≠ e) (n3 : ∀ xs, H e ≠ some (.tup xs)) (n4 : ∀ xs, ¬ TupZ H e xs) : KindsAt C H' x md leaf M ns := by
  obtain ⟨dx, nt, kvs, h1, h2, h3, h4⟩ := h
  have t : ∀ a xs, H a = some (.tup xs) → H' a = some (.tup xs) := fun a xs q => s a _ (fun z => n3 xs (z ▸ q)) q
  exact ⟨dx, nt, kvs, s _ _ n1 h1, s _ _ n2 h2, h3.same fun a xs q => q.at fun o e' => s _ _ (fun z => n4 xs (z ▸ q)) e', t _ _ h4⟩
theorem KindsAt.same {C : Addr} {H H' : Hp} {x md : Addr} {leaf : Str} {M : Mak} {ns : List Str} (h : KindsAt C H x md leaf M ns) (s : Same H H') : KindsAt C H' x md leaf M ns := by
  obtain ⟨dx, nt, kvs, h1, h2, h3, h4⟩ := h
  exact ⟨dx, nt, kvs, s _ _ h1, s _ _ h2, h3.same fun a xs q => q.mono s, s _ _ h4⟩
end Kl

set_option maxRecDepth 100000
set_option maxHeartbeats 4000000
namespace Gx
open PySem PySem.Spec PyProof.Rows L2
/-- the name x is a def called with n values by position and keywords ks, that keeps sp and raises nothing -/
def CalO (P : Program) (w : World) (K : PySem.W.Frag) (mg : Str → Option Value) (base : Heap) (k : Nat) (x : Str) (ps : List Str) (n : Nat) (ks : List Str) (gV : List V → List V → List V) (sp : Sp) : Prop :=
  ∃ (f : Addr) (fd : FuncData) (g : List Value → List Value → List Value), FnOk P w K mg base CX0 k f fd ps sp ∧ PySem.W.keepIn K (.ref f) = true ∧ KBn K fd ps n ks g gV ∧ mg x = some (.ref f)
section
variable {P : Program} {w : World} {K : PySem.W.Frag} {mg : Str → Option Value} {base : Heap}
theorem DefK.calO {x qual : Str} {st : Stmt} {ps ks : List Str} {n : Nat} (d : DefK K mg x qual st ps n ks) {k : Nat} {sp : Sp} (h : ∀ f fd, Fun K x qual st f fd → FnOk P w K mg base CX0 k f fd ps sp) : CalO P w K mg base k x ps n ks (fun vs zs => vs ++ zs) sp := by
  obtain ⟨f, fd, F, b, g⟩ := d
  exact ⟨f, fd, _, h f fd F, F.kp, b, g⟩
theorem CalO.mono {x : Str} {ps ks : List Str} {n j k : Nat} {gV : List V → List V → List V} {sp : Sp} (c : CalO P w K mg base j x ps n ks gV sp) (h : j ≤ k) : CalO P w K mg base k x ps n ks gV sp := by
  obtain ⟨f, fd, g, F, more⟩ := c
  exact ⟨f, fd, g, F.mono h, more⟩
end
section
variable {X : Cx}
def tClO (n m : Nat) (sp : Sp) (gV : List V → List V → List V) (t tk : TA) : TE := fun σ H Q => t σ H fun vs H1 => tk σ H1 fun zs H2 => vs.length = n ∧ zs.length = m ∧ sp (gV vs zs) H2 Q E0
theorem pe_calO {x : Str} {ps ks : List Str} {n : Nat} {gV : List V → List V → List V} {sp : Sp} {k : Nat} {e : Expr} {es : List Expr} {kws : List Keyword} {t tk : TA} {p pos : Pos} (c : CalO X.prog X.w X.K X.mg X.base k x ps n ks gV sp) (room : Room k X.A) (hg : Gl X x)
    (h : PA X (e :: es) t) (hk : PK X kws tk) (hall : (backToKw pos (keywordEach kws X.env)).all (·.1.isSome) = true := by rfl) (hks : (backToKw pos (keywordEach kws X.env)).filterMap (·.1) = ks := by rfl)
    (hdb : (x == ("__debug__" : Str)) = false := by decide) (hst : starEach (e :: es) X.env = (false, eval e X.env) :: starEach es X.env := by rfl)
    (hpl : ((backTo pos (starEach (e :: es) X.env)).any (·.1) || (backToKw pos (keywordEach kws X.env)).any (·.1.isNone)) = false := by rfl) :
    PE X (.Call (.Name x p) (e :: es) kws pos) (tClO n ks.length sp gV t tk) := by
  obtain ⟨f, fd, gg, F, kp, b, hm⟩ := c
  refine ⟨fun pins s σ H Q I want => wpAny_Call_Name_kw (ld_glob I hg hm ?_ hdb)⟩
  refine PySem.W.callWith_KW (h₀ := X.base) I.ok.mod.kin kp hall (thn (h.run pos pins s σ H _ I want) ?_) hpl hst
  rintro us s1 ⟨vs, H1, I1, r, q⟩
  refine thn (hk.run pos pins s1 σ H1 _ I1 q) ?_
  rintro ws s2 ⟨zs, H2, I2, rz, l1, l2, q2⟩
  refine ⟨I2.kIn, ?_⟩
  rw [hks]
  have rel := b.rel r rz
  have bt := b.to s2 us ws I2.kIn (r.length.symm.trans l1) (rz.length.symm.trans l2)
  refine wpAny_call (codeAny_mono (F.run X.A X.stack s2 H2 ⟨us, ks.zip ws⟩ _ _ Q E0 room I2.env0 bt rel q2) fun res s' hres => ?_)
  match res, hres with
  | .error e, hres => exact hres.elim
  | .ok (.ret u), hres => exact I2.after hres
end
/-! ### rules within comprehensions, the written part named -/
section
variable {X : Cx} {K : PySem.W.Frag}
theorem pi_tupK {tg l : Expr} {tl : TE} (hk : X.K = K) (hl : PE X l tl) : PI X tg l (iTup K tl) := by
  subst hk
  exact pi_tup hl
theorem pi_listK {tg l : Expr} {tl : TE} (hk : X.K = K) (hl : PE X l tl) : PI X tg l (iList K tl) := by
  subst hk
  exact pi_list hl
theorem op_inSeqK (hk : X.K = K) : OpR X (compareOp .In) (rIn K false) := by
  subst hk
  exact op_in_seq
end
/-- a walk's bookkeeping, whatever its turn does -/
theorem walk_in {J : It} {n : Nat} {G : Hp → Prop} {Y : Nat → Hp → V → Hp → Prop} (w : Walk J n G Y) {H0 : Hp} {Qd : Hp → Prop} {body : V → Hp → (Hp → Prop) → Prop} (Pv : Nat → Hp → Prop) (h0 : Pv 0 H0) (hG : ∀ i H, i ≤ n → Pv i H → G H)
    (hs : ∀ i x H H', i < n → Pv i H → Y i H x H' → body x H' (Pv (i + 1))) (hd : ∀ H, Pv n H → Qd H) :
    ∃ W : Nat → Nat → Hp → Prop, (∃ m, W 0 m H0) ∧ ∀ i m H, W i m H → (J.stop i H ∧ Qd H) ∨ (J.go i H ∧ ∃ Nx : Hp → Prop, (∀ H', Nx H' → ∃ m', m' < m ∧ W (i + 1) m' H') ∧ ∀ x H', J.yld i H x H' → body x H' Nx) := by
  refine ⟨fun i m H => m = n - i ∧ i ≤ n ∧ Pv i H, ⟨n, (Nat.sub_zero n).symm, Nat.zero_le _, h0⟩, ?_⟩
  rintro i m H ⟨rfl, hi, p⟩
  have q := hG i H hi p
  rcases Nat.lt_or_ge i n with lt | ge
  · exact .inr ⟨w.goes i H lt q, Pv (i + 1), fun H' p' => ⟨n - (i + 1), by omega, rfl, lt, p'⟩, fun x H' y => hs i x H H' lt p (w.yields i H x H' lt q y)⟩
  · obtain rfl : i = n := Nat.le_antisymm hi ge
    exact .inl ⟨w.stops H q, hd H p⟩
end Gx
namespace Kl
open PySem PySem.Spec PyProof.Rows L2 Gx Mx
section
variable {P : Program} {w : World} {K : PySem.W.Frag} {mg : Str → Option Value} {base : Heap}
/-! ### is_sorted of texts -/
def spSorted (K : PySem.W.Frag) : Sp := fun vs H Q _ => ∃ (p : Addr) (zs : List Str) (M : Int), vs = [.ref p, .int M] ∧ SqT K H p (zs.map V.str) ∧ TyX K H (.ref p) (.type "tuple") ∧ 0 ≤ M ∧ M ≤ 100 ∧ zs.length ≤ 1000 ∧ (∀ z ∈ zs, z.length ≤ 1000) ∧
  ∀ H', Same H H' → Q (.bl (decide ((zs.length : Int) ≤ M) && (zs.all nameB && sortedS zs))) H'
theorem names_low {z : Str} (h : nameB z = true) : PyData.strOk z = true := by
  unfold nameB at h
  rw [Bool.and_eq_true] at h
  show z.cps.all _ = true
  rw [Array.all_eq_true']
  intro c hc
  have := List.all_eq_true.mp h.2 c (Array.mem_toList_iff.mpr hc)
  exact decide_eq_true (Nat.lt_trans (isLow_lt this) (by decide))
theorem ok_sorted {f : Addr} {fd : FuncData} (F : Fun K "is_sorted" "is_sorted" s_is_sorted f fd) (T : Top K mg) : FnOk P w K mg base CX0 3 f fd ["value", "most"] (spSorted K) := by
  have cc : Cal P w K mg base 2 "is_count" ["value"] (spCnt K) := T.d_is_count.cal fun f fd F => ok_cnt F T
  have cn : Cal P w K mg base 2 "is_name" ["value"] (spName K) := (T.d_is_name.cal fun f fd F => ok_name F T).mono (by decide)
  refine F.ok sc_is_sorted (fun vs H Q E h => ?_) (fun cdv A outer s H vs Q E hr h => ?_)
  · obtain ⟨p, zs, M, rfl, _⟩ := h
    rfl
  · obtain ⟨p, zs, M, rfl, hp, hT, hM, hM2, hlen, hz, hq⟩ := h
    refine ⟨_, pss_cons (ps_if (pt_not (pt_val (pe_cal cc hr (by rfl) (pa_cons (pv 1) pa_nil)))) (pss_one ps_never) pss_nil)
      (pss_cons (ps_if (PW.pt (pw_or (pt_not (pt_val (pe_callB call_isi (by rfl) T.b_isinstance (by decide +kernel) (pa_cons (pv 0) (pa_cons (pe_bltn (v := .ty "tuple") (by rfl) T.b_tuple (by decide +kernel) rfl) pa_nil)))))
          (pw_or1 (pt_cmpR op_gt (pe_callB call_len_seq (by rfl) T.b_len PySem.boot_len (pa_cons (pv 0) pa_nil)) (pv 1) (nomark _))))) (pss_one (ps_ret pe_bl)) pss_nil)
      (pss_cons (ps_if (pt_not (pt_val (pe_callB (cr_all rfl) (by rfl) T.b_all (by decide +kernel) (pa_cons (pe_lc (own := [("name", 2)]) (g := gName 2) (tt := tYes) rfl sc_is_sorted.nd (pi_tup (pv 0))
            (blkOk_by (N := ["value", "most", "name"]) (sc := defScope s_is_sorted) (by decide +kernel))
            (fun _ _ _ _ _ => pg_name (i := 2) sc_is_sorted.nd rfl (.inl rfl)) (fun _ _ _ _ _ => pts_nil) (fun _ _ _ _ _ => pe_cal cn hr (by rfl) (pa_cons (pv 2) pa_nil))) pa_nil)))) (pss_one (ps_ret pe_bl)) pss_nil)
      (pss_one (ps_ret (pe_cmpR (op_eqD hr.units) (pe_callTy call_list_of (by rfl) T.b_list (by decide +kernel) (pa_cons (pv 0) pa_nil)) (pe_callB cr_sortedTS (by rfl) T.b_sorted (by decide +kernel) (pa_cons (pv 0) pa_nil)) (nomark _)))))), ?_⟩
    have hc : cntV (.int M) = true := by
      show ((decide (-TEN60 < M) && decide (M < TEN60)) && decide (0 ≤ M)) = true
      rw [decide_eq_true (show -TEN60 < M by unfold TEN60; omega), decide_eq_true (show M < TEN60 by unfold TEN60; omega), decide_eq_true hM]
      rfl
    refine ⟨_, rfl, .int M, rfl, .inl ⟨M, rfl⟩, _, rfl, ?_⟩
    rw [hc]
    refine ⟨_, rfl, _, .ty "tuple", .type "tuple", .type "tuple", true, rfl, .ty _, hT, kit_ty (by decide +kernel), true, rfl, ?_⟩
    refine ⟨_, rfl, p, _, rfl, .inr hp, _, rfl, _, _, rfl, rfl, _, rfl, ite2 (fun e => ?_) (fun e => ?_)⟩
    · have e1 : decide ((zs.length : Int) ≤ M) = false := decide_eq_false (by
        have := of_decide_eq_true e
        rw [List.length_map] at this
        omega)
      rw [e1, Bool.false_and] at hq
      exact hq H (Same.refl H)
    · have e1 : decide ((zs.length : Int) ≤ M) = true := decide_eq_true (by
        have : ¬ (M < ((zs.map V.str).length : Int)) := fun z => e (decide_eq_true z)
        rw [List.length_map] at this
        omega)
      rw [e1, Bool.true_and] at hq
      refine ⟨_, rfl, p, rfl, ⟨_, hp⟩, fun D hD => ?_⟩
      refine lc_tup (xs := zs.map V.str) (fun j H2 => H2 D = some (.lst ((zs.take j).map fun z => V.bl (nameB z))) ∧ Same H H2) ⟨upd_same, fun b u e => by rw [upd_ne (ne_of_none e hD)]; exact e⟩ (fun j H2 _ hP => ?_) (fun j x H2 hj hP => ?_) (fun H2 hP => ?_)
      · rcases hp with (h | ⟨u, h⟩) | h
        · exact .inl (.inl (hP.2 _ _ h))
        · exact .inl (.inr ⟨u, hP.2 _ _ h⟩)
        · exact .inr h
      · obtain ⟨eD, sm⟩ := hP
        obtain ⟨z, hzj, rfl⟩ : ∃ z, zs[j]? = some z ∧ V.str z = x := by
          rw [List.getElem?_map] at hj
          cases e : zs[j]? with
          | none => rw [e] at hj; cases hj
          | some z => rw [e] at hj; exact ⟨z, rfl, by cases hj; rfl⟩
        refine ⟨rfl, _, rfl, _, rfl, .inl ⟨z, rfl, Nat.le_trans (hz z (List.mem_of_getElem? hzj)) (by decide)⟩, _, eD, ?_, ?_, fun b u e => by rw [upd_ne (ne_of_none e hD)]; exact sm b u e⟩
        · rw [List.length_map, List.length_take]
          exact Nat.lt_of_le_of_lt (Nat.le_trans (Nat.min_le_right _ _) hlen) (by decide)
        · rw [upd_same, List.take_add_one, hzj, List.map_append]
          rfl
      · obtain ⟨eD, sm⟩ := hP
        rw [List.length_map, List.take_length] at eD
        refine ⟨D, zs.map nameB, rfl, .inl (.inl (by rw [eD, List.map_map]; rfl)), _, rfl, ?_⟩
        have ea : (zs.map nameB).all id = zs.all nameB := by rw [List.all_map]; rfl
        rw [ea]
        cases hall : zs.all nameB with
        | false =>
          rw [hall, Bool.false_and] at hq
          exact hq _ sm
        | true =>
          rw [hall, Bool.true_and] at hq
          have hok : ∀ z ∈ zs, PyData.strOk z = true := fun z hz => names_low (List.all_eq_true.mp hall z hz)
          have hp2 : SqT K H2 p (zs.map V.str) := by
            rcases hp with (h | ⟨u, h⟩) | h
            · exact .inl (.inl (sm _ _ h))
            · exact .inl (.inr ⟨u, sm _ _ h⟩)
            · exact .inr h
          refine ⟨_, rfl, p, _, rfl, .inr hp2, fun l nl => ?_⟩
          have sm2 : Same H (upd H2 l (.lst (zs.map V.str))) := fun b u e => by rw [upd_ne (ne_of_none (sm b u e) nl)]; exact sm b u e
          have hp3 : SqT K (upd H2 l (.lst (zs.map V.str))) p (zs.map V.str) := by
            rcases hp with (h | ⟨u, h⟩) | h
            · exact .inl (.inl (sm2 _ _ h))
            · exact .inl (.inr ⟨u, sm2 _ _ h⟩)
            · exact .inr h
          refine ⟨_, rfl, p, zs, rfl, hp3, by omega, fun ys l2 hperm hsrt nl2 => ?_⟩
          refine ⟨.list (tD zs), .list (tD ys), ?_, ?_, shaped_texts hok, shaped_texts (fun z hz => hok z (hperm.mem_iff.mp hz)), ?_⟩
          · exact .lst (.inl (.inl (by rw [upd_ne (ne_of_none upd_same nl2), upd_same]))) (dp_texts zs)
          · exact .lst (.inl (.inl upd_same)) (dp_texts ys)
          · rw [PyData.eqv, eqv_texts, eq_sorted_iff hperm hsrt]
            exact hq _ (fun b u e => by rw [upd_ne (ne_of_none (sm2 b u e) nl2)]; exact sm2 b u e)
/-! ### _is_making of a making -/
def spMaking (K : PySem.W.Frag) : Sp := fun vs H Q _ => ∃ (p : Addr) (zs : List Str), vs = [.ref p] ∧ TupZ H p (zs.map V.str) ∧ zs.all nameB = true ∧ sortedS zs = true ∧ 2 ≤ zs.length ∧ zs.length ≤ 3 ∧ (∀ z ∈ zs, z.length ≤ 1000) ∧ ∀ H', Same H H' → Q (.bl true) H'
theorem ok_making {f : Addr} {fd : FuncData} (F : Fun K "_is_making" "_is_making" s_is_making f fd) (T : Top K mg) : FnOk P w K mg base CX0 4 f fd ["value"] (spMaking K) := by
  obtain ⟨tm, gm⟩ := T.g_MAX_PARTS
  have cs : CalO P w K mg base 3 "is_sorted" ["value", "most"] 1 ["most"] (fun vs zs => vs ++ zs) (spSorted K) := T.d_is_sorted.calO fun f fd F => ok_sorted F T
  refine F.ok sc_is_making (fun vs H Q E h => ?_) (fun cdv A outer s H vs Q E hr h => ?_)
  · obtain ⟨p, zs, rfl, _⟩ := h
    rfl
  · obtain ⟨p, zs, rfl, hp, hn, hs, h2, h3, hz, q⟩ := h
    refine ⟨_, pss_one (ps_ret (pe_and (pe_calO cs hr (by rfl) (pa_cons (pv 0) pa_nil) (pk_cons (pe_glob (v := .int 3) (by rfl) gm ⟨_, rfl⟩) pk_nil))
      (pe_one (pe_cmpR op_ge (pe_callB call_len_seq (by rfl) T.b_len PySem.boot_len (pa_cons (pv 0) pa_nil)) pe_int (nomark _))))), ?_⟩
    refine ⟨_, rfl, rfl, rfl, p, zs, 3, rfl, hp.sq, hp.ty, by decide, by decide, by omega, hz, fun H1 s1 => ⟨_, rfl, ?_⟩⟩
    rw [hn, hs, decide_eq_true (show ((zs.length : Int) ≤ 3) by omega)]
    refine ⟨_, rfl, p, _, rfl, .inr (hp.mono s1).sq, _, _, rfl, rfl, ?_⟩
    have e : decide ((2 : Int) ≤ ((zs.map V.str).length : Int)) = true := decide_eq_true (by rw [List.length_map]; omega)
    show Q (.bl (decide ((2 : Int) ≤ ((zs.map V.str).length : Int)))) H1
    rw [e]
    exact q H1 s1
/-! ### _all_names -/
def spNames : Sp := fun vs H Q _ => ∃ (leaf : Str) (md : Addr) (kvs : List (Key × V)) (ks : List Str), vs = [.str leaf, .ref md] ∧ H md = some (.dK kvs) ∧ kvs.map (·.1) = ks.map Sum.inr ∧ ks.length ≤ 100 ∧
  ∀ (ns : List Str) (p : Addr) (H' : Hp), IsNames leaf ks ns → Same H H' → H p = none → H' p = some (.tup (ns.map V.str)) → Q (.ref p) H'
theorem ok_names {f : Addr} {fd : FuncData} (F : Fun K "_all_names" "_all_names" s_all_names f fd) (T : Top K mg) : FnOk P w K mg base CX0 1 f fd ["leaf", "makings"] spNames := by
  refine F.ok sc_all_names (fun vs H Q E h => ?_) (fun cdv A outer s H vs Q E hr h => ?_)
  · obtain ⟨leaf, md, kvs, ks, rfl, _⟩ := h
    rfl
  · obtain ⟨leaf, md, kvs, ks, rfl, hd, hk, hl, q⟩ := h
    refine ⟨_, pss_one (ps_ret (pe_callTy call_tuple_of (by rfl) T.b_tuple (by decide +kernel) (pa_cons (pe_callB (cr_sortedX rfl) (by rfl) T.b_sorted (by decide +kernel) (pa_cons
      (pe_callTy (cr_setX rfl) (by rfl) T.b_set (by decide +kernel) (pa_cons (pe_lst (pa_cons (pv 0) (pa_starD rfl (pv 1) pa_nil))) pa_nil)) pa_nil)) pa_nil))), ?_⟩
    have ek : (kvs.map fun kv => kV kv.1) = ks.map V.str := by
      have e := congrArg (List.map kV) hk
      rw [List.map_map, List.map_map] at e
      exact e
    have lk : kvs.length = ks.length := by
      have e := congrArg List.length hk
      rw [List.length_map, List.length_map] at e
      exact e
    have e1 : [V.str leaf] ++ ((kvs.map fun kv => kV kv.1) ++ []) = ((leaf :: ks).map V.str) := by rw [List.append_nil, ek]; rfl
    refine ⟨_, rfl, _, rfl, md, kvs, rfl, hd, ?_, fun l nl => ?_⟩
    · show (V.str leaf :: ((kvs.map fun kv => kV kv.1) ++ [])).length ≤ sizeLine
      rw [List.length_cons, List.append_nil, List.length_map]
      exact Nat.le_trans (show kvs.length + 1 ≤ 101 by omega) (by decide)
    have s1 : Same H (upd H l (.lst ((leaf :: ks).map V.str))) := fun b u e => by rw [upd_ne (ne_of_none e nl)]; exact e
    have e2 : upd H l (.lst (V.str leaf :: ((kvs.map fun kv => kV kv.1) ++ []))) = upd H l (.lst ((leaf :: ks).map V.str)) := by rw [← e1]; rfl
    rw [e2]
    generalize hH1 : upd H l (.lst ((leaf :: ks).map V.str)) = H1 at s1
    have h1l : H1 l = some (.lst ((leaf :: ks).map V.str)) := by rw [← hH1, upd_same]
    refine ⟨l, leaf :: ks, rfl, .inl (.inl h1l), by show (leaf :: ks).length ≤ 1000; rw [List.length_cons]; omega, fun a na => ?_⟩
    have s2 : Same H (upd H1 a (SetO' P w a (leaf :: ks))) := fun b u e => by rw [upd_ne (ne_of_none (s1 b u e) na)]; exact s1 b u e
    refine ⟨a, leaf :: ks, rfl, upd_same, by show (leaf :: ks).length ≤ 1000; rw [List.length_cons]; omega, fun ys p hs nd hm np => ?_⟩
    have s3 : Same H (upd (upd H1 a (SetO' P w a (leaf :: ks))) p (.lst (ys.map V.str))) := fun b u e => by rw [upd_ne (ne_of_none (s2 b u e) np)]; exact s2 b u e
    refine ⟨p, ys.map V.str, rfl, .inl ⟨.inl (.inl upd_same), fun t nt => ?_⟩⟩
    refine q ys t _ ⟨hs, nd, fun z => (hm z).trans List.mem_cons⟩ (fun b u e => by rw [upd_ne (ne_of_none (s3 b u e) nt)]; exact s3 b u e) ?_ upd_same
    exact s3.free nt
end
end Kl

set_option maxRecDepth 100000
set_option maxHeartbeats 4000000
namespace Kl
open PySem PySem.Spec PyProof.Rows L2 Gx Mx
section
variable {P : Program} {w : World} {K : PySem.W.Frag} {mg : Str → Option Value} {base : Heap}
theorem flat_strs' (zs : List Str) : (zs.map V.str).all flatV = true := by
  rw [List.all_map]
  exact List.all_eq_true.mpr fun _ _ => rfl
theorem inV_strs (z : Str) (zs : List Str) : inV (.str z) (zs.map V.str) = decide (z ∈ zs) := by
  unfold inV
  rw [List.any_map]
  have e : (fun y => eqV y (V.str z)) ∘ V.str = fun y => decide (y = z) := by
    funext y
    show (y == z) = decide (y = z)
    by_cases h : y = z
    · subst h
      rw [decide_eq_true rfl]
      exact beq_self_eq_true y
    · rw [decide_eq_false h]
      exact beq_eq_false_iff_ne.mpr h
  rw [e, Bool.eq_iff_iff, List.any_eq_true, decide_eq_true_eq]
  constructor
  · rintro ⟨y, hy, q⟩
    rw [← of_decide_eq_true q]
    exact hy
  · intro h
    exact ⟨z, h, decide_eq_true rfl⟩
/-! ### _are_kinds of kinds -/
def spAre : Sp := fun vs H Q _ => ∃ (leaf : Str) (md : Addr) (kvs : List (Key × V)) (M : Mak), vs = [.str leaf, .ref md] ∧ H md = some (.dK kvs) ∧ MakAt H kvs M ∧ Vld leaf M ∧ ∀ H', Same H H' → Q (.bl true) H'
theorem all_true (n : Nat) : (List.replicate n true).all id = true := by
  induction n with
  | zero => rfl
  | succ n ih => rw [List.replicate_succ, List.all_cons, ih]; rfl
theorem rep_snoc (j : Nat) : (List.replicate j (V.bl true)) ++ [V.bl true] = List.replicate (j + 1) (V.bl true) := by
  rw [List.replicate_succ', ]
theorem rep_map (n : Nat) : List.replicate n (V.bl true) = (List.replicate n true).map V.bl := by rw [List.map_replicate]
abbrev NA : List Str := ["leaf", "makings", "names", "name", "part"]
theorem ok_are {f : Addr} {fd : FuncData} (F : Fun K "_are_kinds" "_are_kinds" s_are_kinds f fd) (T : Top K mg) : FnOk P w K mg base CX0 5 f fd ["leaf", "makings"] spAre := by
  obtain ⟨tm, gm⟩ := T.g_MAX_KINDS
  have cn : Cal P w K mg base 4 "is_name" ["value"] (spName K) := (T.d_is_name.cal fun f fd F => ok_name F T).mono (by decide)
  have cm : Cal P w K mg base 4 "_is_making" ["value"] (spMaking K) := T.d_is_making.cal fun f fd F => ok_making F T
  have ca : Cal P w K mg base 4 "_all_names" ["leaf", "makings"] spNames := (T.d_all_names.cal fun f fd F => ok_names F T).mono (by decide)
  refine F.ok sc_are_kinds (fun vs H Q E h => ?_) (fun cdv A outer s H vs Q E hr h => ?_)
  · obtain ⟨leaf, md, kvs, M, rfl, _⟩ := h
    rfl
  · obtain ⟨leaf, md, kvs, M, rfl, hd, hM, hV, q⟩ := h
    have hu := hu_of hr
    refine ⟨_, pss_cons (ps_if (PW.pt (pw_or (pt_not (pt_val (pe_cal cn hr (by rfl) (pa_cons (pv 0) pa_nil)))) (pw_or1 (pt_not (pt_val (pe_callB call_isi (by rfl) T.b_isinstance (by decide +kernel) (pa_cons (pv 1) (pa_cons (pe_bltn (v := .ty "dict") (by rfl) T.b_dict (by decide +kernel) rfl) pa_nil))))))))
          (pss_one (ps_ret pe_bl)) pss_nil)
      (pss_cons (ps_if (pt_not (pt_val (pe_callB (cr_all rfl) (by rfl) T.b_all (by decide +kernel) (pa_cons (pe_lock (pe_lc (own := [("name", 3)]) (g := gName 3) (tt := tYes) rfl sc_are_kinds.nd (pi_keys (pv 1))
            (blkOk_by (N := NA) (sc := defScope s_are_kinds) (by decide +kernel)) (fun _ _ _ _ _ => pg_name (i := 3) sc_are_kinds.nd rfl (.inl rfl)) (fun _ _ _ _ _ => pts_nil)
            (fun _ _ _ _ _ => pe_and (pe_cal cn hr (by rfl) (pa_cons (pv 3) pa_nil)) (pe_one (pe_cal cm hr (by rfl) (pa_cons (pe_dget hu (pv 1) (pv 3) (fun _ _ => rfl)) pa_nil)))))) pa_nil)))) (pss_one (ps_ret pe_bl)) pss_nil)
      (pss_cons (ps_set (i := 2) sc_are_kinds.nd rfl (.inr rfl) (pe_cal ca hr (by rfl) (pa_cons (pv 0) (pa_cons (pv 1) pa_nil))))
      (pss_cons (ps_if (pt_cmpR op_gt (pe_callB call_len_seq (by rfl) T.b_len PySem.boot_len (pa_cons (pv 2) pa_nil)) (pe_glob (v := .int 6) (by rfl) gm ⟨_, rfl⟩) (nomark _)) (pss_one (ps_ret pe_bl)) pss_nil)
      (pss_one (ps_ret (pe_callB (cr_all rfl) (by rfl) T.b_all (by decide +kernel) (pa_cons (pe_lock (pe_lc2 (own := [("name", 3), ("part", 4)]) (vs1 := [4]) (g := gName 3) (g1 := gName 4) (tt := tYes) (tt1 := tYes) rfl sc_are_kinds.nd (pi_keys (pv 1))
            (blkOk_by (N := NA) (sc := defScope s_are_kinds) (by decide +kernel)) (by decide) (fun _ _ _ _ _ => pg_name (i := 3) sc_are_kinds.nd rfl (.inl rfl)) (fun _ _ _ _ _ => pts_nil) (fun _ _ _ _ _ => pi_tupK (K := K) (by exact rfl) (pe_dget hu (pv 1) (pv 3) (fun _ _ => rfl)))
            (fun _ _ _ _ _ => pg_name (i := 4) sc_are_kinds.nd rfl (.inl rfl)) (fun _ _ _ _ _ => pts_nil)
            (fun _ _ _ _ _ => pe_cmpR (op_inSeqK (K := K) (by exact rfl)) (pv 4) (pv 2) (by rfl)))) pa_nil))))))), ?_⟩
    have lM := hV.len
    have lk := hM.len
    -- is_name(leaf), isinstance(makings, dict)
    refine ⟨_, rfl, .str leaf, rfl, .inl ⟨leaf, rfl, Nat.le_trans (pool_len hV.lf) (by decide)⟩, _, rfl, ?_⟩
    rw [show nameV (.str leaf) = true from pool_name hV.lf]
    refine ⟨_, rfl, _, .ty "dict", .type "dict", .type "dict", true, rfl, .ty _, .base (.dK hd), kit_ty (by decide +kernel), true, rfl, ?_⟩
    -- all([..])
    refine ⟨md, _, hd, trivial, fun od => ?_⟩
    have dM : ∀ {j : Nat} {m : Str × List Str}, M[j]? = some m → ∀ {H2 : Hp}, Same (upd H md (.frz od (.dK kvs))) H2 → ∃ a, DGet H2 md (.str m.1) (some (.ref a)) ∧ TupZ H2 a (m.2.map V.str) := by
      intro j m hj H2 s2
      obtain ⟨ps, a, e1, e2, e3⟩ := hM.key (z := m.1) (List.mem_map.mpr ⟨m, List.mem_of_getElem? hj, rfl⟩)
      rw [lookM_mem hV.nd (List.mem_of_getElem? hj)] at e1
      cases e1
      have na : a ≠ md := e3.ne hd (fun _ => nofun)
      refine ⟨a, .inl ⟨kvs, Sum.inr m.1, .inr ⟨od, s2 _ _ upd_same⟩, rfl, e2.symm⟩, (e3.at fun o e => by rw [upd_ne na]; exact e).mono s2⟩
    refine ⟨_, rfl, md, od, rfl, .inl ⟨kvs, upd_same, fun D hD => ?_⟩⟩
    refine lc_it walk_keys (fun j H2 => H2 D = some (.lst (List.replicate j (V.bl true))) ∧ Same (upd H md (.frz od (.dK kvs))) H2) ⟨upd_same, fun b u e => by rw [upd_ne (ne_of_none e hD)]; exact e⟩ (fun j H2 _ hP => hP.2 _ _ upd_same) (fun j x H2 H2' hj hP hy => ?_) (fun H2 hP => ?_)
    · obtain ⟨eD, sm⟩ := hP
      obtain ⟨rfl, k, v, hkv, rfl⟩ := hy
      obtain ⟨m, a, hm, rfl, rfl, _⟩ := hM.at hkv
      have hmM := List.mem_of_getElem? hm
      obtain ⟨p1, p2, p3, p4⟩ := hV.parts m hmM
      obtain ⟨a', hg, ha⟩ := dM hm sm
      have hpool : m.1 ∈ POOL := hV.keys _ (List.mem_map.mpr ⟨m, hmM, rfl⟩)
      refine ⟨rfl, _, rfl, .str m.1, rfl, .inl ⟨m.1, rfl, Nat.le_trans (pool_len hpool) (by decide)⟩, _, rfl, ?_⟩
      rw [show nameV (.str m.1) = true from pool_name hpool]
      refine ⟨_, rfl, _, rfl, md, _, rfl, hg, a', m.2, rfl, ha, List.all_eq_true.mpr fun z hz => pool_name (hV.part hmM hz), p1, p2, p3, fun z hz => Nat.le_trans (pool_len (hV.part hmM hz)) (by decide), fun H3 s3 => ?_⟩
      refine ⟨_, s3 _ _ eD, ?_, ?_, fun b u e => by rw [upd_ne (ne_of_none e hD)]; exact s3 _ _ (sm b u e)⟩
      · rw [List.length_replicate]
        exact Nat.lt_of_le_of_lt (show j ≤ 6 by omega) (by decide)
      · rw [upd_same, rep_snoc]
    obtain ⟨eD, sm⟩ := hP
    have s1 := same_unlock hd sm
    refine ⟨sm _ _ upd_same, D, List.replicate kvs.length true, rfl, .inl (.inl ?_), _, rfl, ?_⟩
    · have nD : D ≠ md := fun z => by
        rw [z, upd_same] at hD
        cases hD
      rw [upd_ne nD, eD, rep_map]
    rw [all_true]
    generalize upd H2 md (.dK kvs) = H3 at s1
    have hd3 := s1 _ _ hd
    have hM3 : MakAt H3 kvs M := hM.same fun a xs e => e.mono s1
    -- names
    refine ⟨_, rfl, _, rfl, leaf, md, kvs, keysOf M, rfl, hd3, hM3.keys, by unfold keysOf; rw [List.length_map]; omega, fun ns p H4 hns s4 np hp => ?_⟩
    refine ⟨_, rfl, p, _, rfl, .inr (.inl (.inl hp)), _, _, rfl, rfl, _, rfl, ?_⟩
    have few : ns.length ≤ 6 := hV.few ns hns.nd fun z hz => (hns.mem z).mp hz
    refine ite2 (fun e => ?_) (fun _ => ?_)
    · exfalso
      have e := of_decide_eq_true e
      rw [List.length_map] at e
      omega
    have hd4 := s4 _ _ hd3
    have hM4 : MakAt H4 kvs M := hM3.same fun a xs e => e.mono s4
    have s14 : Same H H4 := fun b u e => s4 _ _ (s1 _ _ e)
    clear hd hM hd3 hM3 s1 s4 hD eD sm dM
    refine ⟨md, _, hd4, trivial, fun od => ?_⟩
    have npm : p ≠ md := fun z => by
      rw [z, hd4] at hp
      cases hp
    refine ⟨_, rfl, md, od, rfl, .inl ⟨kvs, upd_same, fun D hD => ?_⟩⟩
    refine walk_in walk_keys (fun j H2 => ∃ n, H2 D = some (.lst (List.replicate n (V.bl true))) ∧ n ≤ 3 * j ∧ Same (upd H4 md (.frz od (.dK kvs))) H2) ⟨0, upd_same, Nat.zero_le _, fun b u e => by rw [upd_ne (ne_of_none e hD)]; exact e⟩ (fun j H2 _ hP => by obtain ⟨_, _, _, s5⟩ := hP; exact s5 _ _ upd_same) (fun j x H2 H2' hj hP hy => ?_) (fun H2 hP => ?_)
    · obtain ⟨n, eD, ln, sm⟩ := hP
      obtain ⟨rfl, k, v, hkv, rfl⟩ := hy
      obtain ⟨m, a, hm, rfl, rfl, ha⟩ := hM4.at hkv
      have hmM := List.mem_of_getElem? hm
      obtain ⟨p1, p2, p3, p4⟩ := hV.parts m hmM
      have na : a ≠ md := ha.ne hd4 (fun _ => nofun)
      have ha1 : TupZ (upd H4 md (.frz od (.dK kvs))) a (m.2.map V.str) := ha.at fun o e => by rw [upd_ne na]; exact e
      have hv : valV kvs (Sum.inr m.1) = some (.ref a) := by
        obtain ⟨ps, a', e1, e2, e3⟩ := hM4.key (z := m.1) (List.mem_map.mpr ⟨m, hmM, rfl⟩)
        have e4 : (kvs.map (·.1)).Nodup := by
          rw [hM4.keys]
          exact List.Pairwise.map Sum.inr (fun a b h q => h (Sum.inr.inj q)) hV.nd
        have e5 := val_nodup e4 (Sum.inr m.1, .ref a) (List.mem_of_getElem? hkv)
        exact e5
      refine ⟨rfl, ?_⟩
      refine ⟨_, rfl, _, rfl, md, .ref a, rfl, .inl ⟨kvs, Sum.inr m.1, .inr ⟨od, sm _ _ upd_same⟩, rfl, hv.symm⟩, a, rfl, ⟨_, (ha1.mono sm).sq⟩, ?_⟩
      refine walk_in (walk_tup (K := K) (a := a) (xs := m.2.map V.str)) (fun i H3 => H3 D = some (.lst (List.replicate (n + i) (V.bl true))) ∧ Same (upd H4 md (.frz od (.dK kvs))) H3) ⟨eD, sm⟩ (fun i H3 _ hP => (ha1.mono hP.2).sq) (fun i x H3 H3' hi hP hy => ?_) (fun H3 hP => ?_)
      · obtain ⟨eD3, sm3⟩ := hP
        obtain ⟨rfl, hx⟩ := hy
        obtain ⟨z, hz, rfl⟩ : ∃ z, m.2[i]? = some z ∧ V.str z = x := by
          rw [List.getElem?_map] at hx
          cases e : m.2[i]? with
          | none => rw [e] at hx; cases hx
          | some z => rw [e] at hx; exact ⟨z, rfl, by cases hx; rfl⟩
        have hin : z ∈ ns := (hns.mem z).mpr (p4 z (List.mem_of_getElem? hz))
        refine ⟨rfl, _, rfl, _, rfl, p, ns.map V.str, rfl, .inr (.inl (.inl (sm3 _ _ (by rw [upd_ne npm]; exact hp)))), rfl, flat_strs' ns, ?_⟩
        show ∃ acc, _
        rw [List.length_map] at hi
        refine ⟨_, eD3, ?_, ?_, fun b u e => by rw [upd_ne (ne_of_none e hD)]; exact sm3 b u e⟩
        · rw [List.length_replicate]
          exact Nat.lt_of_le_of_lt (show n + i ≤ 100 by omega) (by decide)
        · rw [upd_same]
          have e : inV (V.str z) (ns.map V.str) = true := by rw [inV_strs, decide_eq_true hin]
          simp only [e, Bool.false_eq_true, if_false]
          rw [rep_snoc, Nat.add_assoc]
      · obtain ⟨eD3, sm3⟩ := hP
        rw [List.length_map] at eD3
        exact ⟨_, eD3, by omega, sm3⟩
    · obtain ⟨n, eD, ln, sm⟩ := hP
      have s1 := same_unlock hd4 sm
      refine ⟨sm _ _ upd_same, D, List.replicate n true, rfl, .inl (.inl ?_), ?_⟩
      · have nD : D ≠ md := fun z => by
          rw [z, upd_same] at hD
          cases hD
        rw [upd_ne nD, eD, rep_map]
      rw [all_true]
      exact q _ fun b u e => s1 _ _ (s14 _ _ e)
end
end Kl

set_option maxRecDepth 100000
set_option maxHeartbeats 4000000
namespace Kl
open PySem PySem.Spec PyProof.Rows L2 Gx Mx
section
variable {P : Program} {w : World} {K : PySem.W.Frag} {mg : Str → Option Value} {base : Heap}
theorem kLM : ("_leaf" : Str) ≠ "_makings" := by decide +kernel
theorem kLN : ("_leaf" : Str) ≠ "_names" := by decide +kernel
theorem kMN : ("_makings" : Str) ≠ "_names" := by decide +kernel
theorem putF_app {k : Str} {v : V} : ∀ fs : List (Str × V), (∀ p ∈ fs, p.1 ≠ k) → putF k v fs = fs ++ [(k, v)]
  | [], _ => rfl
  | p :: fs, h => by
    have ih := putF_app (v := v) fs fun q hq => h q (List.mem_cons_of_mem _ hq)
    obtain ⟨a, b⟩ := p
    show (if a = k then (a, v) :: fs else (a, b) :: putF k v fs) = _
    rw [if_neg (h (a, b) List.mem_cons_self), ih]
    rfl
theorem same_new {H H1 : Hp} {p : Addr} {o : HO} (s : Same H H1) (n : H1 p = none) : Same H (upd H1 p o) := fun b u e => by
  rw [upd_ne (ne_of_none (s b u e) n)]
  exact s b u e
theorem at_texts {zs : List Str} {j : Nat} {x : V} (hj : (zs.map V.str)[j]? = some x) : ∃ z, zs[j]? = some z ∧ V.str z = x := by
  rw [List.getElem?_map] at hj
  cases e : zs[j]? with
  | none => rw [e] at hj; cases hj
  | some z => rw [e] at hj; exact ⟨z, rfl, by cases hj; rfl⟩
/-- the pairs of a dict, for some of its keys -/
def pairsOf' (kvs : List (Key × V)) (ys : List Str) : List (Key × V) := ys.map fun z => (Sum.inr z, (valV kvs (Sum.inr z)).getD .non)
theorem pairs_none {kvs : List (Key × V)} {ys : List Str} {z : Str} (h : z ∉ ys) : valV (pairsOf' kvs ys) (Sum.inr z) = none := by
  induction ys with
  | nil => rfl
  | cons y ys ih =>
    rw [List.mem_cons, not_or] at h
    show valV ((Sum.inr y, _) :: pairsOf' kvs ys) (Sum.inr z) = none
    rw [valV_neg (fun q => h.1 (Sum.inr.inj q).symm)]
    exact ih h.2
theorem mak_pairs {H : Hp} {kvs : List (Key × V)} {M : Mak} (h : MakAt H kvs M) : ∀ {ys : List Str}, (∀ z ∈ ys, z ∈ keysOf M) → MakAt H (pairsOf' kvs ys) (ys.map fun z => (z, (lookM M z).getD []))
  | [], _ => .nil
  | y :: ys, hy => by
    obtain ⟨ps, a, e1, e2, e3⟩ := h.key (hy y List.mem_cons_self)
    refine .cons ⟨rfl, a, ?_, ?_⟩ (mak_pairs h fun z hz => hy z (List.mem_cons_of_mem _ hz))
    · show (valV kvs (Sum.inr y)).getD .non = .ref a
      rw [e2]
      rfl
    · show TupZ H a (((lookM M y).getD []).map V.str)
      rw [e1]
      exact e3
/-! ### Kinds.__init__ -/
def spInit (C : Addr) : Sp := fun vs H Q _ => ∃ (x dx : Addr) (leaf : Str) (pd : Addr) (kvs : List (Key × V)) (M : Mak), vs = [.ref x, .str leaf, .ref pd] ∧ H x = some (.ins C dx []) ∧ H pd = some (.dK kvs) ∧ MakAt H kvs M ∧ Vld leaf M ∧
  ∀ (H' : Hp) (md : Addr) (M' : Mak) (ns : List Str), KindsAt C H' x md leaf M' ns → OrdOf M M' → IsNames leaf (keysOf M) ns → H md = none → (∀ b o, b ≠ x → H b = some o → H' b = some o) → Q .non H'
abbrev NI : List Str := ["self", "leaf", "makings", "name"]
theorem ok_init {C f : Addr} {fd : FuncData} (F : Fun K "__init__" "Kinds.__init__" s_Kinds_init f fd) (T : Top K mg) (TC : Cl_Kinds K mg C) : FnOk P w K mg base CX0 6 f fd ["self", "leaf", "makings"] (spInit C) := by
  have ca : Cal P w K mg base 5 "_are_kinds" ["leaf", "makings"] spAre := T.d_are_kinds.cal fun f fd F => ok_are F T
  have cn : Cal P w K mg base 5 "_all_names" ["leaf", "makings"] spNames := (T.d_all_names.cal fun f fd F => ok_names F T).mono (by decide)
  refine F.ok sc_Kinds_init (fun vs H Q E h => ?_) (fun cdv A outer s H vs Q E hr h => ?_)
  · obtain ⟨x, dx, leaf, pd, kvs, M, rfl, _⟩ := h
    rfl
  · obtain ⟨x, dx, leaf, pd, kvs, M, rfl, hx, hd, hM, hV, q⟩ := h
    have hu := hu_of hr
    refine ⟨_, pss_cons (ps_if (pt_not (pt_val (pe_cal ca hr (by rfl) (pa_cons (pv 1) (pa_cons (pv 2) pa_nil))))) (pss_one ps_never) pss_nil)
      (pss_cons (ps_fld (pv 0) (pv 1) rfl)
      (pss_cons (ps_fld (pv 0) (pe_dc (own := [("name", 3)]) (g := gName 3) (tt := tYes) rfl sc_Kinds_init.nd (pi_list (pe_callB (call_sortedD rfl) (by rfl) T.b_sorted (by decide +kernel) (pa_cons (pv 2) pa_nil)))
          (blkOk_by (N := NI) (sc := defScope s_Kinds_init) (by decide +kernel)) (fun _ _ _ _ _ => pg_name (i := 3) sc_Kinds_init.nd rfl (.inl rfl)) (fun _ _ _ _ _ => pts_nil) (fun _ _ _ _ _ => pv 3) (fun _ _ _ _ _ => pe_dget hu (pv 2) (pv 3) (fun _ _ => rfl))) rfl)
      (pss_one (ps_fld (pv 0) (pe_cal cn hr (by rfl) (pa_cons (pv 1) (pa_cons (pv 2) pa_nil))) rfl)))), ?_⟩
    have lM := hV.len
    have lk := hM.len
    refine ⟨_, rfl, _, rfl, leaf, pd, kvs, M, rfl, hd, hM, hV, fun H1 s1 => ⟨_, rfl, ?_⟩⟩
    -- self._leaf = leaf
    have hx1 := s1 _ _ hx
    refine ⟨_, rfl, _, rfl, x, C, dx, [], rfl, hx1, TC.cl, TC.n_leaf, by decide, ?_⟩
    have npx : pd ≠ x := fun z => by
      rw [z, hx] at hd
      cases hd
    have tupx : ∀ {H2 : Hp}, (∀ b o, b ≠ x → H b = some o → H2 b = some o) → MakAt H2 kvs M := fun {H2} s2 => hM.same fun a xs e => e.at fun o => s2 _ _ (e.ne hx (fun _ => nofun))
    have k1 : ∀ b o, b ≠ x → H b = some o → (upd H1 x (.ins C dx (putF "_leaf" (.str leaf) []))) b = some o := fun b o n e => by
      rw [upd_ne n]
      exact s1 b o e
    have x1 : (upd H1 x (.ins C dx (putF "_leaf" (.str leaf) []))) x = some (.ins C dx [("_leaf", .str leaf)]) := by
      rw [upd_same]
      rfl
    have f1 : ∀ b, (upd H1 x (.ins C dx (putF "_leaf" (.str leaf) []))) b = none → H b = none := fun b e => by
      have n : b ≠ x := fun z => by
        rw [z, upd_same] at e
        cases e
      rw [upd_ne n] at e
      exact s1.free e
    generalize upd H1 x (.ins C dx (putF "_leaf" (.str leaf) [])) = H2 at k1 x1 f1
    clear s1 hx1
    have hd2 := k1 _ _ npx hd
    have hM2 := tupx k1
    -- self._makings
    refine ⟨_, rfl, pd, kvs, keysOf M, rfl, .inl hd2, hM.keys, by unfold keysOf; rw [List.length_map]; omega, fun ys p hperm hsrt np => ?_⟩
    have nd : (keysOf M).Nodup := hV.nd
    have ndY : ys.Nodup := hperm.nodup_iff.mpr nd
    have lY : ys.length ≤ 6 := by
      rw [hperm.length_eq]
      unfold keysOf
      rw [List.length_map]
      exact lM
    refine ⟨p, rfl, ⟨_, .inl (.inl upd_same)⟩, fun D hD => ?_⟩
    have s2 : Same H2 (upd H2 p (.lst (ys.map V.str))) := same_new (Same.refl H2) np
    refine walk_in (walk_list (K := K) (a := p) (xs := ys.map V.str)) (fun j G => G D = some (.dK (pairsOf' kvs (ys.take j))) ∧ Same (upd H2 p (.lst (ys.map V.str))) G) ⟨upd_same, same_new (Same.refl _) hD⟩ (fun j G _ hP => .inl (.inl (hP.2 _ _ upd_same))) (fun j v G G' hj hP hy => ?_) (fun G hP => ?_)
    · obtain ⟨eD, sm⟩ := hP
      obtain ⟨rfl, hv⟩ := hy
      obtain ⟨z, hz, rfl⟩ := at_texts hv
      have hzM : z ∈ keysOf M := hperm.mem_iff.mp (List.mem_of_getElem? hz)
      obtain ⟨ps, a, e1, e2, e3⟩ := hM2.key hzM
      refine ⟨rfl, _, rfl, _, rfl, _, rfl, pd, .ref a, rfl, .inl ⟨kvs, Sum.inr z, .inl (sm _ _ (s2 _ _ hd2)), rfl, e2.symm⟩, pairsOf' kvs (ys.take j), Sum.inr z, rfl, eD, ?_, ?_, fun b u e => by rw [upd_ne (ne_of_none e hD)]; exact sm b u e⟩
      · unfold pairsOf'
        rw [List.length_map, List.length_take]
        exact Nat.lt_of_le_of_lt (Nat.le_trans (Nat.min_le_right _ _) lY) (by decide)
      · have hnot : z ∉ ys.take j := by
          intro hin
          obtain ⟨i, hi⟩ := List.mem_iff_getElem?.mp hin
          rw [List.getElem?_take] at hi
          by_cases c : i < j
          · rw [if_pos c] at hi
            have h1 := (List.getElem?_eq_some_iff.mp hi)
            have h2 := (List.getElem?_eq_some_iff.mp hz)
            have h3 := (List.getElem_inj (h₀ := h1.1) (h₁ := h2.1) ndY).mp (h1.2.trans h2.2.symm)
            omega
          · rw [if_neg c] at hi
            cases hi
        rw [upd_same, putK_new _ (pairs_none hnot), List.take_add_one, hz]
        unfold pairsOf'
        rw [List.map_append]
        show some (HO.dK (_ ++ [(Sum.inr z, V.ref a)])) = some (HO.dK (_ ++ [(Sum.inr z, (valV kvs (Sum.inr z)).getD .non)]))
        rw [e2]
        rfl
    obtain ⟨eD, sm⟩ := hP
    rw [List.length_map, List.take_length] at eD
    have s3 : Same H2 G := fun b u e => sm _ _ (s2 _ _ e)
    have fD : H2 D = none := s2.free hD
    have hx3 := s3 _ _ x1
    have nDx : D ≠ x := fun z => by
      rw [z, x1] at fD
      cases fD
    refine ⟨_, rfl, x, C, dx, _, rfl, hx3, TC.cl, TC.n_makings, by show 1 < 1000; decide, ?_⟩
    have e4 : putF "_makings" (.ref D) [("_leaf", .str leaf)] = [(("_leaf" : Str), V.str leaf), ("_makings", .ref D)] := putF_app _ fun p hp => by
      simp only [List.mem_cons, List.not_mem_nil, or_false] at hp
      subst hp
      exact kLM
    rw [e4]
    have k3 : ∀ b o, b ≠ x → H b = some o → (upd G x (.ins C dx [("_leaf", .str leaf), ("_makings", .ref D)])) b = some o := fun b o n e => by
      rw [upd_ne n]
      exact s3 _ _ (k1 b o n e)
    have x3 : (upd G x (.ins C dx [("_leaf", .str leaf), ("_makings", .ref D)])) x = some (.ins C dx [("_leaf", .str leaf), ("_makings", .ref D)]) := upd_same
    have d3 : (upd G x (.ins C dx [("_leaf", .str leaf), ("_makings", .ref D)])) D = some (.dK (pairsOf' kvs ys)) := by
      rw [upd_ne nDx]
      exact eD
    generalize upd G x (.ins C dx [("_leaf", .str leaf), ("_makings", .ref D)]) = H3 at k3 x3 d3
    clear sm eD s3 hx3 s2 x1 hM2 hd2
    have hM3 := tupx k3
    -- self._names
    refine ⟨_, rfl, _, rfl, leaf, pd, kvs, keysOf M, rfl, k3 _ _ npx hd, hM3.keys, by unfold keysOf; rw [List.length_map]; omega, fun ns t H4 hns s4 nt ht => ?_⟩
    refine ⟨_, rfl, x, C, dx, _, rfl, s4 _ _ x3, TC.cl, TC.n_names, by show 2 < 1000; decide, ?_⟩
    have e5 : putF "_names" (.ref t) [("_leaf", .str leaf), ("_makings", .ref D)] = [(("_leaf" : Str), V.str leaf), ("_makings", .ref D), ("_names", .ref t)] := putF_app _ fun p hp => by
      simp only [List.mem_cons, List.not_mem_nil, or_false] at hp
      rcases hp with rfl | rfl
      · exact kLN
      · exact kMN
    rw [e5]
    have k4 : ∀ b o, b ≠ x → H b = some o → (upd H4 x (.ins C dx [("_leaf", .str leaf), ("_makings", .ref D), ("_names", .ref t)])) b = some o := fun b o n e => by
      rw [upd_ne n]
      exact s4 _ _ (k3 b o n e)
    have ntx : t ≠ x := fun z => by
      rw [z, x3] at nt
      cases nt
    refine q _ D (ys.map fun z => (z, (lookM M z).getD [])) ns ⟨dx, t, pairsOf' kvs ys, upd_same, ?_, mak_pairs (tupx k4) fun z hz => hperm.mem_iff.mp hz, ?_⟩ (OrdOf.mk' hsrt hperm nd) hns (f1 _ fD) k4
    · rw [upd_ne nDx]
      exact s4 _ _ d3
    · rw [upd_ne ntx]
      exact ht
end
end Kl

set_option maxRecDepth 100000
set_option maxHeartbeats 4000000
namespace Gx
open PySem PySem.Spec PyProof.Rows L2
section
variable {X : Cx} {K : PySem.W.Frag} {e o : Expr} {f : Str} {te to : TE} {pos apos : Pos}
theorem pe_fldK (hk : X.K = K) (he : PE X e te) (hb : attributeBase e f X.env (eval e X.env) = eval e X.env := by rfl) : PE X (.Attribute e f pos) (tFld K te f) := by
  subst hk
  exact pe_fld he hb
/-- f'..' of two parts or more, told by a name -/
def tJoined (ts : List TE) : TE := fun σ H Q => tJs ts Str.empty σ H fun out H1 => Q (.str out) H1
theorem pe_joinedN {v1 v2 : Expr} {rest : List Expr} {ts : List TE} {pos : Pos} (h : PJ X (v1 :: v2 :: rest) ts) : PE X (.JoinedStr (v1 :: v2 :: rest) pos) (tJoined ts) := pe_joined h
/-- sep.join(xs) -/
def rJoin (K : PySem.W.Frag) : V → List V → Hp → VK → Prop := fun x xs H Q => ∃ a p, ∃ ys : List Str, x = .str a ∧ xs = [.ref p] ∧ (SqL K H p (ys.map V.str) ∨ SqT K H p (ys.map V.str)) ∧ (ys.map (·.length)).sum + ys.length * a.length ≤ 16777216 ∧ Q (.str (Txt.join a ys)) H
theorem pe_joinK (hk : X.K = K) (ho : PE X o to) (he : PE X e te) (hs : starEach [e] X.env = [(false, eval e X.env)] := by rfl) (hbase : attributeBase o "join" X.env (eval o X.env) = eval o X.env := by rfl) (hline : (apos.endLine == pos.line) = true := by rfl) :
    PE X (.Call (.Attribute o "join" apos) [e] [] pos) (tM1 (rJoin K) to te) := by
  subst hk
  exact pe_join ho he hs hbase hline
end
end Gx
namespace Kl
open PySem PySem.Spec PyProof.Rows L2 Gx Mx
section
variable {P : Program} {w : World} {K : PySem.W.Frag} {mg : Str → Option Value} {base : Heap}
/-! ### what Kinds tells: leaf, makings, names, lines -/
abbrev kf (leaf : Str) (md nt : Addr) : List (Str × V) := [("_leaf", .str leaf), ("_makings", .ref md), ("_names", .ref nt)]
theorem kf_leaf (leaf : Str) (md nt : Addr) : List.lookup ("_leaf" : Str) (kf leaf md nt) = some (.str leaf) := by simp [List.lookup]
theorem kf_mak (leaf : Str) (md nt : Addr) : List.lookup ("_makings" : Str) (kf leaf md nt) = some (.ref md) := by
  have h : (("_makings" : Str) == "_leaf") = false := beq_eq_false_iff_ne.mpr (Ne.symm kLM)
  simp [List.lookup, h]
theorem kf_names (leaf : Str) (md nt : Addr) : List.lookup ("_names" : Str) (kf leaf md nt) = some (.ref nt) := by
  have h : (("_names" : Str) == "_leaf") = false := beq_eq_false_iff_ne.mpr (Ne.symm kLN)
  have h2 : (("_names" : Str) == "_makings") = false := beq_eq_false_iff_ne.mpr (Ne.symm kMN)
  simp [List.lookup, h, h2]
theorem kf_no (leaf : Str) (md nt : Addr) {m : Str} (h1 : m ≠ "_leaf") (h2 : m ≠ "_makings") (h3 : m ≠ "_names") : (kf leaf md nt).lookup m = none := by
  have e1 : (m == "_leaf") = false := beq_eq_false_iff_ne.mpr h1
  have e2 : (m == "_makings") = false := beq_eq_false_iff_ne.mpr h2
  have e3 : (m == "_names") = false := beq_eq_false_iff_ne.mpr h3
  simp [List.lookup, e1, e2, e3]
def spKLeaf (C : Addr) : Sp := fun vs H Q _ => ∃ x md leaf M ns, vs = [.ref x] ∧ KindsAt C H x md leaf M ns ∧ Q (.str leaf) H
theorem ok_kleaf {C f : Addr} {fd : FuncData} (F : Fun K "leaf" "Kinds.leaf" s_Kinds_leaf f fd) (TC : Cl_Kinds K mg C) : FnOk P w K mg base CX0 1 f fd ["self"] (spKLeaf C) := by
  refine F.ok sc_Kinds_leaf (fun vs H Q E h => ?_) (fun cdv A outer s H vs Q E hr h => ?_)
  · obtain ⟨x, md, leaf, M, ns, rfl, _⟩ := h
    rfl
  · obtain ⟨x, md, leaf, M, ns, rfl, ⟨dx, nt, kvs, hx, hd, hM, hn⟩, q⟩ := h
    refine ⟨_, pss_one (ps_ret (pe_fld (pv 0) rfl)), ?_⟩
    exact ⟨_, rfl, x, C, dx, _, _, rfl, hx, TC.cl, TC.n_leaf, kf_leaf _ _ _, q⟩
def spKMak (C : Addr) : Sp := fun vs H Q _ => ∃ x md leaf M ns, vs = [.ref x] ∧ KindsAt C H x md leaf M ns ∧ ∀ p kvs, H p = none → MakAt H kvs M → Q (.ref p) (upd H p (.dK kvs))
theorem ok_kmak {C f : Addr} {fd : FuncData} (F : Fun K "makings" "Kinds.makings" s_Kinds_makings f fd) (T : Top K mg) (TC : Cl_Kinds K mg C) : FnOk P w K mg base CX0 1 f fd ["self"] (spKMak C) := by
  refine F.ok sc_Kinds_makings (fun vs H Q E h => ?_) (fun cdv A outer s H vs Q E hr h => ?_)
  · obtain ⟨x, md, leaf, M, ns, rfl, _⟩ := h
    rfl
  · obtain ⟨x, md, leaf, M, ns, rfl, ⟨dx, nt, kvs, hx, hd, hM, hn⟩, q⟩ := h
    refine ⟨_, pss_one (ps_ret (pe_callTy call_dictD (by rfl) T.b_dict (by decide +kernel) (pa_cons (pe_fld (pv 0) rfl) pa_nil))), ?_⟩
    exact ⟨_, rfl, x, C, dx, _, _, rfl, hx, TC.cl, TC.n_makings, kf_mak _ _ _, md, kvs, rfl, .inl hd, fun p np => q p kvs np hM⟩
def spKNam (C : Addr) : Sp := fun vs H Q _ => ∃ x md leaf M ns, vs = [.ref x] ∧ KindsAt C H x md leaf M ns ∧ ∀ p, H p = some (.tup (ns.map V.str)) → Q (.ref p) H
theorem ok_knam {C f : Addr} {fd : FuncData} (F : Fun K "names" "Kinds.names" s_Kinds_names f fd) (TC : Cl_Kinds K mg C) : FnOk P w K mg base CX0 1 f fd ["self"] (spKNam C) := by
  refine F.ok sc_Kinds_names (fun vs H Q E h => ?_) (fun cdv A outer s H vs Q E hr h => ?_)
  · obtain ⟨x, md, leaf, M, ns, rfl, _⟩ := h
    rfl
  · obtain ⟨x, md, leaf, M, ns, rfl, ⟨dx, nt, kvs, hx, hd, hM, hn⟩, q⟩ := h
    refine ⟨_, pss_one (ps_ret (pe_fld (pv 0) rfl)), ?_⟩
    exact ⟨_, rfl, x, C, dx, _, _, rfl, hx, TC.cl, TC.n_names, kf_names _ _ _, q nt hn⟩
/-! ### lines -/
theorem empty_app (a : Str) : Str.empty ++ a = a := by
  show (⟨#[] ++ a.cps⟩ : Str) = a
  rw [Array.empty_append]
theorem len_app (a b : Str) : (a ++ b).length = a.length + b.length := by
  show (a.cps ++ b.cps).size = _
  rw [Array.size_append]
  rfl
theorem join_short {e : Str} (he : e.length = 1) {zs : List Str} (h : ∀ z ∈ zs, z.length ≤ 8) : (Txt.join e zs).length ≤ 9 * zs.length := by
  rw [TL.join_eq]
  induction zs with
  | nil => exact Nat.zero_le _
  | cons x r ih =>
    have hx := h x List.mem_cons_self
    cases r with
    | nil =>
      show x.length ≤ _
      rw [List.length_cons]
      omega
    | cons y r =>
      have i := ih fun z hz => h z (List.mem_cons_of_mem _ hz)
      show (x ++ e ++ Str.join e (y :: r)).length ≤ _
      rw [len_app, len_app, he, List.length_cons (a := x)]
      omega
theorem join_sum {zs : List Str} (h : ∀ z ∈ zs, z.length ≤ 8) : (zs.map (·.length)).sum ≤ 8 * zs.length := by
  induction zs with
  | nil => exact Nat.zero_le _
  | cons x r ih =>
    have hx := h x List.mem_cons_self
    have i := ih fun z hz => h z (List.mem_cons_of_mem _ hz)
    rw [List.map_cons, List.sum_cons, List.length_cons]
    omega
/-- text_of names -/
def spText (K : PySem.W.Frag) : Sp := fun vs H Q _ => ∃ (p : Addr) (ps : List Str), vs = [V.ref p] ∧ SqT K H p (ps.map V.str) ∧ ps ≠ [] ∧ ps.length ≤ 3 ∧ (∀ z ∈ ps, z.length ≤ 8) ∧ Q (.str (Txt.join "+" ps)) H
theorem ok_text {f : Addr} {fd : FuncData} (F : Fun K "text_of" "text_of" s_text_of f fd) (T : Top K mg) : FnOk P w K mg base CX0 1 f fd ["names"] (spText K) := by
  refine F.ok sc_text_of (fun vs H Q E h => ?_) (fun cdv A outer s H vs Q E hr h => ?_)
  · obtain ⟨p, ps, rfl, _⟩ := h
    rfl
  · obtain ⟨p, ps, rfl, hp, hn, l3, l8, q⟩ := h
    refine ⟨_, pss_one (ps_ret (pe_ifExp (pt_truth (pv 0) (fun _ => rfl)) (pe_join pe_str (pv 0)) pe_str)), ?_⟩
    obtain ⟨z, r, rfl⟩ : ∃ z r, ps = z :: r := by
      cases ps with
      | nil => exact absurd rfl hn
      | cons z r => exact ⟨z, r, rfl⟩
    refine ⟨_, rfl, true, .inr (.inl ⟨_, hp, rfl⟩), ?_⟩
    show (if true = true then _ else _)
    rw [if_pos rfl]
    have ls := join_sum l8
    have e1 : ("+" : Str).length = 1 := rfl
    exact ⟨⟨_, rfl⟩, _, rfl, _, p, _, rfl, rfl, .inr hp, by rw [e1]; omega, q⟩
def spKLin (C : Addr) : Sp := fun vs H Q _ => ∃ x md leaf M ns, vs = [.ref x] ∧ KindsAt C H x md leaf M ns ∧ Vld leaf M ∧ ∀ p H', Same H H' → H' p = some (.tup ((linesK leaf M).map V.str)) → Q (.ref p) H'
abbrev NL : List Str := ["self", "made", "name"]
theorem ok_klin {C f : Addr} {fd : FuncData} (F : Fun K "lines" "Kinds.lines" s_Kinds_lines f fd) (T : Top K mg) (TC : Cl_Kinds K mg C) : FnOk P w K mg base CX0 2 f fd ["self"] (spKLin C) := by
  have ct : Cal P w K mg base 1 "text_of" ["names"] (spText K) := T.d_text_of.cal fun f fd F => ok_text F T
  refine F.ok sc_Kinds_lines (fun vs H Q E h => ?_) (fun cdv A outer s H vs Q E hr h => ?_)
  · obtain ⟨x, md, leaf, M, ns, rfl, _⟩ := h
    rfl
  · obtain ⟨x, md, leaf, M, ns, rfl, ⟨dx, nt, kvs, hx, hd, hM, hn⟩, hV, q⟩ := h
    have hu := hu_of hr
    refine ⟨_, pss_cons (ps_lock (ps_setLc (i := 1) (own := [("name", 2)]) (g := gName 2) (tt := tYes) (by rfl) sc_Kinds_lines.nd rfl rfl (sw_true rfl rfl rfl (by decide +kernel)) (pi_keys (pe_fld (pv 0) rfl))
          (blkOk_by (N := NL) (sc := defScope s_Kinds_lines) (by decide +kernel)) (fun _ _ _ _ _ => pg_name (i := 2) sc_Kinds_lines.nd rfl (.inl rfl)) (fun _ _ _ _ _ => pts_nil)
          (fun _ _ _ _ _ => pe_joinedN (.cons pe_str (.cons (pe_fmt (pv 2)) (.cons pe_str (.cons (pe_fmt (pe_cal ct hr (by rfl) (pa_cons (pe_dget hu (pe_fldK (K := K) (by exact rfl) (pv 0)) (pv 2) (fun _ _ => rfl)) pa_nil))) .nil)))))))
      (pss_one (ps_ret (pe_tup (pa_cons (pe_joinedN (.cons pe_str (.cons (pe_fmt (pe_fld (pv 0) rfl)) .nil))) (StX.pa_star (pv 1) pa_nil))))), ?_⟩
    have lM := hV.len
    have lk := hM.len
    refine ⟨md, _, hd, trivial, fun od => ?_⟩
    have nxm : x ≠ md := fun z => by
      rw [z, hd] at hx
      cases hx
    have hx1 : upd H md (.frz od (.dK kvs)) x = some (.ins C dx (kf leaf md nt)) := by
      rw [upd_ne nxm]
      exact hx
    refine ⟨_, rfl, x, C, dx, _, _, rfl, hx1, TC.cl, TC.n_makings, kf_mak _ _ _, md, od, rfl, .inl ⟨kvs, upd_same, fun D hD => ?_⟩⟩
    refine lc_it (g := gName 2) (tt := tYes) (vs := [2]) (σ := L2.start NL [.ref x]) walk_keys (fun j G => G D = some (.lst (((M.take j).map fun m => lineK m.1 m.2).map V.str)) ∧ Same (upd H md (.frz od (.dK kvs))) G) ⟨upd_same, same_new (Same.refl _) hD⟩ (fun j G _ hP => hP.2 _ _ upd_same) (fun j v G G' hj hP hy => ?_) (fun G hP => ?_)
    · obtain ⟨eD, sm⟩ := hP
      obtain ⟨rfl, k, v, hkv, rfl⟩ := hy
      obtain ⟨m, a, hm, rfl, rfl, ha⟩ := hM.at hkv
      have hmM := List.mem_of_getElem? hm
      obtain ⟨p1, p2, p3, p4⟩ := hV.parts m hmM
      have hpool : m.1 ∈ POOL := hV.keys _ (List.mem_map.mpr ⟨m, hmM, rfl⟩)
      have short : ∀ z ∈ m.2, z.length ≤ 8 := fun z hz => pool_len (hV.part hmM hz)
      have l1 := pool_len hpool
      have na : a ≠ md := ha.ne hd (fun _ => nofun)
      have ha1 : TupZ (upd H md (.frz od (.dK kvs))) a (m.2.map V.str) := ha.at fun o e => by rw [upd_ne na]; exact e
      have hv : valV kvs (Sum.inr m.1) = some (.ref a) := by
        have e4 : (kvs.map (·.1)).Nodup := by
          rw [hM.keys]
          exact List.Pairwise.map Sum.inr (fun a b h q => h (Sum.inr.inj q)) hV.nd
        exact val_nodup e4 (Sum.inr m.1, .ref a) (List.mem_of_getElem? hkv)
      have lj := join_short (e := "+") rfl short
      have ls := join_sum short
      refine ⟨rfl, ?_⟩
      have k5 : ("kind " : Str).length = 5 := rfl
      have k1 : (" " : Str).length = 1 := rfl
      have big : 1000 ≤ sizeLine := by decide
      refine ⟨_, rfl, by rw [empty_app]; omega, _, rfl, .inl ⟨m.1, rfl, by omega, _, rfl, by rw [empty_app, len_app]; omega, _, rfl, by rw [empty_app, len_app, len_app]; omega, ?_⟩⟩
      refine ⟨_, rfl, x, C, dx, _, _, rfl, sm _ _ hx1, TC.cl, TC.n_makings, kf_mak _ _ _, _, rfl, md, _, rfl, .inl ⟨kvs, Sum.inr m.1, .inr ⟨od, sm _ _ upd_same⟩, rfl, hv.symm⟩, a, m.2, rfl, (ha1.mono sm).sq, (fun q => by rw [q] at p2; exact absurd p2 (by decide)), p3, short, ?_⟩
      refine .inl ⟨_, rfl, by omega, _, rfl, by rw [empty_app, len_app, len_app, len_app]; omega, ?_⟩
      refine ⟨_, eD, ?_, ?_, fun b u e => by rw [upd_ne (ne_of_none e hD)]; exact sm b u e⟩
      · rw [List.length_map, List.length_map, List.length_take]
        exact Nat.lt_of_le_of_lt (Nat.le_trans (Nat.min_le_right _ _) lM) (by decide)
      · rw [upd_same, List.take_add_one, hm, List.map_append, List.map_append, empty_app]
        rfl
    obtain ⟨eD, sm⟩ := hP
    rw [lk, List.take_length] at eD
    have s1 := same_unlock hd sm
    have nD : D ≠ md := fun z => by
      rw [z, upd_same] at hD
      cases hD
    refine ⟨sm _ _ upd_same, ?_⟩
    have eD2 : upd G md (.dK kvs) D = some (.lst ((M.map fun m => lineK m.1 m.2).map V.str)) := by
      rw [upd_ne nD]
      exact eD
    generalize upd G md (.dK kvs) = H2 at s1 eD2
    have l5 : ("leaf " : Str).length = 5 := rfl
    have ll := pool_len hV.lf
    have big : 1000 ≤ sizeLine := by decide
    refine ⟨_, rfl, by rw [empty_app]; omega, _, rfl, x, C, dx, _, _, rfl, s1 _ _ hx, TC.cl, TC.n_leaf, kf_leaf _ _ _, .inl ⟨leaf, rfl, by omega, _, rfl, by rw [empty_app, len_app]; omega, ?_⟩⟩
    refine ⟨_, rfl, D, _, rfl, .inr (.inl (.inl eD2)), ?_, fun p np => ?_⟩
    · show (_ :: (_ ++ [])).length ≤ sizeLine
      rw [List.append_nil, List.length_cons, List.length_map, List.length_map]
      exact Nat.le_trans (show M.length + 1 ≤ 7 by omega) (by decide)
    refine q p _ (same_new s1 np) ?_
    rw [upd_same, List.append_nil, empty_app]
    rfl
end
end Kl

set_option maxRecDepth 100000
set_option maxHeartbeats 4000000
namespace Gx
open PySem PySem.Spec PyProof.Rows L2 SeqAt Mx
open AutoSeq1 (wpAny_loadPart')
/-! ### a dict is no text; data and dicts in a tuple -/
theorem str_eq_dict (b : Str) (u : Tok) (l : Addr) (dd : Option Addr) (sl : Array (Option Value)) (es : Array DictEntry) (ep : Nat) :
    Meets (Builtin.«str.__eq__» ⟨[.str b u, .ref l], []⟩) (fun _ R s => s.heap.get? l = some { cls := .type "dict", dict := dd, data := .dict es ep, slots := sl } ∧ R (.ok (.ret .notImplemented)) s) :=
  .of_wp fun prog w A R s h => by obtain ⟨hp, g, d, tk, os⟩ := s; obtain ⟨hl, h⟩ := h; wp_walk using wpAny_loadPart' hl, wpAny_load hl; exact ⟨_, rfl, h⟩
theorem dict_eq_str {prog : Program} {w : World} {A : Around} {E : Value → Shared → Prop} {s : Shared} {Q : Value → Shared → Prop} {a : Addr} {b : Str} {u : Tok} (da : s.TypeIs (.ref a) "dict") (h : Q .notImplemented s) :
    wpAny (model prog w) A (call (.builtin "dict.__eq__") [.ref a, .str b u]) Q E s := by
  refine wpAny_call_entry PySem.F.slot_dict_eq da PySem.F.entry_dict_eq ?_ (PySem.F.args_dict_eq_2 _ _)
  show wpAny _ _ (Builtin.Dict.dictSlotArgs "__eq__" ⟨[.ref a, .str b u], []⟩ >>= _) _ _ s
  refine wpAny_bind ?_
  unfold Builtin.Dict.dictSlotArgs
  refine wpAny_bind (wpAny_notOrdered_dict da ?_)
  show wpAny _ _ (pure (Value.ref a, Value.str b u)) _ _ s
  refine wpAny_pure ?_
  refine wpAny_bind (wpAny_isInstance (T := "str") (typeIs_str s b u) PySem.F.sub_str_dict ?_)
  simp only [Bool.not_false, if_true]
  exact wpAny_bind (wpAny_rule (wpAny_bind (wpAny_pure (wpAny_pure ⟨_, rfl, h⟩))))
section
variable {A : Around} {s : Shared}
theorem eqAt_str_dict {l : Addr} {ob : Obj} (b : Str) (u : Tok) (hl : s.heap.get? l = some ob) (hc : ob.cls = .type "dict") {es : Array DictEntry} {ep : Nat} (hde : ob.data = .dict es ep) (hu : A.units < cLine) : EqAt A s (.str b u) (.ref l) false := fun prog w E Q h => by
  unfold eqBool
  refine wpAny_holding ?_
  refine wpAny_ite_split (fun hab => absurd (eq_of_beq hab) nofun) (fun _ => ?_)
  obtain ⟨cls2, dd2, data2, sl2⟩ := ob
  simp only at hc hde
  subst hc hde
  refine wpAny_bind ?_
  exact rc_eq_decline_or (k := false) (typeIs_str s b u) ⟨_, hl, rfl⟩ (by decide) F.sub_dict_str F.slot_str_eq F.slot_dict_eq_refl
    (fun _ hq => call_meets F.slot_str_eq (typeIs_str s b u) F.entry_str_eq (F.args_str_eq_2 _ _) (str_eq_dict b u l dd2 sl2 es ep) ⟨hl, hq⟩)
    (fun _ hq => dict_eq_str ⟨_, hl, rfl⟩ hq)
    (fun _ hq => wpAny_of_eq (rfl : isSame (.str b u) (.ref l) = pure false) hq) (.inr hu) (wpAny_truthy_bool h)
end
section
variable {X : Cx}
theorem vals_mem : ∀ {zs : List Str} {its : List Value} {y : Value}, Vals (zs.map V.str) its → y ∈ its → ∃ z t, y = .str z t
  | [], _, _, .nil, h => nomatch h
  | z :: zs, _, y, .cons r t, h => by
    rcases List.mem_cons.mp h with rfl | h
    · obtain ⟨tk, e⟩ := r
      exact ⟨z, tk, e⟩
    · exact vals_mem t h
/-- x in a tuple of texts: data that are not deep, or a dict -/
def rInTx (K : PySem.W.Frag) : R2 := fun x y H Q => ∃ (p : Addr) (zs : List Str), y = .ref p ∧ SqT K H p (zs.map V.str) ∧ (∀ z ∈ zs, PyData.strOk z = true) ∧
  ((∃ d, Dp K H x d ∧ d.canLay0 = true ∧ d.depth ≤ 10 ∧ Q (.bl ((tD zs).any fun z => PyData.eqv z d)) H) ∨ ∃ a kvs, x = .ref a ∧ H a = some (.dK kvs) ∧ Q (.bl false) H)
theorem op_inTx (hu : X.A.units + 64 < cLine) : OpR X (compareOp .In) (rInTx X.K) := by
  intro pins s σ H x y v u Q I rx ry h
  obtain ⟨p, zs, rfl, hp, ok, h⟩ := h
  rcases h with ⟨d, hd, sd, dp, q⟩ | ⟨a, kvs, rfl, ea, q⟩
  · obtain ⟨as, r1⟩ := Dp.reads I d x v hd rx
    obtain ⟨bs, r2⟩ := Dp.reads I (.tuple (tD zs)) (.ref p) u (.tup hp (dp_texts zs)) ry
    exact SeqAt.in_tuple_reads r2 r1 (canLay_texts zs ok) sd (by omega) ⟨.bl _, H, I, rfl, q⟩
  · cases rx
    cases ry
    obtain ⟨its, rv, pl, hz⟩ := I.tuple hp
    obtain ⟨_, _, vs, _, hd⟩ := dk_of I.hok ea
    obtain ⟨ob, hb, hD⟩ := Heap.dictOf_iff.mp hd
    obtain ⟨es, ep, ex, ed, _⟩ := hD
    have hcb : ob.cls = .type "dict" := ex.1
    refine SeqAt.in_tupleAt (fun _ => false) pl (fun y hy => ?_) ⟨.bl false, H, I, ?_, q⟩
    · rw [List.mem_toArray] at hy
      obtain ⟨z, t, rfl⟩ := vals_mem rv hy
      exact eqAt_str_dict z t hb hcb ed (by show X.A.units + 1 < cLine; omega)
    · show Value.bool _ = Value.bool false
      rw [Array.any_eq_false' |>.mpr (fun _ _ => by simp)]
end
end Gx

set_option maxRecDepth 100000
set_option maxHeartbeats 4000000
namespace Kl
open PySem PySem.Spec PyProof.Rows L2 Gx Mx
section
variable {X : Cx}
/-! ### tuple(list): a tuple whose object is known; its index -/
theorem call_tupleZ : CallR X (.type "tuple") (fun xs H Q => ∃ p ys, xs = [.ref p] ∧ SqL X.K H p ys ∧ ∀ l H', TupZ H' l ys → H l = none → (∀ b, b ≠ l → H' b = H b) → Q (.ref l) H') := by
  intro pins s σ H xs us Q I r h
  obtain ⟨p, ys, rfl, hq, q⟩ := h
  obtain ⟨u, rfl, rx⟩ := vals1 r
  cases rx
  obtain ⟨its, r', pl, hz⟩ := I.list hq
  have hlen := r'.length
  refine call_tuple_list pl.isList (fun h' kp => ?_) (by simp only [List.size_toArray] <;> omega)
  have I1 : Inv X pins σ H { s with heap := h' } := I.kept (t' := s.toks) kp
  have I2 : Inv X pins σ (upd H h'.objs.size (.frz { cls := .type "tuple", data := .seq its.toArray } (.tup ys))) { s with heap := h'.push { cls := .type "tuple", data := .seq its.toArray } } :=
    I1.laid (t' := s.toks) (fun b o e => Heap.get?_push_of_some _ e) (Nat.le_refl _) (show ObjOk X.prog X.w _ _ _ (.frz _ (.tup ys)) from ⟨Heap.get?_push_size _ rfl, hz, its, r', IsTup.new _ _⟩)
  exact ⟨.ref h'.objs.size, _, I2, rfl, q _ _ ⟨_, rfl, upd_same⟩ (I1.hok.fresh (Nat.le_refl _)) (fun b n => upd_ne n)⟩
def tyTupZ (x : V) (H : Hp) : Prop := ∃ a xs, x = .ref a ∧ TupZ H a xs
theorem ty_tupZ : TyOk X "tuple" tyTupZ := by
  intro pins σ H s x v I r ty
  obtain ⟨a, xs, rfl, ob, hd, e⟩ := ty
  cases r
  obtain ⟨e1, hz, its, rv, o2, e2, hc, _⟩ := I.hok a _ e
  rw [e1] at e2
  cases e2
  refine ⟨⟨_, e1, hc⟩, fun b q => ?_⟩
  cases q
  exact ⟨_, e1, hd⟩
end
section
variable {P : Program} {w : World} {K : PySem.W.Frag} {mg : Str → Option Value} {base : Heap}
/-! ### in, [..], len, str -/
def spKHas (K : PySem.W.Frag) (C : Addr) : Sp := fun vs H Q _ => ∃ (x md : Addr) (leaf : Str) (M : Mak) (ns : List Str) (v : V), vs = [V.ref x, v] ∧ KindsAt C H x md leaf M ns ∧ (∀ z ∈ ns, PyData.strOk z = true) ∧
  ((∃ d, Dp K H v d ∧ d.canLay0 = true ∧ d.depth ≤ 10 ∧ Q (.bl ((tD ns).any fun z => PyData.eqv z d)) H) ∨ ∃ a kvs, v = .ref a ∧ H a = some (.dK kvs) ∧ Q (.bl false) H)
theorem ok_khas {C f : Addr} {fd : FuncData} (F : Fun K "__contains__" "Kinds.__contains__" s_Kinds_contains f fd) (T : Top K mg) (TC : Cl_Kinds K mg C) : FnOk P w K mg base CX0 1 f fd ["self", "value"] (spKHas K C) := by
  refine F.ok sc_Kinds_contains (fun vs H Q E h => ?_) (fun cdv A outer s H vs Q E hr h => ?_)
  · obtain ⟨x, md, leaf, M, ns, v, rfl, _⟩ := h
    rfl
  · obtain ⟨x, md, leaf, M, ns, v, rfl, ⟨dx, nt, kvs, hx, hd, hM, hn⟩, ok, q⟩ := h
    have hu := hu_of hr
    refine ⟨_, pss_one (ps_ret (pe_cmpR (op_inTx hr.units) (pv 1) (pe_fld (pv 0) rfl) (by rfl))), ?_⟩
    exact ⟨_, rfl, _, rfl, x, C, dx, _, _, rfl, hx, TC.cl, TC.n_names, kf_names _ _ _, nt, ns, rfl, .inl (.inl hn), ok, q⟩
def spKGet (C : Addr) : Sp := fun vs H Q _ => ∃ (x md : Addr) (leaf : Str) (M : Mak) (ns : List Str) (z : Str), vs = [V.ref x, .str z] ∧ KindsAt C H x md leaf M ns ∧ z ∈ ns ∧
  ∀ p H', Same H H' → ((∃ ps, lookM M z = some ps ∧ TupZ H' p (ps.map V.str)) ∨ (lookM M z = none ∧ H' p = some (.tup []))) → Q (.ref p) H'
theorem ok_kget {C f : Addr} {fd : FuncData} (F : Fun K "__getitem__" "Kinds.__getitem__" s_Kinds_getitem f fd) (T : Top K mg) (TC : Cl_Kinds K mg C) : FnOk P w K mg base CX0 1 f fd ["self", "name"] (spKGet C) := by
  refine F.ok sc_Kinds_getitem (fun vs H Q E h => ?_) (fun cdv A outer s H vs Q E hr h => ?_)
  · obtain ⟨x, md, leaf, M, ns, z, rfl, _⟩ := h
    rfl
  · obtain ⟨x, md, leaf, M, ns, z, rfl, ⟨dx, nt, kvs, hx, hd, hM, hn⟩, hz, q⟩ := h
    have hu := hu_of hr
    refine ⟨_, pss_cons (ps_if (pt_cmpR op_notIn_seq (pv 1) (pe_fld (pv 0) rfl) (by rfl)) (pss_one ps_never) pss_nil)
      (pss_one (ps_ret (pe_dget2 hu (pe_fld (pv 0) rfl) (pv 1) (pe_tup pa_nil) (by constructor <;> rfl)))), ?_⟩
    refine ⟨_, rfl, _, rfl, x, C, dx, _, _, rfl, hx, TC.cl, TC.n_names, kf_names _ _ _, nt, _, rfl, .inr (.inl (.inl hn)), rfl, flat_strs' ns, _, rfl, ?_⟩
    have e : inV (V.str z) (ns.map V.str) = true := by rw [inV_strs, decide_eq_true hz]
    simp only [e, if_true, Bool.not_true, Bool.false_eq_true, if_false]
    refine ⟨_, rfl, x, C, dx, _, _, rfl, hx, TC.cl, TC.n_makings, kf_mak _ _ _, md, rfl, .inl ⟨kvs, .inl hd⟩, _, rfl, Nat.zero_le _, fun p np => ?_⟩
    have s1 : Same H (upd H p (.tup [])) := same_new (Same.refl H) np
    have hd1 := s1 _ _ hd
    rcases hM.get z with ⟨e1, e2⟩ | ⟨ps, a, e1, e2, e3⟩
    · refine ⟨none, .inl ⟨kvs, Sum.inr z, .inl hd1, rfl, e2.symm⟩, ?_⟩
      exact q p _ s1 (.inr ⟨e1, upd_same⟩)
    · refine ⟨some (.ref a), .inl ⟨kvs, Sum.inr z, .inl hd1, rfl, e2.symm⟩, ?_⟩
      exact q a _ s1 (.inl ⟨ps, e1, e3.mono s1⟩)
def spKLen (C : Addr) : Sp := fun vs H Q _ => ∃ (x md : Addr) (leaf : Str) (M : Mak) (ns : List Str), vs = [V.ref x] ∧ KindsAt C H x md leaf M ns ∧ Q (.int (ns.length : Nat)) H
theorem ok_klen {C f : Addr} {fd : FuncData} (F : Fun K "__len__" "Kinds.__len__" s_Kinds_len f fd) (T : Top K mg) (TC : Cl_Kinds K mg C) : FnOk P w K mg base CX0 1 f fd ["self"] (spKLen C) := by
  refine F.ok sc_Kinds_len (fun vs H Q E h => ?_) (fun cdv A outer s H vs Q E hr h => ?_)
  · obtain ⟨x, md, leaf, M, ns, rfl, _⟩ := h
    rfl
  · obtain ⟨x, md, leaf, M, ns, rfl, ⟨dx, nt, kvs, hx, hd, hM, hn⟩, q⟩ := h
    refine ⟨_, pss_one (ps_ret (pe_callB call_len_seq (by rfl) T.b_len PySem.boot_len (pa_cons (pe_fld (pv 0) rfl) pa_nil))), ?_⟩
    refine ⟨_, rfl, x, C, dx, _, _, rfl, hx, TC.cl, TC.n_names, kf_names _ _ _, nt, _, rfl, .inr (.inl (.inl hn)), ?_⟩
    rw [List.length_map]
    exact q
def strK (n : Nat) (leaf : Str) : Str := ((toString (n : Int) : Str) ++ " kinds, leaf ") ++ leaf
theorem strK_len {n : Nat} (h : n ≤ 6) : ((toString (n : Int) : Str)).length ≤ 8 := by
  have e : (List.range 7).all (fun n => decide (((toString (n : Int) : Str)).length ≤ 8)) = true := by decide +kernel
  exact of_decide_eq_true (List.all_eq_true.mp e n (List.mem_range.mpr (by omega)))
theorem log_six {n : Nat} (h : n ≤ 6) : ((n : Int)).natAbs.log2 < 1920 := by
  have e : (List.range 7).all (fun n => decide (((n : Int)).natAbs.log2 < 1920)) = true := by decide +kernel
  exact of_decide_eq_true (List.all_eq_true.mp e n (List.mem_range.mpr (by omega)))
def spKStr (C : Addr) : Sp := fun vs H Q _ => ∃ (x md : Addr) (leaf : Str) (M : Mak) (ns : List Str), vs = [V.ref x] ∧ KindsAt C H x md leaf M ns ∧ ns.length ≤ 6 ∧ leaf.length ≤ 8 ∧ Q (.str (strK ns.length leaf)) H
theorem ok_kstr {C f : Addr} {fd : FuncData} (F : Fun K "__str__" "Kinds.__str__" s_Kinds_str f fd) (T : Top K mg) (TC : Cl_Kinds K mg C) : FnOk P w K mg base CX0 1 f fd ["self"] (spKStr C) := by
  refine F.ok sc_Kinds_str (fun vs H Q E h => ?_) (fun cdv A outer s H vs Q E hr h => ?_)
  · obtain ⟨x, md, leaf, M, ns, rfl, _⟩ := h
    rfl
  · obtain ⟨x, md, leaf, M, ns, rfl, ⟨dx, nt, kvs, hx, hd, hM, hn⟩, l6, l8, q⟩ := h
    refine ⟨_, pss_one (ps_ret (pe_joinedN (.cons (pe_fmt (pe_callB call_len_seq (by rfl) T.b_len PySem.boot_len (pa_cons (pe_fld (pv 0) rfl) pa_nil))) (.cons pe_str (.cons (pe_fmt (pe_fld (pv 0) rfl)) .nil))))), ?_⟩
    refine ⟨_, rfl, x, C, dx, _, _, rfl, hx, TC.cl, TC.n_names, kf_names _ _ _, nt, _, rfl, .inr (.inl (.inl hn)), .inr ⟨(ns.length : Int), by rw [List.length_map], log_six l6, ?_⟩⟩
    have k14 : (" kinds, leaf " : Str).length = 13 := rfl
    have big : 1000 ≤ sizeLine := by decide
    have e8 := strK_len l6
    refine ⟨_, rfl, by rw [empty_app]; omega, _, rfl, by rw [empty_app, len_app]; omega, _, rfl, x, C, dx, _, _, rfl, hx, TC.cl, TC.n_leaf, kf_leaf _ _ _, .inl ⟨leaf, rfl, by omega, _, rfl, by rw [empty_app, len_app, len_app]; omega, ?_⟩⟩
    rw [empty_app]
    exact q
end
end Kl

set_option maxRecDepth 100000
set_option maxHeartbeats 4000000
namespace Gx
open PySem PySem.Spec PyProof.Rows L2
/-! ### sets whose members are tuples, nested or not -/
section
variable {P : Program} {w : World}
/-- v holds nothing of a class statement, n levels down -/
def Plainly (P : Program) (w : World) (n : Nat) (s : Shared) (v : Value) : Prop := ∀ (A : Around) (E : Value → Shared → Prop) (Q : Bool → Shared → Prop), Q false s → wpAny (model P w) A (ofAClassStatement n v) Q E s
/-- whether the hash goes by value is told, n levels down -/
def Sayable (P : Program) (w : World) (n : Nat) (s : Shared) (v : Value) : Prop := ∀ (A : Around) (E : Value → Shared → Prop) (Q : Bool → Shared → Prop), (∀ b, Q b s) → wpAny (model P w) A (hashByValue n v) Q E s
theorem Plainly.tuple {n : Nat} {s : Shared} {a : Addr} {ob : Obj} {its : Array Value} {m : Nat} (e1 : s.heap.get? a = some ob) (e2 : ob.cls = .type "tuple") (e3 : ob.data = .seq its m) (all : ∀ v ∈ its.toList, Plainly P w n s v) : Plainly P w (n + 1) s (.ref a) := fun A E Q q => by
  have tp : s.TypeIs (.ref a) "tuple" := ⟨ob, e1, e2⟩
  unfold ofAClassStatement
  refine wpAny_bind <| wpAny_typeOf tp ?_
  dsimp only
  have same : (("tuple" : String) == "tuple") = true := by decide
  simp only [same, if_true, Bool.not_true, Bool.false_eq_true, if_false]
  try refine wpAny_bind (wpAny_pure ?_)
  try simp only [Bool.not_true, Bool.false_eq_true, if_false]
  refine wpAny_bind <| wpAny_seqItems e1 e3 ?_
  dsimp only
  refine wpAny_bind ?_
  show wpAny _ _ (forIn its _ _) _ _ s
  rw [← Array.forIn_toList]
  refine wpAny_forIn_list _ (fun left r st => (r.1 = none ∧ st = s) ∧ ∀ v ∈ left, Plainly P w n s v) _ ?_ ?_ _ _ ⟨⟨rfl, rfl⟩, all⟩
  · rintro v left r st ⟨⟨_, rfl⟩, every⟩
    refine wpAny_bind <| every v List.mem_cons_self _ _ _ ?_
    simp only [Bool.false_eq_true, if_false]
    exact wpAny_pure ⟨⟨rfl, rfl⟩, fun u m => every u (List.mem_cons_of_mem _ m)⟩
  · rintro ⟨r1, r2⟩ st ⟨⟨c, rfl⟩, _⟩
    dsimp only at c
    subst c
    exact wpAny_pure q
theorem Sayable.tuple {n : Nat} {s : Shared} {a : Addr} {ob : Obj} {its : Array Value} {m : Nat} (e1 : s.heap.get? a = some ob) (e2 : ob.cls = .type "tuple") (e3 : ob.data = .seq its m) (all : ∀ v ∈ its.toList, Sayable P w n s v) : Sayable P w (n + 1) s (.ref a) := fun A E Q q => by
  have tp : s.TypeIs (.ref a) "tuple" := ⟨ob, e1, e2⟩
  unfold hashByValue
  refine wpAny_bind <| wpAny_specialOf tp F.slot_tuple_hash.lookup ?_
  dsimp only
  refine wpAny_bind <| wpAny_seqItems e1 e3 ?_
  refine wpAny_bind ?_
  show wpAny _ _ (forIn its _ _) _ _ s
  rw [← Array.forIn_toList]
  refine wpAny_forIn_list _ (fun left r st => (r.1 = none ∧ st = s) ∧ ∀ v ∈ left, Sayable P w n s v) _ ?_ ?_ _ _ ⟨⟨rfl, rfl⟩, all⟩
  · rintro v left r st ⟨⟨_, rfl⟩, every⟩
    refine wpAny_bind <| every v List.mem_cons_self _ _ _ fun b => ?_
    cases b
    · simp only [Bool.not_false, if_true]
      exact wpAny_pure (wpAny_pure (q false))
    · simp only [Bool.not_true, Bool.false_eq_true, if_false]
      exact wpAny_pure ⟨⟨rfl, rfl⟩, fun u m => every u (List.mem_cons_of_mem _ m)⟩
  · rintro ⟨r1, r2⟩ st ⟨⟨c, rfl⟩, _⟩
    dsimp only at c
    subst c
    exact wpAny_pure (q true)
mutual
theorem plainly_key : ∀ (k : NestedKey) (v : Value) (n : Nat) (s : Shared), NestedIs s.heap k v → k.depth ≤ n → Plainly P w n s v
  | .none, _, n, s, x, _ => by cases x; exact fun A E Q q => by cases n <;> exact wpAny_pure q
  | .num i, _, n, s, x, _ => by cases x <;> exact fun A E Q q => by cases n <;> exact wpAny_pure q
  | .text y, _, n, s, x, _ => by cases x; exact fun A E Q q => by cases n <;> exact wpAny_pure q
  | .tup ks, _, n, s, x, low => by
    cases x with
    | tup e1 e2 e3 each =>
      rw [NestedKey.depth] at low
      obtain ⟨n, rfl⟩ : ∃ j, n = j + 1 := ⟨n - 1, by omega⟩
      exact .tuple e1 e2 e3 (plainly_keys ks _ n s each (by omega))
theorem plainly_keys : ∀ (ks : List NestedKey) (vs : List Value) (n : Nat) (s : Shared), NestedAll s.heap ks vs → NestedKey.depthAll ks ≤ n → ∀ v ∈ vs, Plainly P w n s v
  | [], _, n, s, x, _, v, m => by cases x; cases m
  | k :: ks, _, n, s, x, low, v, m => by
    cases x with
    | cons x1 x2 =>
      rw [NestedKey.depthAll] at low
      rcases List.mem_cons.mp m with e | m
      · subst e; exact plainly_key k _ n s x1 (by omega)
      · exact plainly_keys ks _ n s x2 (by omega) v m
end
mutual
theorem sayable_key : ∀ (k : NestedKey) (v : Value) (n : Nat) (s : Shared), NestedIs s.heap k v → k.depth ≤ n → Sayable P w n s v
  | .none, _, n, s, x, _ => by cases x; exact fun A E Q q => by cases n <;> exact wpAny_pure (q _)
  | .num i, _, n, s, x, _ => by cases x <;> exact fun A E Q q => by cases n <;> exact wpAny_pure (q _)
  | .text y, _, n, s, x, _ => by cases x; exact fun A E Q q => by cases n <;> exact wpAny_pure (q _)
  | .tup ks, _, n, s, x, low => by
    cases x with
    | tup e1 e2 e3 each =>
      rw [NestedKey.depth] at low
      obtain ⟨n, rfl⟩ : ∃ j, n = j + 1 := ⟨n - 1, by omega⟩
      exact .tuple e1 e2 e3 (sayable_keys ks _ n s each (by omega))
theorem sayable_keys : ∀ (ks : List NestedKey) (vs : List Value) (n : Nat) (s : Shared), NestedAll s.heap ks vs → NestedKey.depthAll ks ≤ n → ∀ v ∈ vs, Sayable P w n s v
  | [], _, n, s, x, _, v, m => by cases x; cases m
  | k :: ks, _, n, s, x, low, v, m => by
    cases x with
    | cons x1 x2 =>
      rw [NestedKey.depthAll] at low
      rcases List.mem_cons.mp m with e | m
      · subst e; exact sayable_key k _ n s x1 (by omega)
      · exact sayable_keys ks _ n s x2 (by omega) v m
end
end
/-- at b stands the key k, in the true heap -/
def IsN (h : Heap) (k : NestedKey) (b : Addr) : Prop := NestedIs h k (.ref b) ∧ k.depth ≤ 8
theorem IsN.keep {h h' : Heap} {k : NestedKey} {b : Addr} (x : IsN h k b) (kp : ∀ c o its n, h.get? c = some o → o.data = .seq its n → h'.get? c = some o) : IsN h' k b := ⟨NestedIs.at kp k _ x.1, x.2⟩
theorem IsN.one {h : Heap} {k k' : NestedKey} {b : Addr} (x : IsN h k b) (y : IsN h k' b) : k = k' := NestedIs.inj _ _ _ x.1 y.1
abbrev NMs := List (Addr × NestedKey)
def rowsN (w : World) (L : NMs) : List (Int × Value) := L.map fun p => (p.2.hash w, Value.ref p.1)
abbrev hashN (w : World) (L : NMs) : List Int := L.map fun p => p.2.hash w
/-- the set's own object: its rows and its table -/
structure SetNAt (w : World) (h : Heap) (a : Addr) (L : NMs) (es : Array (Int × Value)) (ep : Nat) (t : SetTable) : Prop where
  here : ∃ ob, h.get? a = some ob ∧ ob.ExactSet ∧ ob.data = .set es ep t
  rows : es.toList = rowsN w L
  tab : TabOk t (hashN w L)
  once : (L.map (·.2)).Nodup
  led : w.params.followText "set-order" = true ∨ t.led = true
  room : L.length * 5 < t.mask * 3
  few : L.length < 64
section
variable {P : Program} {w : World} {A : Around} {E : Value → Shared → Prop} {s : Shared} {a : Addr} {L : NMs} {es : Array (Int × Value)} {ep : Nat} {t : SetTable}
theorem rowsN_len {L : NMs} {es : Array (Int × Value)} (e : es.toList = rowsN w L) : es.size = L.length := by
  have q := congrArg List.length e
  simpa [rowsN] using q
theorem rowsN_get {L : NMs} {es : Array (Int × Value)} (e : es.toList = rowsN w L) {i : Nat} {p : Addr × NestedKey} (g : L[i]? = some p) : es[i]? = some (p.2.hash w, Value.ref p.1) := by
  rw [← Array.getElem?_toList, e, rowsN, List.getElem?_map, g]
  rfl
theorem SetNAt.ft (R : SetNAt w s.heap a L es ep t) : t.fits es.size = true := by
  have z1 : t.place.size = L.length := by rw [R.tab.sz]; simp [hashN]
  have z2 := rowsN_len R.rows
  have z3 := R.room
  simp only [SetTable.fits, SetTable.fill, R.tab.dm, Bool.and_eq_true, beq_iff_eq, decide_eq_true_eq]
  show t.place.size = es.size ∧ t.place.size + 0 ≤ t.mask
  omega
theorem SetNAt.stays (R : SetNAt w s.heap a L es ep t) : ¬ t.gaveWay = true := by
  rw [SetTable.gaveWay, mask_odd R.tab.mok]
  decide
/-- asking among keys shows nothing -/
theorem unseen_key {k : NestedKey} {b : Addr} {Q : Bool → Shared → Prop} (x : IsN s.heap k b) {ys : List Value} (all : ∀ y ∈ ys, ∃ k' c, y = Value.ref c ∧ IsN s.heap k' c) (q : Q false s) :
    wpAny (model P w) A (searchCouldBeSeen (.ref b) ys) Q E s := by
  unfold searchCouldBeSeen
  refine wpAny_bind ?_
  refine wpAny_forIn_list _ (fun left r st => (r.1 = none ∧ st = s) ∧ ∀ y ∈ left, ∃ k' c, y = Value.ref c ∧ IsN s.heap k' c) _ ?_ ?_ _ _ ⟨⟨rfl, rfl⟩, all⟩
  · rintro v left r st ⟨⟨_, rfl⟩, every⟩
    obtain ⟨k', c, rfl, xc⟩ := every v List.mem_cons_self
    have rest : ∀ y ∈ left, ∃ k' c, y = Value.ref c ∧ IsN st.heap k' c := fun u m => every u (List.mem_cons_of_mem _ m)
    dsimp only
    by_cases very : (b == c || (carriedByValue (.ref b) && carriedByValue (.ref c))) = true
    · exact wp_if_pos very (wpAny_pure ⟨⟨rfl, rfl⟩, rest⟩)
    · refine wp_if_neg very ?_
      refine wpAny_bind <| quiet_key k _ 8 st x.1 x.2 _ _ _ ?_
      simp only [Bool.not_true, Bool.false_eq_true, if_false]
      refine wpAny_bind <| quiet_key k' _ 8 st xc.1 xc.2 _ _ _ ?_
      simp only [Bool.not_true, Bool.false_eq_true, if_false]
      refine wpAny_bind <| plainly_key k _ 8 st x.1 x.2 _ _ _ ?_
      simp only [Bool.false_eq_true, if_false]
      refine wpAny_bind <| plainly_key k' _ 8 st xc.1 xc.2 _ _ _ ?_
      simp only [Bool.false_eq_true, if_false]
      exact wpAny_pure ⟨⟨rfl, rfl⟩, rest⟩
  · rintro ⟨r1, r2⟩ st ⟨⟨c, rfl⟩, _⟩
    dsimp only at c
    subst c
    exact wpAny_pure q
theorem same_key {k k' : NestedKey} {b c : Addr} {Q : Bool → Shared → Prop} (room : A.units + 9 < cLine) (x : IsN s.heap k b) (y : IsN s.heap k' c) (q : Q (decide (k = k')) s) :
    wpAny (model P w) A (eqBool (.ref b) (.ref c)) Q E s :=
  (nestedKind P w).eqBool (show A.units + 8 < cLine by omega) x y q
/-- the start of the way of h -/
abbrev pr0 (m : Nat) (h : Int) : SetTable.Probe := runAt m (SetTable.bits h % (m + 1)) (SetTable.bits h)
theorem nth_dummy (m : Nat) : ∀ (n : Nat) (p : SetTable.Probe), p.dummy = none → (nth m p n).dummy = none
  | 0, _, e => e
  | n + 1, p, e => nth_dummy m n (adv m p) (by unfold adv; split <;> exact e)
/-- the search for the key k, from the c-th step of its way on -/
theorem seek_key (R : SetNAt w s.heap a L es ep t) (tup : ∀ p ∈ L, IsN s.heap p.2 p.1) {x : Addr} {k : NestedKey} {adding : Bool} (hx : IsN s.heap k x) (room : A.units + 9 < cLine) {K : Nat} (bound : K < 10 * SetTable.turns t.mask)
    (free : way t.mask (k.hash w) K ∉ t.place.toList) (taken : ∀ c, c < K → way t.mask (k.hash w) c ∈ t.place.toList) {Q : SetFound → Shared → Prop}
    (yes : k ∈ L.map (·.2) → ∀ r, Q (.there r) s) (no : k ∉ L.map (·.2) → Q (.free (way t.mask (k.hash w) K) false) s) :
    ∀ (f c : Nat) (stand : Option SetTable.Probe), stand.getD (t.probeStart (k.hash w)) = nth t.mask (pr0 t.mask (k.hash w)) c → c ≤ K → K - c < f →
      (∀ (i : Nat) p, L[i]? = some p → p.2 = k → ∃ c', c ≤ c' ∧ c' < K ∧ t.place.toList[i]? = some (way t.mask (k.hash w) c')) →
      wpAny (model P w) A (setSearchFrom a (.ref x) (k.hash w) adding f stand) Q E s
  | 0, c, stand, _, _, less, _ => absurd less (Nat.not_lt_zero _)
  | f + 1, c, stand, from', upto, less, ahead => by
    obtain ⟨ob, here, ex, dt⟩ := R.here
    rw [setSearchFrom_succ]
    refine wpAny_bind <| wpAny_setState_of here dt R.ft ?_
    dsimp only
    refine wp_if_neg R.stays ?_
    try refine wpAny_bind (wpAny_pure ?_)
    have dum : (nth t.mask (pr0 t.mask (k.hash w)) c).dummy = none := nth_dummy _ _ _ rfl
    have on : ∀ q, nth t.mask (nth t.mask (pr0 t.mask (k.hash w)) c) q = nth t.mask (pr0 t.mask (k.hash w)) (c + q) := fun q => (nth_add t.mask c _ q).symm
    have onj : ∀ q, (nth t.mask (nth t.mask (pr0 t.mask (k.hash w)) c) q).j = way t.mask (k.hash w) (c + q) := fun q => congrArg SetTable.Probe.j (on q)
    have hashed : ∀ (i : Nat) p, L[i]? = some p → (fun i => (es[i]?.map (·.1)).getD 0) i = p.2.hash w := fun i p g => by
      show (es[i]?.map (·.1)).getD 0 = _
      rw [rowsN_get R.rows g]
      rfl
    rcases go_spec t R.tab.ris R.tab.dm (fun i => (es[i]?.map (·.1)).getD 0) (k.hash w) (10 * SetTable.turns t.mask) (K - c) _ dum (by omega)
        (fun q lt => by rw [onj]; exact taken (c + q) (by omega)) (by rw [onj, show c + (K - c) = K by omega]; exact free) with ⟨q, i, lt, at_, _, none_, probed⟩ | ⟨none_, probed⟩
    · have asked : t.probe (fun i => (es[i]?.map (·.1)).getD 0) (k.hash w) (stand.getD (t.probeStart (k.hash w))) = some (.candidate (way t.mask (k.hash w) (c + q)) i (nth t.mask (pr0 t.mask (k.hash w)) (c + (q + 1)))) := by
        rw [from', ← onj, ← on]
        exact probed
      rw [asked]
      dsimp only
      rw [onj] at at_
      have il : i < L.length := by
        have q1 : i < t.place.toList.length := (List.getElem?_eq_some_iff.mp at_).1
        have q2 : t.place.size = L.length := by rw [R.tab.sz]; simp [hashN]
        rw [Array.length_toList] at q1
        omega
      obtain ⟨p, gp⟩ : ∃ p, L[i]? = some p := ⟨_, List.getElem?_eq_getElem il⟩
      have pm : p ∈ L := List.mem_of_getElem? gp
      have rest : wpAny (model P w) A (searchRest a (.ref x) (k.hash w) adding f es t (way t.mask (k.hash w) (c + q)) i (nth t.mask (pr0 t.mask (k.hash w)) (c + (q + 1)))) Q E s := by
        unfold searchRest
        rw [rowsN_get R.rows gp]
        dsimp only
        refine wpAny_bind <| wpAny_holding <| same_key room (tup p pm) hx ?_
        refine wpAny_bind <| wpAny_setState_of here dt R.ft ?_
        dsimp only
        have live : t.slot (way t.mask (k.hash w) (c + q)) = .live i := slot_live R.tab.ris at_
        by_cases eqk : p.2 = k
        · have inL : k ∈ L.map (·.2) := List.mem_map.mpr ⟨p, pm, eqk⟩
          cases adding
          · refine wp_if_neg (by simp) ?_
            try refine wpAny_bind (wpAny_pure ?_)
            rw [sameMem]
            dsimp only
            simp only [if_true, live, rowsN_get R.rows gp]
            refine wpAny_bind (wpAny_isSame_ref_self (wpAny_bind (wpAny_pure ?_)))
            simp only [if_true]
            exact wp_if_pos (by simp [eqk]) (wpAny_pure (yes inL _))
          · exact wp_if_pos (by simp [eqk]) (wpAny_pure (yes inL _))
        · refine wp_if_neg (by simp [eqk]) ?_
          try refine wpAny_bind (wpAny_pure ?_)
          rw [sameMem]
          dsimp only
          simp only [if_true, live, rowsN_get R.rows gp]
          refine wpAny_bind (wpAny_isSame_ref_self (wpAny_bind (wpAny_pure ?_)))
          simp only [if_true]
          refine wp_if_neg (by simp [eqk]) ?_
          refine seek_key R tup hx room bound free taken yes no f (c + (q + 1)) _ rfl (by omega) (by omega) fun i0 p0 g0 ek => ?_
          obtain ⟨c', l1, l2, g2⟩ := ahead i0 p0 g0 ek
          refine ⟨c', ?_, l2, g2⟩
          rcases Nat.lt_trichotomy c' (c + q) with z | z | z
          · exact absurd ((hashed i0 p0 g0).trans (congrArg (NestedKey.hash w) ek)) (none_ (c' - c) i0 (by omega) (by rw [onj, show c + (c' - c) = c' by omega]; exact g2))
          · exfalso
            subst z
            have l0 := slot_live R.tab.ris g2
            rw [live] at l0
            injection l0 with l0
            subst l0
            rw [gp] at g0
            exact eqk ((congrArg Prod.snd (Option.some.inj g0)).trans ek)
          · omega
      by_cases led : t.led = true
      · refine wp_if_neg (by simp [led]) ?_
        try refine wpAny_bind (wpAny_pure ?_)
        exact rest
      · refine wp_if_pos (by simp [led]) ?_
        refine wpAny_bind <| unseen_key hx (fun y my => ?_) ?_
        · obtain ⟨e, me, ee⟩ := List.mem_map.mp my
          have me2 : e ∈ es.toList := by
            have m3 : e ∈ es ∧ e.1 = k.hash w := by simpa using me
            simpa using m3.1
          rw [R.rows] at me2
          obtain ⟨p2, mp2, e2⟩ := List.mem_map.mp me2
          exact ⟨p2.2, p2.1, by rw [← ee, ← e2], tup p2 mp2⟩
        · refine wp_if_neg (by decide) ?_
          try refine wpAny_bind (wpAny_pure ?_)
          exact rest
    · have asked : t.probe (fun i => (es[i]?.map (·.1)).getD 0) (k.hash w) (stand.getD (t.probeStart (k.hash w))) = some (.empty (way t.mask (k.hash w) K) none) := by
        have e2 : way t.mask (k.hash w) K = (nth t.mask (nth t.mask (pr0 t.mask (k.hash w)) c) (K - c)).j := by rw [onj, show c + (K - c) = K by omega]
        rw [from', e2]
        exact probed
      rw [asked]
      dsimp only
      refine wpAny_pure (no fun mem => ?_)
      obtain ⟨p0, m0, ek⟩ := List.mem_map.mp mem
      obtain ⟨i0, lt0, e0⟩ := List.getElem_of_mem m0
      have g0 : L[i0]? = some p0 := by rw [List.getElem?_eq_getElem lt0, e0]
      obtain ⟨c', l1, l2, g2⟩ := ahead i0 p0 g0 ek
      exact none_ (c' - c) i0 (by omega) (by rw [onj, show c + (c' - c) = c' by omega]; exact g2) ((hashed i0 p0 g0).trans (congrArg (NestedKey.hash w) ek))
theorem seek_from (R : SetNAt w s.heap a L es ep t) (tup : ∀ p ∈ L, IsN s.heap p.2 p.1) {x : Addr} {k : NestedKey} {adding : Bool} (hx : IsN s.heap k x) (room : A.units + 9 < cLine) {Q : SetFound → Shared → Prop}
    (yes : k ∈ L.map (·.2) → ∀ r, Q (.there r) s)
    (no : ∀ K, k ∉ L.map (·.2) → way t.mask (k.hash w) K ∉ t.place.toList → (∀ c, c < K → way t.mask (k.hash w) c ∈ t.place.toList) → Q (.free (way t.mask (k.hash w) K) false) s) :
    wpAny (model P w) A (setSearch a (.ref x) (k.hash w) adding) Q E s := by
  have rm := R.room
  obtain ⟨K, bound, free, taken⟩ := R.tab.first (by simp only [hashN, List.length_map]; omega) (k.hash w)
  have small : K < 100000 := by
    have : 10 * SetTable.turns t.mask ≤ 1420 := by
      unfold SetTable.turns
      rcases R.tab.mok with e | e | e <;> omega
    omega
  unfold setSearch
  refine seek_key R tup hx room bound free taken yes (fun n => no K n free taken) 100000 0 none rfl (Nat.zero_le _) (by omega) fun i p g ek => ?_
  have gh : (hashN w L)[i]? = some (k.hash w) := by rw [hashN, List.getElem?_map, g, ← ek]; rfl
  have il : i < t.place.toList.length := by
    have q1 : i < L.length := (List.getElem?_eq_some_iff.mp g).1
    have q2 : t.place.size = L.length := by rw [R.tab.sz]; simp [hashN]
    rw [Array.length_toList]
    omega
  have gj := List.getElem?_eq_getElem il
  obtain ⟨c, lt, e⟩ := R.tab.before free gh gj
  exact ⟨c, Nat.zero_le _, lt, by rw [gj, e]⟩
end
end Gx

set_option maxRecDepth 100000
set_option maxHeartbeats 4000000
namespace Gx
open PySem PySem.Spec PyProof.Rows L2
section
variable {P : Program} {w : World} {A : Around} {E : Value → Shared → Prop} {s : Shared} {a : Addr} {L : NMs} {es : Array (Int × Value)} {ep : Nat} {t : SetTable}
theorem IsN.but {h h' : Heap} {k : NestedKey} {a b : Addr} {ob : Obj} {es : Array (Int × Value)} {ep : Nat} {t : SetTable} (x : IsN h k b) (here : h.get? a = some ob) (dt : ob.data = .set es ep t) (sb : Heap.SameBut a h h') : IsN h' k b :=
  x.keep fun c o its n e d => (sb.2 c (by
    rintro rfl
    rw [here] at e
    cases e
    rw [dt] at d
    exact nomatch d)).trans e
/-- rows taken in another order -/
theorem reorder : ∀ (l : List Nat) (L : NMs) (es : Array (Int × Value)), es.toList = rowsN w L → (∀ i ∈ l, i < L.length) →
    l.filterMap (fun i => es[i]?) = rowsN w (l.filterMap fun i => L[i]?) ∧ (hashN w (l.filterMap fun i => L[i]?)) = l.map fun i => (es.map (·.1)).getD i 0
  | [], _, _, _, _ => ⟨rfl, rfl⟩
  | i :: l, L, es, e, lt => by
    have li := lt i List.mem_cons_self
    obtain ⟨q1, q2⟩ := reorder l L es e fun j m => lt j (List.mem_cons_of_mem _ m)
    have g : L[i]? = some L[i] := List.getElem?_eq_getElem li
    have ge := rowsN_get e g
    constructor
    · rw [List.filterMap_cons_some ge, List.filterMap_cons_some g, q1]
      rfl
    · rw [List.filterMap_cons_some g]
      show L[i].2.hash w :: hashN w _ = _ :: _
      rw [q2]
      have h1 : (es.map (·.1)).getD i 0 = L[i].2.hash w := by
        have h2 : (es.map (·.1))[i]? = some (L[i].2.hash w) := by rw [Array.getElem?_map, ge]; rfl
        simp [Array.getD_eq_getD_getElem?, h2]
      exact congrArg (· :: _) h1.symm
theorem all_places : ∀ (n : Nat) (L : NMs), n ≤ L.length → (List.range n).filterMap (fun i => L[i]?) = L.take n
  | 0, _, _ => rfl
  | n + 1, L, le => by
    rw [List.range_succ, List.filterMap_append, all_places n L (Nat.le_of_lt le), List.take_succ, List.getElem?_eq_getElem le, List.filterMap_cons_some (List.getElem?_eq_getElem le)]
    rfl
/-- the table is laid anew, larger -/
theorem relayN {ob : Obj} (here : s.heap.get? a = some ob) (ex : ob.ExactSet) (dt : ob.data = .set es ep t) (rows : es.toList = rowsN w L) (sz : t.place.size = es.size) (dum : t.dummies = #[]) (fl : es.size ≤ t.mask)
    (once : (L.map (·.2)).Nodup) (led : w.params.followText "set-order" = true ∨ t.led = true) (few : L.length < 64) {wanted M : Nat}
    (size : SetTable.sizeAbove wanted - 1 = M) (ok : MaskOk M) (upto : SetTable.sizeAbove wanted ≤ 128) (room : L.length * 5 < M * 3) {Q : Unit → Shared → Prop}
    (hQ : ∀ h' L' es' ep' t', Heap.SameBut a s.heap h' → SetNAt w h' a L' es' ep' t' → L'.Perm L → Q () { s with heap := h' }) : wpAny (model P w) A (setRelay a wanted) Q E s := by
  have len := rowsN_len rows
  have ft : t.fits es.size = true := by
    simp only [SetTable.fits, SetTable.fill, dum, Bool.and_eq_true, beq_iff_eq, decide_eq_true_eq]
    show t.place.size = es.size ∧ t.place.size + 0 ≤ t.mask
    omega
  obtain ⟨t2, order, laid, pm, T, em, el, _, _⟩ := relaid_ok t (hs := es.map (·.1)) (wanted := wanted) size ok (by rw [Array.size_map, len]; omega)
  rw [Array.size_map, len] at pm
  obtain ⟨r1, r3⟩ := reorder (w := w) order.toList L es rows fun i m => List.mem_range.mp (pm.mem_iff.mp m)
  have r2 : (order.toList.filterMap fun i => L[i]?).Perm L := by
    have q := pm.filterMap fun i => L[i]?
    rw [all_places L.length L (Nat.le_refl _), List.take_length] at q
    exact q
  have r1' : (order.filterMap (es[·]?)).toList = rowsN w (order.toList.filterMap fun i => L[i]?) := by first | (rw [Array.toList_filterMap]; exact r1) | simpa using r1
  rw [← r3] at T
  generalize order.toList.filterMap (fun i => L[i]?) = L2 at r1' r2 T
  have sz2 : (order.filterMap (es[·]?)).size = es.size := by rw [rowsN_len r1', r2.length_eq, len]
  rw [setRelay_eq]
  refine wpAny_bind <| wpAny_setState_of here dt ft ?_
  dsimp only
  refine wp_if_neg (by rw [sizeLine_eq]; omega) ?_
  try refine wpAny_bind (wpAny_pure ?_)
  rw [laid]
  dsimp only
  refine wpAny_bind ?_
  refine wp_if_neg (by rw [sz2]; simp) ?_
  try refine wpAny_bind (wpAny_pure ?_)
  refine wpAny_pure ?_
  dsimp only
  refine wpAny_storeSet_of here dt ?_ (by rw [sz2, len, sizeLine_eq]; omega)
  refine hQ _ L2 (order.filterMap (es[·]?)) (ep + 1) t2 (Heap.SameBut.update ..) ⟨⟨_, store_at here dt, ⟨ex.1, ex.2.1, ex.2.2⟩, rfl⟩, r1', T, (r2.map (·.2)).nodup_iff.mpr once, by rw [el]; exact led, ?_, by rw [r2.length_eq]; exact few⟩ r2
  rw [r2.length_eq, em]
  exact room
theorem addN (R : SetNAt w s.heap a L es ep t) (tup : ∀ p ∈ L, IsN s.heap p.2 p.1) {x : Addr} {k : NestedKey} (hx : IsN s.heap k x) (units : A.units + 9 < cLine) (more : L.length + 1 < 64) {Q : Bool → Shared → Prop}
    (hQ : ∀ b h' L' es' ep' t', Heap.SameBut a s.heap h' → SetNAt w h' a L' es' ep' t' → (k ∈ L.map (·.2) → L' = L) → (k ∉ L.map (·.2) → L'.Perm ((x, k) :: L)) → Q b { s with heap := h' }) :
    wpAny (model P w) A (setAddHashed a (.ref x) (k.hash w)) Q E s := by
  obtain ⟨ob, here, ex, dt⟩ := R.here
  have len := rowsN_len R.rows
  have rm := R.room
  unfold setAddHashed
  refine wpAny_holding ?_
  rw [show (100000 : Nat) = 99999 + 1 from rfl, setAddHashedIn_succ]
  refine wpAny_bind <| wpAny_setState_of here dt R.ft ?_
  dsimp only
  refine wp_if_neg (by simp [byScan, Value.scannable]) ?_
  try refine wpAny_bind (wpAny_pure ?_)
  refine wpAny_bind <| seek_from R tup hx units (fun m r => ?_) fun K m free taken => ?_
  · dsimp only
    exact wpAny_pure (hQ false s.heap L es ep t (Heap.SameBut.refl a s.heap) R (fun _ => rfl) fun z => absurd m z)
  dsimp only
  refine wpAny_bind <| wpAny_setState_of here dt R.ft ?_
  dsimp only
  obtain ⟨q1, q2, q3, q4, q5, q6, q7, q8, q9⟩ := R.tab.put free taken
  generalize t.put (way t.mask (k.hash w) K) = pt at q1 q3 q4 q5 q6 q7 q8 q9 ⊢
  obtain ⟨t1, at_⟩ := pt
  dsimp only at q1 q3 q4 q5 q6 q7 q8 q9 ⊢
  subst q1
  have rows1 : (SetTable.insertAt es (SetTable.below t.place (way t.mask (k.hash w) K)) (k.hash w, Value.ref x)).toList = rowsN w (L.take (SetTable.below t.place (way t.mask (k.hash w) K)) ++ (x, k) :: L.drop (SetTable.below t.place (way t.mask (k.hash w) K))) := by
    rw [SetTable.toList_insertAt, R.rows]
    simp [rowsN, List.map_take, List.map_drop]
  generalize SetTable.below t.place (way t.mask (k.hash w) K) = at_ at q2 q3 rows1 ⊢
  have pm := put_perm L at_ (x, k)
  have hashed : hashN w (L.take at_ ++ (x, k) :: L.drop at_) = (hashN w L).take at_ ++ k.hash w :: (hashN w L).drop at_ := by simp [hashN, List.map_take, List.map_drop]
  rw [← hashed] at q3
  have one : ((L.take at_ ++ (x, k) :: L.drop at_).map (·.2)).Nodup := (pm.map (·.2)).nodup_iff.mpr (by
    rw [List.map_cons]
    exact List.nodup_cons.mpr ⟨m, R.once⟩)
  have len1 := rowsN_len rows1
  rw [pm.length_eq, List.length_cons] at len1
  generalize SetTable.insertAt es at_ (k.hash w, Value.ref x) = es1 at rows1 len1 ⊢
  generalize L.take at_ ++ (x, k) :: L.drop at_ = L1 at pm q3 one rows1
  have lenL1 : L1.length = L.length + 1 := by rw [pm.length_eq, List.length_cons]
  have full9 : t1.fill = L.length + 1 := by rw [q9]; simp [hashN]
  -- whichever the word on its hash is
  have go : ∀ t3 : SetTable, t3.place = t1.place → t3.dummies = t1.dummies → t3.mask = t1.mask → t3.led = t1.led → t3.fill = t1.fill → t3.tooFull = t1.tooFull → TabOk t3 (hashN w L1) →
      wpAny (model P w) A (do
        storeSet a es1 t3
        if (!false && t3.tooFull) = true then setRelay a (SetTable.grown (es.size + 1))
        return true) Q E s := by
    intro t3 e1 e2 e3 e4 e5 e6 T3
    refine wpAny_bind <| wpAny_storeSet_of here dt ?_ (by rw [len1, sizeLine_eq]; omega)
    have sb : Heap.SameBut a s.heap (s.heap.update a (Obj.putSet es1 t3)) := Heap.SameBut.update ..
    have here1 := store_at (es' := es1) (t' := t3) here dt
    generalize s.heap.update a (Obj.putSet es1 t3) = h1 at sb here1 ⊢
    have led1 : w.params.followText "set-order" = true ∨ t3.led = true := by rw [e4, q5]; exact R.led
    by_cases full : t3.tooFull = true
    · first
        | (refine wpAny_bind ?_; refine wp_if_pos (by simp [full]) ?_)
        | (refine wp_if_pos (by simp [full]) ?_; refine wpAny_bind ?_)
      have much : (L.length + 1) * 5 ≥ t.mask * 3 := by
        have z := full
        rw [SetTable.tooFull, decide_eq_true_eq, e5, full9, e3, q4] at z
        exact z
      rw [len]
      have size1 : t3.place.size = es1.size := by rw [T3.sz, len1]; simp [hashN, lenL1]
      have two : (t.mask = 7 ∧ L.length = 4) ∨ (t.mask = 31 ∧ L.length = 18) := by
        rcases R.tab.mok with e | e | e <;> rw [e] at rm much
        · exact .inl ⟨e, by omega⟩
        · exact .inr ⟨e, by omega⟩
        · omega
      have next : ∀ M, SetTable.sizeAbove (SetTable.grown (L.length + 1)) - 1 = M → MaskOk M → SetTable.sizeAbove (SetTable.grown (L.length + 1)) ≤ 128 → (L.length + 1) * 5 < M * 3 →
          wpAny (model P w) A (setRelay a (SetTable.grown (L.length + 1))) (fun _ st => wpAny (model P w) A (pure true) Q E st) E { s with heap := h1 } := by
        intro M m1 m2 m3 m4
        refine relayN (s := { s with heap := h1 }) here1 ⟨ex.1, ex.2.1, ex.2.2⟩ rfl rows1 size1 T3.dm (by rw [len1, e3, q4]; rcases two with ⟨z, z2⟩ | ⟨z, z2⟩ <;> omega) one led1 (by rw [lenL1]; exact more) m1 m2 m3 (by rw [lenL1]; exact m4) ?_
        intro h2 L2 es2 ep2 t2 sb2 R2 pm2
        exact wpAny_pure (hQ true h2 L2 es2 ep2 t2 (sb.trans sb2) R2 (fun z => absurd z m) fun _ => pm2.trans pm)
      rcases two with ⟨_, z⟩ | ⟨_, z⟩
      · exact next 31 (by rw [z, size_20]) (.inr (.inl rfl)) (by rw [z, size_20]; decide) (by omega)
      · exact next 127 (by rw [z, size_76]) (.inr (.inr rfl)) (by rw [z, size_76]; decide) (by omega)
    · first
        | refine wp_if_neg (by simp [full]) ?_
        | (refine wpAny_bind ?_; refine wp_if_neg (by simp [full]) ?_; refine wpAny_pure ?_)
      refine wpAny_pure (hQ true h1 L1 es1 (ep + 1) t3 sb ⟨⟨_, here1, ⟨ex.1, ex.2.1, ex.2.2⟩, rfl⟩, rows1, T3, one, led1, ?_, by rw [lenL1]; exact more⟩ (fun z => absurd z m) fun _ => pm)
      have z := full
      rw [SetTable.tooFull, decide_eq_true_eq, e5, full9] at z
      rw [lenL1]
      omega
  by_cases pl : t1.plain = true
  · first
      | (refine wpAny_bind ?_; refine wp_if_pos pl ?_; refine sayable_key k _ 8 s hx.1 hx.2 _ _ _ fun b => ?_)
      | refine wp_if_pos pl (wpAny_bind (sayable_key k _ 8 s hx.1 hx.2 _ _ _ fun b => ?_))
    cases b
    · exact go { t1 with plain := false } rfl rfl rfl rfl rfl rfl ⟨q3.ris, q3.dm, q3.sz, q3.mok, q3.bd, q3.reach⟩
    · exact go t1 rfl rfl rfl rfl rfl rfl q3
  · first
      | (refine wpAny_bind ?_; refine wp_if_neg pl ?_; refine wpAny_pure ?_)
      | (refine wp_if_neg pl ?_; refine wpAny_bind (wpAny_pure ?_))
    exact go t1 rfl rfl rfl rfl rfl rfl q3
end
end Gx

set_option maxRecDepth 100000
set_option maxHeartbeats 4000000
namespace Gx
open PySem PySem.Spec PyProof.Rows L2
/-- what the set has of the first i keys of ks -/
structure GotN (ks : NMs) (i : Nat) (L : NMs) : Prop where
  old : ∀ p ∈ L, p ∈ ks.take i
  new : ∀ p ∈ ks.take i, p.2 ∈ L.map (·.2)
  len : L.length ≤ i
theorem GotN.more {ks L L' : NMs} {i : Nat} {x : Addr × NestedKey} (g : GotN ks i L) (e : ks[i]? = some x) (c1 : x.2 ∈ L.map (·.2) → L' = L) (c2 : x.2 ∉ L.map (·.2) → L'.Perm (x :: L)) : GotN ks (i + 1) L' := by
  have tk : ks.take (i + 1) = ks.take i ++ [x] := by rw [List.take_add_one, e]; rfl
  by_cases c : x.2 ∈ L.map (·.2)
  · rw [c1 c]
    refine ⟨fun p m => by rw [tk]; exact List.mem_append_left _ (g.old p m), fun p m => ?_, Nat.le_succ_of_le g.len⟩
    rw [tk, List.mem_append, List.mem_singleton] at m
    rcases m with m | rfl
    · exact g.new p m
    · exact c
  · have pm := c2 c
    refine ⟨fun p m => ?_, fun p m => ?_, by rw [pm.length_eq, List.length_cons]; exact Nat.succ_le_succ g.len⟩
    · rw [tk, List.mem_append, List.mem_singleton]
      rcases List.mem_cons.mp (pm.mem_iff.mp m) with z | z
      · exact .inr z
      · exact .inl (g.old p z)
    · rw [(pm.map (·.2)).mem_iff, List.map_cons, List.mem_cons]
      rw [tk, List.mem_append, List.mem_singleton] at m
      rcases m with m | rfl
      · exact .inr (g.new p m)
      · exact .inl rfl
section
variable {P : Program} {w : World} {A : Around} {E : Value → Shared → Prop} {s : Shared}
theorem SetNAt.at {h h' : Heap} {a : Addr} {L : NMs} {es : Array (Int × Value)} {ep : Nat} {t : SetTable} (R : SetNAt w h a L es ep t) (k : ∀ o, h.get? a = some o → h'.get? a = some o) : SetNAt w h' a L es ep t := by
  obtain ⟨ob, here, more⟩ := R.here
  exact ⟨⟨ob, k ob here, more⟩, R.rows, R.tab, R.once, R.led, R.room, R.few⟩
theorem setN_fresh {h : Heap} {a : Addr} (e : h.get? a = some { cls := .type "set", dict := none, data := .set #[] 0 (.fresh 0 0 (!w.params.followText "set-order")) }) : SetNAt w h a [] #[] 0 (.fresh 0 0 (!w.params.followText "set-order")) where
  here := ⟨_, e, ⟨rfl, rfl, rfl⟩, rfl⟩
  rows := rfl
  tab := ⟨List.Pairwise.nil, rfl, rfl, .inl rfl, (fun x m => nomatch m), (fun i h j g => by simp [hashN] at g)⟩
  once := List.nodup_nil
  led := by
    show _ ∨ (!w.params.followText "set-order") = true
    cases w.params.followText "set-order"
    · exact .inr rfl
    · exact .inl rfl
  room := show 0 * 5 < 7 * 3 by decide
  few := show 0 < 64 by decide
/-- all keys of an iterator put into the set at S -/
theorem loopN {I : Addr} {fp wr : List Addr} {G : Array GenState → Array GenState → Prop} {n : Nat} {Pv : Nat → Value → Prop} {St : Nat → Shared → Prop} {R : Result → Shared → Prop}
    (W : WalksS P w A.in1 I fp wr G n Pv St) (S : Addr) (off : S ∉ fp) (ks : NMs) (len : n = ks.length) (few : ks.length < 64) (val : ∀ i v, Pv i v → ∃ p, ks[i]? = some p ∧ v = .ref p.1)
    (h0 : Heap) (kept : ∀ p ∈ ks, IsN h0 p.2 p.1) (noS : h0.get? S = none) (noW : ∀ b ∈ wr, h0.get? b = none) (units : A.in1.units + 9 < cLine) :
    ∀ (k i : Nat) (s : Shared), n - i = k → i ≤ n → St i s → (∀ b o, h0.get? b = some o → s.heap.get? b = some o) → (∃ L es ep t, SetNAt w s.heap S L es ep t ∧ GotN ks i L) →
      (∀ s' L es ep t, Moved (S :: wr) G s s' → SetNAt w s'.heap S L es ep t → GotN ks n L → (∀ b o, h0.get? b = some o → s'.heap.get? b = some o) → R (.ok (.ret .none)) s') →
      codeAny (model P w) A (.builtin "set.update.loop" ⟨[.ref S, .ref I], []⟩) R s := by
  have offW : S ∉ wr := fun z => off (W.sub _ z)
  have sub : ∀ b ∈ wr, b ∈ S :: wr := fun b m => List.mem_cons_of_mem _ m
  have goes : ∀ {s s' : Shared}, Moved wr G s s' → (∀ b o, h0.get? b = some o → s.heap.get? b = some o) → ∀ b o, h0.get? b = some o → s'.heap.get? b = some o := fun mv kp b o e =>
    mv.heap b o (fun m => by rw [noW b m] at e; cases e) (kp b o e)
  have still : ∀ {s : Shared}, (∀ b o, h0.get? b = some o → s.heap.get? b = some o) → ∀ p ∈ ks, IsN s.heap p.2 p.1 := fun kp p m => (kept p m).keep fun c o _ _ e _ => kp c o e
  intro k
  induction k with
  | zero =>
    intro i s ek le st kp got end_
    obtain ⟨L, es, ep, t, hS, g⟩ := got
    obtain rfl : i = n := by omega
    refine codeAny_builtin F.entry_set_update_loop ?_
    rw [Around.under_plainId F.plain_set_update_loop _]
    show wpAny _ A.in1 (pyNext (.ref I) >>= _) _ _ s
    refine wpAny_bind (W.done s _ _ st fun s' mv => ?_)
    show wpAny _ A.in1 (ret Value.none) _ _ s'
    exact wpAny_pure (end_ s' L es ep t (mv.mono sub) (hS.at fun o e => mv.heap S o offW e) g (goes mv kp))
  | succ k ih =>
    intro i s ek le st kp got end_
    obtain ⟨L, es, ep, t, hS, g⟩ := got
    have lt : i < n := by omega
    refine codeAny_builtin F.entry_set_update_loop ?_
    rw [Around.under_plainId F.plain_set_update_loop _]
    show wpAny _ A.in1 (pyNext (.ref I) >>= _) _ _ s
    refine wpAny_bind (W.item i s _ _ lt st fun v s' pv st' mv => ?_)
    obtain ⟨p, gp, rfl⟩ := val i v pv
    have kp1 := goes mv kp
    have sub1 : ∀ q ∈ L, q ∈ ks := fun q m => List.mem_of_mem_take (g.old q m)
    have hS1 : SetNAt w s'.heap S L es ep t := hS.at fun o e => mv.heap S o offW e
    have hx := still kp1 p (List.mem_of_getElem? gp)
    show wpAny _ A.in1 (holding [Value.ref p.1] (setAdd S (.ref p.1)) >>= _) _ _ s'
    refine wpAny_bind (wpAny_holding ?_)
    unfold setAdd
    refine wpAny_holding ?_
    refine wpAny_bind <| pyHash_key p.2 _ _ _ _ hx.1 (by have := hx.2; omega) ?_
    refine addN (s := { s' with toks := s'.toks + p.2.draws }) hS1 (fun q m => still kp1 q (sub1 q m)) hx units (by have := g.len; omega) fun b h' L2 es2 ep2 t2 sb hS2 c1 c2 => ?_
    have kp2 : ∀ b o, h0.get? b = some o → h'.get? b = some o := fun b o e => (sb.2 b (fun z => by rw [z, noS] at e; cases e)).trans (kp1 b o e)
    refine wpAny_pure ⟨plainId_quiet F.plain_set_update_loop _, ih (i + 1) _ (by omega) lt (W.frame _ s' _ _ st' (Nat.le_add_right _ _) fun b m o e => ?_) kp2 ⟨L2, es2, ep2, t2, hS2, g.more gp c1 c2⟩ fun s'' L3 es3 ep3 t3 mv2 hS3 g3 kp3 => ?_⟩
    · rw [sb.2 b (fun z : b = S => off (z ▸ m))]
      exact e
    · refine end_ s'' L3 es3 ep3 t3 (Moved.trans W.gtrans ((mv.mono sub).then_heap (Nat.le_add_right _ _) fun b o m e => ?_) mv2) hS3 g3 kp3
      rw [sb.2 b (fun z : b = S => m (by rw [z]; exact List.mem_cons_self))]
      exact e
set_option maxHeartbeats 6400000 in
/-- set(list of keys) -/
theorem call_setN {l : Addr} {items : Array Value} (ks : NMs) {Q : Value → Shared → Prop} (hh : A.handled = none) (hl : s.heap.IsList l items) (its : items.toList = ks.map fun p => Value.ref p.1)
    (kept : ∀ p ∈ ks, IsN s.heap p.2 p.1) (few : ks.length < 64) (units : A.units + 12 < cLine)
    (h : ∀ (h' : Heap) (tk : Nat) L es ep t, SetNAt w h' s.heap.objs.size L es ep t → GotN ks ks.length L → (∀ b o, s.heap.get? b = some o → h'.get? b = some o) → Q (.ref s.heap.objs.size) { s with heap := h', toks := tk }) :
    wpAny (model P w) A (call (.type "set") [.ref l]) Q E s := by
  have size : items.size = ks.length := by simpa using congrArg List.length its
  obtain ⟨c, tl, hmro⟩ := PySem.F.called_set.mro
  have hmade := PySem.F.called_set.made
  have hsub := PySem.F.called_set.sub
  refine wpAny_call (codeAny_of_tree ?_)
  show wpAny _ _ (callAny (.type "set") _) _ _ _
  refine wpAny_pure ⟨Code.quiet_builtin _ (by decide +kernel), codeAny_builtin PySem.F.entry_type_call ?_⟩
  rw [Around.under_plain (weight_type_call_type "set" [.ref l] []) rfl]
  have h1 := PySem.F.called_set.notType
  have h2 := PySem.F.called_set.canCreate
  have hct := PySem.F.typeCall_set_1 (.ref l)
  repeat (any_goals (first | assumption | wp_step))
  refine codeAny_mono (code_set_led1 (.ref l) (E := E) (Q₁ := fun obj s₁ => obj = .ref s.heap.objs.size ∧ s₁ = { s with heap := s.heap.push { cls := .type "set", dict := none, data := .set #[] 0 (.fresh 0 0 (!w.params.followText "set-order")) } }) ⟨rfl, rfl⟩) fun r s₁ hr => ?_
  have hS : (s.heap.push { cls := .type "set", dict := none, data := .set #[] 0 (.fresh 0 0 (!w.params.followText "set-order")) }).get? s.heap.objs.size = some { cls := .type "set", dict := none, data := .set #[] 0 (.fresh 0 0 (!w.params.followText "set-order")) } := Heap.get?_push_size _ rfl
  cases r with
  | error e => exact hr
  | ok fl =>
    cases fl with
    | ret obj =>
      obtain ⟨rfl, rfl⟩ := hr
      have hT : Shared.TypeIs { s with heap := s.heap.push ({ cls := .type "set", dict := none, data := .set #[] 0 (.fresh 0 0 (!w.params.followText "set-order")) } : Obj) } (.ref s.heap.objs.size) "set" := ⟨_, hS, rfl⟩
      have hli := PySem.F.called_set.init.lookup
      have hbi := PySem.F.called_set.init.bind (.ref s.heap.objs.size)
      repeat (any_goals (first | assumption | wp_step))
      refine codeAny_mono (codeAny_call_builtin (R := wants (fun r s₂ => r = .none ∧ ∃ h' tk L es ep t, s₂ = { s with heap := h', toks := tk } ∧ SetNAt w h' s.heap.objs.size L es ep t ∧ GotN ks ks.length L ∧
          (∀ b o, s.heap.get? b = some o → h'.get? b = some o)) E) PySem.F.called_set.init.plain PySem.F.entry_set_init (check_set_init_1 hT ?_)) fun r₂ s₂ hr₂ => ?_
      · obtain ⟨ol, hol, hcl, nl, hdl⟩ := hl
        obtain ⟨ocls, odict, odata, oslots⟩ := ol
        simp only at hcl hdl
        subst hcl; subst hdl
        have hol' : (s.heap.push ({ cls := .type "set", dict := none, data := .set #[] 0 (.fresh 0 0 (!w.params.followText "set-order")) } : Obj)).get? l = some { cls := .type "list", dict := odict, data := .seq items nl, slots := oslots } := Heap.get?_push_of_some _ hol
        have hsls := PySem.F.sub_list_set
        have hslf := PySem.F.sub_list_frozenset
        have hne : (Value.type "list" == Value.type "dict") = false := by decide
        have hl1 : (s.heap.push ({ cls := .type "set", dict := none, data := .set #[] 0 (.fresh 0 0 (!w.params.followText "set-order")) } : Obj)).IsList l items := ⟨_, hol', rfl, nl, rfl⟩
        unfold Builtin.«set.__init__» noKeywords Builtin.Frozenset.updateFrom
        generalize hPI : pyIter = PI
        wp_walk
        subst hPI
        refine wpAny_pyIter_list hl1 ?_
        refine wpAny_bind (wpAny_runValue ?_)
        have hlS : l < s.heap.objs.size := Heap.lt_size hol
        have hh3 : A.in1.in1.in1.handled = none := by simp [hh]
        have szp : (s.heap.push ({ cls := .type "set", dict := none, data := .set #[] 0 (.fresh 0 0 (!w.params.followText "set-order")) } : Obj)).objs.size = s.heap.objs.size + 1 := Heap.size_push _ _
        have hneI : l ≠ (s.heap.push ({ cls := .type "set", dict := none, data := .set #[] 0 (.fresh 0 0 (!w.params.followText "set-order")) } : Obj)).objs.size := by rw [szp]; exact Nat.ne_of_lt (Nat.lt_succ_of_lt hlS)
        have offS : s.heap.objs.size ∉ [(s.heap.push ({ cls := .type "set", dict := none, data := .set #[] 0 (.fresh 0 0 (!w.params.followText "set-order")) } : Obj)).objs.size, l] := by
          rw [szp]
          simp only [List.mem_cons, List.not_mem_nil, or_false, not_or]
          exact ⟨Nat.ne_of_lt (Nat.lt_succ_self _), Nat.ne_of_gt hlS⟩
        have val : ∀ (i : Nat) (v : Value), items[i]? = some v → ∃ p, ks[i]? = some p ∧ v = .ref p.1 := fun i v e => by
          rw [← Array.getElem?_toList, its, List.getElem?_map] at e
          obtain ⟨p, e1, e2⟩ := Option.map_eq_some_iff.mp e
          exact ⟨p, e1, e2.symm⟩
        have none_of : ∀ b, s.heap.objs.size ≤ b → s.heap.get? b = none := fun b le => by
          cases e : s.heap.get? b with
          | none => rfl
          | some o => exact absurd (Heap.lt_size e) (Nat.not_lt_of_le le)
        refine loopN ((Walks.list hh3 _ l hneI items).toS) s.heap.objs.size offS ks size few val s.heap kept (none_of _ (Nat.le_refl _)) (fun b m => none_of b (by
            rw [List.mem_singleton.mp m, szp]
            exact Nat.le_succ _)) (by simp only [Around.in1_units]; omega) (items.size - 0) 0 _ (by omega) (Nat.zero_le _) ⟨⟨_, Heap.get?_push_size _ rfl, rfl, rfl⟩, (hl1.push _)⟩
          (fun b o e => Heap.get?_push_of_some _ (Heap.get?_push_of_some _ e)) ⟨[], #[], 0, _, setN_fresh (Heap.get?_push_of_some _ hS), ⟨(fun p m => nomatch m), (fun p m => by simp at m), Nat.le_refl _⟩⟩ ?hR
        case hR =>
          intro s' L es ep t mv hS' g' kp
          obtain ⟨h', g2, d', tk', os'⟩ := s'
          obtain rfl : g2 = s.gens := mv.gens
          obtain rfl : d' = s.drawn := mv.drawn
          obtain rfl : os' = s.os := mv.os
          show wpAny _ _ _ _ _ _
          refine wpAny_pure ?_
          show wpAny _ _ (ret Value.none) _ _ _
          rw [size] at g'
          exact wpAny_pure ⟨rfl, h', tk', L, es, ep, t, rfl, hS', g', kp⟩
      · cases r₂ with
        | error e => exact hr₂
        | ok fl₂ =>
          cases fl₂ with
          | ret r =>
            obtain ⟨rfl, h', tk, L, es, ep, t, rfl, hS', g', hk'⟩ := hr₂
            repeat (any_goals (first | assumption | wp_step))
            exact h _ _ _ _ _ _ hS' g' hk'
          | _ => exact hr₂.elim
    | _ => exact hr.elim
end
end Gx

set_option maxRecDepth 100000
set_option maxHeartbeats 4000000
namespace Gx
open PySem PySem.W PySem.Calls PyProof.Rows PySem.SeqAt
/-! ### lists of tuples, also empty ones, sorted -/
section
variable {prog : Program} {w : World} {A : Around} {E : Value → Shared → Prop} {s : Shared}
theorem call_tup_lt {Q : Value → Shared → Prop} {l b : Addr} {is js : Array Value} {e r : Nat → Bool} (hl : s.heap.IsTuple l is) (hb : s.heap.IsTuple b js)
    (he : ∀ j (h1 : j < is.size) (h2 : j < js.size), EqAt A.in1 s is[j] js[j] (e j)) (hr : ∀ j (h1 : j < is.size) (h2 : j < js.size), e j = false → RcLt A.in1 s is[j] js[j] (r j))
    (q : Q (.bool (firstLt e r (decide (is.size < js.size)) (List.range (min is.size js.size)))) s) :
    wpAny (model prog w) A (call (.builtin "tuple.__lt__") [.ref l, .ref b]) Q E s := by
  obtain ⟨⟨c1, d1, x1, z1⟩, at1, e1, n1, y1⟩ := hl
  obtain ⟨⟨c2, d2, x2, z2⟩, at2, e2, n2, y2⟩ := hb
  dsimp only at e1 y1 e2 y2
  subst e1 y1 e2 y2
  exact call_meets PySem.F.slot_tuple_lt ⟨_, at1, rfl⟩ PySem.F.entry_tuple_lt (PySem.F.args_tuple_lt_2 _ _) (tuple_ltAt l b is js n1 n2 d1 d2 z1 z2 e r) ⟨at1, at2, he, hr, q⟩
theorem oneLt_tup {f : Bool} {xs ys : List PyData} {a b : Value} {as bs : List Addr} {Q : Bool → Shared → Prop} (ra : Reads s.heap a (.tuple xs) as) (rb : Reads s.heap b (.tuple ys) bs) (al : alikeAll xs ys = true)
    (hu : A.units + min (PyData.tuple xs).depth (PyData.tuple ys).depth < cLine) (q : Q (dataLt (.tuple xs) (.tuple ys)) s) : wpAny (model prog w) A (oneLt' f a b) Q E s := by
  cases f with
  | false => exact oneLt_alike (fun e => nomatch e) ra rb (by simpa [alike] using al) (fun e => nomatch e) hu q
  | true =>
    cases ra with
    | @tuple l o vs n _ as₁ h1 h2 h3 h4 =>
      cases rb with
      | @tuple l' o' vs' n' _ bs₁ k1 k2 k3 k4 =>
        have n1 : vs.size = xs.length := by simpa using ReadsAll.length _ _ _ h4
        have n2 : vs'.size = ys.length := by simpa using ReadsAll.length _ _ _ k4
        rw [dataLt_tuple, ← firstLt_toks xs ys al, ← n1, ← n2] at q
        rw [oneLt'_eq]
        simp only [if_true]
        refine wpAny_bind <| wpAny_cRoomFor (room_here hu) ?_
        refine wpAny_bind <| wpAny_callSpecialIfBound?_slot (T := "tuple") ⟨_, h1, h2⟩ PySem.F.slot_tuple_lt <| call_tup_lt (e := pairEq xs ys) (r := fun j => dataLt (xs.getD j .none) (ys.getD j .none)) ⟨_, h1, h2, _, h3⟩ ⟨_, k1, k2, _, k3⟩ (fun j j1 j2 => ?_) (fun j j1 j2 hj => ?_) ?_
        · have z := eqAt_alikeAll xs ys A.in1 s vs.toList vs'.toList _ _ h4 k4 al (room_in hu) j (by simpa using j1) (by simpa using j2)
          simpa using z
        · have z := rcLt_alikeAll xs ys A.in1 s vs.toList vs'.toList _ _ h4 k4 al (room_in hu) j (by simpa using j1) (by simpa using j2) hj
          simpa using z
        · exact wpAny_truthy_bool q
/-- the first item of a tuple, if any -/
theorem firsts_tups {M : Model} : ∀ (vs : List Value) (ds : List PyData) {Q : List (Option Value) → Shared → Prop}, EachIs (fun v d => ∃ as, Reads s.heap v d as) vs ds → (∀ d ∈ ds, ∃ xs, d = .tuple xs) →
    (∀ fs : List (Option Value), EachIs (fun f d => f.isSome = true ↔ d ≠ PyData.tuple []) fs ds → Q fs s) → wpAny M A (vs.mapM firstOfTuple') Q E s
  | _, _, Q, .nil, _, q => by rw [List.mapM_nil]; exact wpAny_pure (q [] .nil)
  | _, _, Q, .cons (b := d) (as := vs) (bs := ds) ⟨as, r⟩ t, tup, q => by
    obtain ⟨xs, rfl⟩ := tup d List.mem_cons_self
    rw [List.mapM_cons]
    refine wpAny_bind ?_
    cases r with
    | @tuple a o its n _ _ ho hc hd hr =>
      rw [kas_first_eq]
      refine wpAny_bind <| Looks.here (show Looks M s.heap (typeOf (.ref a)) o.cls from (Looks.ld ho).andThen .now) ?_
      rw [hc, if_neg (by first | decide | simp)]
      refine wpAny_bind <| listItems_at ho hd <| wpAny_pure ?_
      refine wpAny_bind <| firsts_tups vs ds t (fun d m => tup d (List.mem_cons_of_mem _ m)) fun fs h => wpAny_pure (q _ (.cons ?_ h))
      have len : its.size = xs.length := by simpa using ReadsAll.length _ _ _ hr
      cases xs with
      | nil =>
        have : its[0]? = none := Array.getElem?_eq_none (by simp [len])
        simp [this]
      | cons x xs =>
        have lt : 0 < its.size := by simp [len]
        simp [Array.getElem?_eq_getElem lt]
theorem type_tups {M : Model} {v : Value} {xs : List PyData} {as : List Addr} (r : Reads s.heap v (.tuple xs) as) : Looks M s.heap (typeOf v) (.type "tuple") := looks_reads r
theorem each_idx {α β : Type} {R : α → β → Prop} : ∀ {as : List α} {bs : List β}, EachIs R as bs → (∃ b ∈ bs, ∀ a, R a b → False) → False
  | _, _, .nil, ⟨b, m, _⟩ => nomatch m
  | _, _, .cons h t, ⟨b, m, n⟩ => by
    rcases List.mem_cons.mp m with rfl | m
    · exact n _ h
    · exact each_idx t ⟨b, m, n⟩
theorem all_some {fs : List (Option Value)} {ds : List PyData} (h : EachIs (fun f d => f.isSome = true ↔ d ≠ PyData.tuple []) fs ds) (e : PyData.tuple [] ∈ ds) : ¬ fs.toArray.all (·.isSome) = true := by
  intro c
  rw [List.all_toArray, List.all_eq_true] at c
  have all : ∀ {fs : List (Option Value)} {ds : List PyData}, EachIs (fun f d => f.isSome = true ↔ d ≠ PyData.tuple []) fs ds → (∀ f ∈ fs, f.isSome = true) → PyData.tuple [] ∈ ds → False := by
    intro fs ds h
    induction h with
    | nil => intro _ m; exact nomatch m
    | @cons f d fs ds h t ih =>
      intro c m
      rcases List.mem_cons.mp m with e | m
      · exact h.mp (c f List.mem_cons_self) e.symm
      · exact ih (fun g m => c g (List.mem_cons_of_mem _ m)) m
  exact all h c e
/-- values that read as tuples, whichever, can be sorted -/
theorem sortsTups {vs : List Value} {ds : List PyData} (e : EachIs (fun v d => ∃ as, Reads s.heap v d as) vs ds) (al : AllAlike ds) (tup : ∀ d ∈ ds, ∃ xs, d = PyData.tuple xs) (hu : ∀ d, d ∈ ds → A.units + d.depth < cLine) : SortsAt prog w A s (dataKind s.heap ds) vs := by
  by_cases some : PyData.tuple [] ∈ ds
  · have room : ∀ {d d' : PyData}, d ∈ ds → A.units + min d.depth d'.depth < cLine := fun {d d'} m => Nat.lt_of_le_of_lt (Nat.add_le_add_left (Nat.min_le_left _ _) _) (hu d m)
    have lt : ∀ f : Bool, ∀ (E : Value → Shared → Prop) (x y : Value) (a b : (dataKind s.heap ds).α) {Q : Bool → Shared → Prop}, (dataKind s.heap ds).keyOf x = Option.some a → (dataKind s.heap ds).keyOf y = Option.some b → Q ((dataKind s.heap ds).blt a b) s → wpAny (model prog w) A (oneLt' f x y) Q E s := by
      intro f E x y a b Q ha hb q
      obtain ⟨d, as, m, ra, rfl⟩ := dataKind_inv ha
      obtain ⟨d', as', m', rb, rfl⟩ := dataKind_inv hb
      have dd := al d m d' m'
      have rm := room (d' := d') m
      obtain ⟨xs, rfl⟩ := tup d m
      obtain ⟨ys, rfl⟩ := tup d' m'
      exact oneLt_tup ra rb (by simpa [alike] using dd) rm q
    have one : ∃ f : Bool, (2 ≤ vs.length → ∀ (E : Value → Shared → Prop) {Q : SortKind → Shared → Prop}, Q (if f = true then oneType' else general') s → wpAny (model prog w) A (keyKind' vs.toArray) Q E s) := by
      match vs, ds, e with
      | _, _, .nil => exact nomatch some
      | v :: vs, d :: ds, .cons h t =>
        by_cases first : d = .tuple []
        · refine ⟨true, fun _ E Q q => ?_⟩
          rw [if_pos rfl] at q
          rw [kat_kind_eq, List.mapM_toArray, map_eq_pure_bind]
          refine wpAny_bind <| wpAny_bind <| firsts_tups (v :: vs) (d :: ds) (.cons h t) tup fun fs hfs => wpAny_pure ?_
          rw [if_neg (all_some hfs some)]
          cases hfs with
          | @cons f _ fs _ hf _ =>
            have nf : f = none := by
              cases f with
              | none => rfl
              | some x => exact absurd first (hf.mp rfl)
            subst nf
            rw [if_neg (by simp)]
            rw [oneTypeOnly'_eq, List.mapM_toArray, map_eq_pure_bind]
            refine wpAny_bind <| wpAny_bind <| wpAny_bind <| kas_mapM (r := Value.type "tuple") _ (fun u m Q' q' => ?_) (wpAny_pure ?_)
            · obtain ⟨d', m', as, r⟩ := (EachIs.cons h t).left u m
              obtain ⟨xs, rfl⟩ := tup d' m'
              exact (type_tups r).here q'
            · have every : ((List.map (fun _ => Value.type "tuple") (v :: vs)).toArray.all fun x => x == Value.type "tuple") = true := by
                simp only [List.all_toArray, List.all_map, List.all_eq_true]
                intro _ _
                rfl
              have zero : (List.map (fun _ => Value.type "tuple") (v :: vs)).toArray[0]? = Option.some (Value.type "tuple") := by simp
              rw [zero]
              simp only [every, if_true]
              exact wpAny_pure (wpAny_pure q)
        · refine ⟨false, fun _ E Q q => ?_⟩
          rw [if_neg (by decide)] at q
          rw [kat_kind_eq, List.mapM_toArray, map_eq_pure_bind]
          refine wpAny_bind <| wpAny_bind <| firsts_tups (v :: vs) (d :: ds) (.cons h t) tup fun fs hfs => wpAny_pure ?_
          rw [if_neg (all_some hfs some)]
          cases hfs with
          | @cons f _ fs _ hf _ =>
            have z := hf.mpr first
            cases f with
            | none => exact nomatch z
            | some x =>
              rw [if_pos (by simp)]
              exact wpAny_pure q
    refine ⟨fun v m => ?_, ?_⟩
    · obtain ⟨d, dm, as, r⟩ := e.left v m
      exact ⟨_, dataKind_some al dm r⟩
    · obtain ⟨f, kind⟩ := one
      refine ⟨if f = true then oneType' else general', ?_, kind⟩
      intro E x y a b Q ha hb q
      cases f with
      | true => exact lt true E x y a b ha hb q
      | false => exact lt false E x y a b ha hb q
  · refine SortsAt.data e al (.inl fun d m => ?_) hu
    obtain ⟨xs, rfl⟩ := tup d m
    cases xs with
    | nil => exact absurd m some
    | cons x xs => exact ⟨x, xs, rfl⟩
end
end Gx

set_option maxRecDepth 100000
set_option maxHeartbeats 4000000
namespace Kl
open PySem PySem.Spec PyProof.Rows L2 Gx Mx
/-! ### sets of tuples over the hand layer: set(list), sorted(set) -/
def SetNp (w : World) (a : Addr) (L : NMs) (h : Heap) : Prop := ∃ es ep t, SetNAt w h a L es ep t
/-- the set with the members L stands at a -/
def SetNO (w : World) (a : Addr) (L : NMs) : HO := .ext (SetNp w a L)
theorem setNO_ok {P : Program} {w : World} {H : Hp} {h : Heap} {a : Addr} {L : NMs} (R : SetNp w a L h) : ObjOk P w H h a (SetNO w a L) := by
  obtain ⟨es, ep, t, r⟩ := id R
  obtain ⟨ob, here, _⟩ := r.here
  refine ⟨R, ⟨ob, here⟩, fun h1 h2 p k => ?_⟩
  obtain ⟨es, ep, t, r⟩ := p
  exact ⟨es, ep, t, r.at k⟩
theorem back_of {α β : Type} {f : α → β} {M : List α} : ∀ {L0 : List β}, (∀ p ∈ L0, p ∈ M.map f) → ∃ L : List α, L0 = L.map f ∧ ∀ p ∈ L, p ∈ M
  | [], _ => ⟨[], rfl, fun p m => nomatch m⟩
  | x :: L0, h => by
    obtain ⟨y, ym, e⟩ := List.mem_map.mp (h x List.mem_cons_self)
    obtain ⟨L, e2, h2⟩ := back_of fun p m => h p (List.mem_cons_of_mem _ m)
    refine ⟨y :: L, by rw [List.map_cons, e, e2], fun p m => ?_⟩
    rcases List.mem_cons.mp m with rfl | m
    · exact ym
    · exact h2 p m
theorem perm_back {α β : Type} {f : α → β} {ys zs : List β} (h : ys.Perm zs) : ∀ {L : List α}, zs = L.map f → ∃ L' : List α, L'.Perm L ∧ ys = L'.map f := by
  induction h with
  | nil =>
    intro L e
    exact ⟨L, .refl _, e⟩
  | cons x _ ih =>
    intro L e
    match L, e with
    | a :: L, e =>
      rw [List.map_cons] at e
      obtain ⟨rfl, e2⟩ := List.cons.inj e
      obtain ⟨L', p, rfl⟩ := ih e2
      exact ⟨a :: L', p.cons a, rfl⟩
  | swap x y l =>
    intro L e
    match L, e with
    | a :: b :: L, e =>
      rw [List.map_cons, List.map_cons] at e
      obtain ⟨rfl, e2⟩ := List.cons.inj e
      obtain ⟨rfl, rfl⟩ := List.cons.inj e2
      exact ⟨b :: a :: L, .swap .., rfl⟩
  | trans _ _ ih1 ih2 =>
    intro L e
    obtain ⟨L1, p1, rfl⟩ := ih2 e
    obtain ⟨L2, p2, rfl⟩ := ih1 rfl
    exact ⟨L2, p2.trans p1, rfl⟩
/-- keys that are data and have an order -/
structure SrtK (κ : Type) (key : κ → NestedKey) (enc : κ → PyData) (lt : κ → κ → Bool) : Prop where
  tup : ∀ p, ∃ xs, enc p = .tuple xs
  alike : ∀ p q, PySem.W.alike (enc p) (enc q) = true
  lts : ∀ p q, PySem.W.dataLt (enc p) (enc q) = lt p q
  asym : ∀ {p q}, lt p q = true → lt q p = false
  le : ∀ {p q r}, lt q p = false → lt r q = false → lt r p = false
  depth : ∀ p, (enc p).depth ≤ 8
  dp : ∀ {K : PySem.W.Frag} {H : Hp} {a : Addr} {p : κ}, KeyA K H a (key p) → Dp K H (.ref a) (enc p)
def keyT (xs : List Str) : NestedKey := .tup (xs.map .text)
theorem keyT_at {K : PySem.W.Frag} {H : Hp} {a : Addr} {xs : List Str} : KeyA K H a (keyT xs) ↔ SqT K H a (xs.map V.str) := by
  constructor
  · rintro ⟨h, _⟩
    unfold keyT at h
    cases h with
    | tup h1 h2 =>
      rw [keyT_inv h2] at h1
      exact h1
  · intro h
    refine ⟨.tup h (keyT_all xs), ?_⟩
    unfold keyT
    rw [NestedKey.depth, depth_keyT]
    omega
theorem keyT_inj {xs ys : List Str} (e : keyT xs = keyT ys) : xs = ys := by
  unfold keyT at e
  injection e with e
  exact texts_injK e
def encT (xs : List Str) : PyData := .tuple (tD xs)
theorem srtT : SrtK (List Str) keyT encT ltT where
  tup := fun p => ⟨_, rfl⟩
  alike := fun p q => by
    unfold encT
    simp only [PySem.W.alike]
    exact alike_texts _ _
  lts := fun p q => lt_texts p q
  asym := ltT_asym
  le := fun h1 h2 => leT_trans h1 h2
  depth := fun p => by
    have := depth_texts p
    unfold encT
    simp only [PyData.depth]
    omega
  dp := fun h => .tup (keyT_at.mp h) (dp_texts _)
theorem srtKW : SrtK KW keyK encK ltK where
  tup := fun p => ⟨_, rfl⟩
  alike := alike_keys
  lts := lt_keys
  asym := ltK_asym
  le := fun h1 h2 => leK_trans h1 h2
  depth := fun p => by
    have := depth_texts p.2
    unfold encK
    simp only [PyData.depth, PyData.depthAll]
    omega
  dp := key_dp
abbrev mem1 {κ : Type} (key : κ → NestedKey) (L : List (Addr × κ)) : NMs := L.map fun q => (q.1, key q.2)
section
variable {X : Cx} {w : World} {K : PySem.W.Frag} {κ : Type} {key : κ → NestedKey} {enc : κ → PyData} {lt : κ → κ → Bool}
theorem refs_back : ∀ {L : List (Addr × κ)} {us : List Value}, Vals (L.map fun p => V.ref p.1) us → us = L.map fun p => Value.ref p.1
  | [], _, .nil => rfl
  | p :: L, _, .cons r t => by
    cases r
    rw [refs_back t]
    rfl
theorem refs_vals : ∀ {L : List (Addr × κ)} {us : List Value}, PySem.W.EachIs (fun v (b : Addr × κ) => v = Value.ref b.1) us L → Vals (L.map fun p => V.ref p.1) us
  | [], _, .nil => .nil
  | _ :: _, _, .cons h t => .cons h (refs_vals t)
theorem refs_each : ∀ (L : List (Addr × κ)), PySem.W.EachIs (fun v (b : Addr × κ) => v = Value.ref b.1) (L.map fun p => Value.ref p.1) L
  | [] => .nil
  | _ :: L => .cons rfl (refs_each L)
/-- set(xs), xs a list of keys -/
def rSetN (key : κ → NestedKey) (K : PySem.W.Frag) (w : World) : List V → Hp → VK → Prop := fun vs H Q => ∃ (l : Addr) (M : List (Addr × κ)), vs = [V.ref l] ∧ SqL K H l (M.map fun p => V.ref p.1) ∧ (∀ p ∈ M, KeyA K H p.1 (key p.2)) ∧ M.length < 64 ∧
  ∀ (a : Addr) (L : List (Addr × κ)), H a = none → (∀ p ∈ L, p ∈ M) → (∀ p ∈ M, key p.2 ∈ L.map fun q => key q.2) → (L.map fun q => key q.2).Nodup → Q (.ref a) (upd H a (SetNO w a (mem1 key L)))
theorem cr_setN (hx : X.w = w ∧ X.K = K) (hc : X.calm = true) (hu : X.A.units + 64 < cLine) : CallR X (.type "set") (rSetN key K w) := by
  obtain ⟨rfl, rfl⟩ := hx
  intro pins s σ H vs us Q I r h
  obtain ⟨l, M, rfl, hl, hk, few, q⟩ := h
  rw [Vals.ref1 r]
  obtain ⟨its, rv, pl, hz⟩ := I.list hl
  have none' : H s.heap.objs.size = none := I.hok.fresh (Nat.le_refl _)
  have eits := refs_back rv
  refine call_setN (P := X.prog) (w := X.w) (mem1 key M) (I.ok.hd hc) pl.isList (by rw [eits]; simp [mem1]) (fun p m => ?_) (by simpa [mem1] using few) (by omega) fun h' tk L0 es ep t R g k => ?_
  · obtain ⟨q0, m0, rfl⟩ := List.mem_map.mp m
    exact nkey_of I (hk q0 m0)
  · obtain ⟨L, rfl, sub⟩ := back_of (M := M) (f := fun q : Addr × κ => (q.1, key q.2)) (L0 := L0) fun p m => by
      have := List.mem_of_mem_take (g.old p m)
      exact this
    refine ⟨.ref s.heap.objs.size, upd H s.heap.objs.size (SetNO X.w s.heap.objs.size (mem1 key L)), I.laid (t' := tk) k (Nat.le_refl _) (setNO_ok ⟨es, ep, t, R⟩), rfl, q _ L none' sub (fun p m => ?_) ?_⟩
    · have z := g.new (p.1, key p.2) (by rw [List.take_length]; exact List.mem_map.mpr ⟨p, m, rfl⟩)
      simpa [List.map_map, Function.comp_def] using z
    · have z := R.once
      rw [List.map_map] at z
      exact z
/-- sorted(xs), xs a set of keys -/
def rSortSet (key : κ → NestedKey) (lt : κ → κ → Bool) (K : PySem.W.Frag) (w : World) : List V → Hp → VK → Prop := fun vs H Q => ∃ (a : Addr) (L : List (Addr × κ)), vs = [V.ref a] ∧ H a = some (SetNO w a (mem1 key L)) ∧ (∀ p ∈ L, KeyA K H p.1 (key p.2)) ∧
  ∀ (L' : List (Addr × κ)) (p : Addr), L'.Perm L → L'.Pairwise (fun a b => lt b.2 a.2 = false) → H p = none → Q (.ref p) (upd H p (.lst (L'.map fun q => V.ref q.1)))
theorem cr_sortSet (O : SrtK κ key enc lt) (hx : X.w = w ∧ X.K = K) (hc : X.calm = true) (hu : X.A.units + 64 < cLine) : CallR X (.builtin "sorted") (rSortSet key lt K w) := by
  obtain ⟨rfl, rfl⟩ := hx
  intro pins s σ H vs us Q I r h
  obtain ⟨a, L, rfl, ha, hk, q⟩ := h
  rw [Vals.ref1 r]
  obtain ⟨es, ep, t, R⟩ : SetNp X.w a (mem1 key L) s.heap := (I.hok a _ ha).1
  obtain ⟨ob, here, ex, dt⟩ := R.here
  have few : L.length < 64 := by simpa [mem1] using R.few
  have size := rowsN_len R.rows
  have sizeL : es.size = L.length := by simpa [mem1] using size
  refine Calls.call_function_entry kind_sorted plain_sorted entry_sorted (args_sorted1 _) ?_
  unfold Builtin.«sorted»
  refine wpAny_bind (m := checkCount "sorted" 1 1 _) (wpAny_pure ?_)
  refine wpAny_bind <| collect_set (A := X.A.in1) (I.ok.hd hc) ⟨ob, here, ex.1, dt⟩ R.ft (by unfold scanBound; omega) R.tab.ris R.led fun s1 us1 k1 hz g1 o1 pm => ?_
  have rows : es.toList.map (·.2) = L.map fun q => Value.ref q.1 := by
    rw [R.rows]
    simp [rowsN, mem1, List.map_map, Function.comp_def]
  rw [rows] at pm
  obtain ⟨L1, p1, rfl⟩ := perm_back pm rfl
  have len1 : (L1.map fun q => Value.ref q.1).length ≤ sizeLine := by
    rw [List.length_map, p1.length_eq, sizeLine_eq]
    omega
  refine wpAny_bind <| wpAny_newList ?_ len1
  have hoL : (s1.heap.push (seqObj "list" (L1.map fun q => Value.ref q.1).toArray 0)).get? s1.heap.objs.size = some (seqObj "list" (L1.map fun q => Value.ref q.1).toArray 0) := Heap.get?_push_size _ rfl
  have old : ∀ b o, s.heap.get? b = some o → (PySem.W.sortingHeap (s1.heap.push (seqObj "list" (L1.map fun q => Value.ref q.1).toArray 0)) s1.heap.objs.size (L1.map fun q => Value.ref q.1)).get? b = some o := fun b o e => by
    have e1 := k1 b o e
    have lt := Heap.lt_size e1
    exact PySem.W.sortingHeap_old (Nat.ne_of_lt lt) (Heap.get?_push_of_some _ e1)
  have er : PySem.W.EachIs (fun v (b : Addr × κ) => ∃ as, PySem.Reads (PySem.W.sortingHeap (s1.heap.push (seqObj "list" (L1.map fun q => Value.ref q.1).toArray 0)) s1.heap.objs.size (L1.map fun q => Value.ref q.1)) v (enc b.2) as) (L1.map fun p => Value.ref p.1) L1 := by
    refine (PySem.W.each_mem (refs_each L1)).mono fun v b x => ?_
    obtain ⟨e, m⟩ := x
    obtain ⟨as, rd⟩ := Dp.reads I (enc b.2) (.ref b.1) v (O.dp (hk b (p1.mem_iff.mp m))) e
    exact ⟨as, PyProof.Rows.Reads.keeps old rd⟩
  have al : PySem.W.AllAlike (L1.map fun b => enc b.2) := PySem.W.AllAlike.of fun b b' => O.alike b.2 b'.2
  refine wpAny_bind <| wpAny_holding <| wpAny_call_entry slot_list_sort ⟨_, hoL, rfl⟩ entry_list_sort
    (PySem.W.list_sort_vals (κ := PySem.W.dataKind (PySem.W.sortingHeap (s1.heap.push (seqObj "list" (L1.map fun q => Value.ref q.1).toArray 0)) s1.heap.objs.size (L1.map fun q => Value.ref q.1)) (L1.map fun b => enc b.2)) (s := { s1 with heap := s1.heap.push (seqObj "list" (L1.map fun q => Value.ref q.1).toArray 0) }) hoL
      (sortsTups (s := { s1 with heap := PySem.W.sortingHeap (s1.heap.push (seqObj "list" (L1.map fun q => Value.ref q.1).toArray 0)) s1.heap.objs.size (L1.map fun q => Value.ref q.1) }) (PySem.W.each_map (R := fun v d => ∃ as, PySem.Reads (PySem.W.sortingHeap (s1.heap.push (seqObj "list" (L1.map fun q => Value.ref q.1).toArray 0)) s1.heap.objs.size (L1.map fun q => Value.ref q.1)) v d as) (fun b : Addr × κ => enc b.2) er) al
        (fun d m => by obtain ⟨b, _, rfl⟩ := List.mem_map.mp m; exact O.tup b.2) (fun d m => by
          obtain ⟨b, _, rfl⟩ := List.mem_map.mp m
          have := O.depth b.2
          simp only [Around.in1_units]
          omega)) len1 ⟨.none, rfl, ?_⟩) (args_list_sort _)
  have out := PySem.W.sortVals_data false (refs_each L1) er al
  obtain ⟨c, hc'⟩ := sortedHeap_at (vs := L1.map fun q => Value.ref q.1) (out := (PySem.W.sortVals (PySem.W.dataKind (PySem.W.sortingHeap (s1.heap.push (seqObj "list" (L1.map fun q => Value.ref q.1).toArray 0)) s1.heap.objs.size (L1.map fun q => Value.ref q.1)) (L1.map fun b => enc b.2)) false (L1.map fun q => Value.ref q.1) (L1.map fun q => Value.ref q.1)).toArray) hoL
  generalize PySem.W.sortVals (PySem.W.dataKind (PySem.W.sortingHeap (s1.heap.push (seqObj "list" (L1.map fun q => Value.ref q.1).toArray 0)) s1.heap.objs.size (L1.map fun q => Value.ref q.1)) (L1.map fun b => enc b.2)) false (L1.map fun q => Value.ref q.1) (L1.map fun q => Value.ref q.1) = ws at out hc' ⊢
  have ele : ∀ a b : Addr × κ, PySem.W.dataLe false (fun b : Addr × κ => enc b.2) a b = !lt b.2 a.2 := fun a b => by
    rw [PySem.W.dataLe_eq]
    show (!PySem.W.dataLt (enc b.2) (enc a.2)) = _
    rw [O.lts]
  have perm := List.mergeSort_perm L1 (PySem.W.dataLe false fun b : Addr × κ => enc b.2)
  have srt := List.pairwise_mergeSort (le := PySem.W.dataLe false fun b : Addr × κ => enc b.2) (fun a b c h1 h2 => by
    rw [ele, Bool.not_eq_true'] at h1 h2 ⊢
    exact O.le h1 h2) (fun a b => by
    rw [ele, ele]
    cases e : lt b.2 a.2 with
    | false => rfl
    | true => rw [O.asym e]; rfl) L1
  generalize L1.mergeSort (PySem.W.dataLe false fun b : Addr × κ => enc b.2) = L' at out perm srt
  have kp : ∀ b o, s.heap.get? b = some o → (sortedHeap (s1.heap.push (seqObj "list" (L1.map fun q => Value.ref q.1).toArray 0)) s1.heap.objs.size (L1.map fun q => Value.ref q.1) ws.toArray).get? b = some o := fun b o e => by
    have e1 := k1 b o e
    have lt := Heap.lt_size e1
    rw [sortedHeap_old (Nat.ne_of_lt lt) (by rw [size_push']; exact Nat.lt_succ_of_lt lt)]
    exact Heap.get?_push_of_some _ e1
  have none' : H s1.heap.objs.size = none := I.hok.fresh hz
  have len2 : (L'.map fun q => V.ref q.1).length ≤ sizeLine := by
    rw [List.length_map, perm.length_eq, p1.length_eq, sizeLine_eq]
    omega
  generalize sortedHeap (s1.heap.push (seqObj "list" (L1.map fun q => Value.ref q.1).toArray 0)) s1.heap.objs.size (L1.map fun q => Value.ref q.1) ws.toArray = h2 at hc' kp ⊢
  obtain ⟨h1, g', d', t', o'⟩ := s1
  dsimp only at *
  subst g1 o1
  have J : Inv X pins σ (upd H h1.objs.size (.lst (L'.map fun q => V.ref q.1))) { heap := h2, gens := s.gens, drawn := d', toks := t', os := s.os } :=
    I.call (ch := []) (Un.laid kp hz none') (I.hok.laid kp hz ⟨len2, ws, c, refs_vals out, by simpa using hc'⟩) I.bare (fun _ z => nomatch z)
  exact wpAny_pure ⟨_, rfl, ⟨.ref h1.objs.size, _, J, rfl, q L' _ (perm.trans p1) (srt.imp fun {a b} h => by rw [ele] at h; simpa using h) none'⟩⟩
end
end Kl

set_option maxRecDepth 100000
set_option maxHeartbeats 4000000
namespace L2
open PySem PySem.Spec PyProof.Rows
/-! ### own rules: list.remove of a text, sums of tuples -/
def eqS (z : Str) (u : Value) : Bool := match u with
  | .str y _ => y == z
  | _ => false
theorem eqS_gives {z : Str} {t : Tok} : ∀ {zs : List Str} {us : List Value}, Vals (zs.map V.str) us → ∀ y ∈ us, MeetsSeq.EqGives y (.str z t) (eqS z y)
  | [], _, .nil => fun y hy => nomatch hy
  | x :: zs, _, .cons r rest => fun y hy => by
    obtain ⟨k, rfl⟩ := r
    rcases List.mem_cons.mp hy with rfl | hy
    · show MeetsSeq.EqGives _ _ (x == z)
      rw [← SeqAt.str_beq]
      exact SeqRoads2.EqGives.str x z k t
    · exact eqS_gives rest y hy
theorem eqS_at {z : Str} : ∀ {zs : List Str} {us : List Value}, Vals (zs.map V.str) us → ∀ (m : Nat) (h : m < us.length), eqS z us[m] = true ↔ zs[m]? = some z
  | [], _, .nil, m, h => absurd h (Nat.not_lt_zero _)
  | x :: zs, _, .cons r rest, 0, _ => by
    obtain ⟨k, rfl⟩ := r
    show (x == z) = true ↔ some x = some z
    rw [beq_iff_eq, Option.some_inj]
  | x :: zs, _, .cons r rest, m + 1, h => eqS_at rest m (Nat.lt_of_succ_lt_succ h)
theorem erase_mapS : ∀ (l : List Str) (j : Nat), (l.map V.str).eraseIdx j = (l.eraseIdx j).map V.str
  | [], j => by simp
  | a :: r, 0 => by simp
  | a :: r, j + 1 => by
    have ih := erase_mapS r j
    simp [ih]
section
variable {X : Cx}
def rRemS : V → List V → Hp → VK → Prop := fun x xs H Q => ∃ (l : Addr) (zs : List Str) (z : Str) (j : Nat), x = .ref l ∧ xs = [.str z] ∧ H l = some (.lst (zs.map V.str)) ∧ zs[j]? = some z ∧ (∀ m : Nat, m < j → zs[m]? ≠ some z) ∧ Q .non (upd H l (.lst ((zs.eraseIdx j).map V.str)))
theorem mt_removeS : MtM X "list.remove" rRemS := by
  intro pins s σ H x xs v us Q I rx rxs h
  obtain ⟨l, zs, z, j, rfl, rfl, hH, hj, hno, q⟩ := h
  cases rx
  obtain ⟨u, rfl, ru⟩ := rxs.one
  obtain ⟨t, rfl⟩ := ru
  obtain ⟨hz, its, n, r, hl, e⟩ := I.lstM hH
  rw [List.length_map] at hl hz
  have hjn : j < zs.length := (List.getElem?_eq_some_iff.mp hj).1
  have hjl : j < its.toArray.size := by rw [List.size_toArray]; omega
  refine call_meets PySem.F.slot_list_remove ⟨_, e, rfl⟩ PySem.F.entry_list_remove (PySem.F.args_list_remove_2 _ _)
    (MeetsSeq.list_remove l its.toArray n (.str z t) (eqS z) (fun y hy => eqS_gives r y (by simpa using hy)) j hjl ?_ ?_ (by rw [List.size_toArray]; omega)) ⟨e, ?_⟩
  · exact (eqS_at r j (by simpa using hjl)).mpr hj
  · intro m hm hmj
    cases c : eqS z its.toArray[m] with
    | false => rfl
    | true => exact absurd ((eqS_at r m (by simpa using hm)).mp c) (hno m hmj)
  · have rr := r.eraseIdx j
    rw [erase_mapS] at rr
    refine ⟨.non, _, I.lset (its' := its.eraseIdx j) (t' := s.toks) hH e ?_ rr ?_, rfl, q⟩
    · show its.toArray.eraseIdxIfInBounds j = (its.eraseIdx j).toArray
      rw [List.eraseIdxIfInBounds_toArray]
    · rw [List.length_map]
      have : (zs.eraseIdx j).length ≤ zs.length := by rw [List.length_eraseIdx]; split <;> omega
      omega
/-- t + u, whichever object it is -/
def rCatC : R2 := fun x y H Q => ∃ a b xs ys, x = .ref a ∧ y = .ref b ∧ H a = some (.tup xs) ∧ H b = some (.tup ys) ∧ xs.length + ys.length ≤ sizeLine ∧ ∀ p G, (∀ c o, H c = some o → G c = some o) → G p = some (.tup (xs ++ ys)) → Q (.ref p) G
theorem op_catC : OpR X (binaryOp .Add) rCatC := by
  intro pins s σ H x y v u Q I rx ry h
  obtain ⟨a, b, xs, ys, rfl, rfl, ha, hb, hz, q⟩ := h
  refine op_catA pins s σ H _ _ v u Q I rx ry ⟨a, b, xs, ys, rfl, rfl, .inl (.inl ha), .inl (.inl hb), hz, fun e => q b H (fun _ _ e => e) (by rw [e]; exact hb), fun _ e => q a H (fun _ _ e => e) (by rw [e, List.append_nil]; exact ha), fun _ _ p np => q p _ (fun c o e => ?_) upd_same⟩
  rw [upd_ne (fun z => by rw [z, np] at e; cases e)]
  exact e
end
end L2

set_option maxRecDepth 100000
set_option maxHeartbeats 4000000
namespace Kl
open PySem PySem.Spec PyProof.Rows L2 Gx Mx
/-! ### lines of kinds: what a value tells -/
def digB (zs : List Str) : Bool := decide ((zs.length : Int) ≤ 3) && (zs.all nameB && sortedS zs)
inductive Pl
  | l (z : Str)
  | k (n : Str) (ps : List Str)
deriving DecidableEq
def parse3 (z : Str) : Option (List Str) := if z = "0" then some [] else if digB (Txt.split z "+") = true then some (Txt.split z "+") else none
/-- the parts of a making -/
def parseM (z : Str) : Option (List Str) := (parse3 z).filter fun q => decide (2 ≤ q.length)
def tellW (ws : List Str) : Option Pl := match ws with
  | [a, z] => if a = "leaf" ∧ nameB z = true then some (.l z) else none
  | [a, n, c] => if a = "kind" ∧ nameB n = true then (parseM c).map fun q => .k n q else none
  | _ => none
def wordsV : V → List Str
  | .str z => Txt.split z " "
  | _ => []
def tellV (v : V) : Option Pl := tellW (wordsV v)
def plK : Pl → NestedKey
  | .l _ => keyT ["leaf"]
  | .k n _ => keyT ["kind", n]
theorem plK_k {n n' : Str} {q q' : List Str} (h : plK (.k n q) = plK (.k n' q')) : n = n' := by
  have := keyT_inj h
  injection this with _ this
  injection this
theorem plK_lk {z n : Str} {q : List Str} : plK (.l z) ≠ plK (.k n q) := fun h => by
  have := keyT_inj h
  cases this
/-- the places filled one behind the other -/
def readL : List Pl → Nat → List (Option Pl) → List Pl ⊕ Nat
  | qs, _, [] => .inl qs
  | _, i, none :: _ => .inr i
  | qs, i, some p :: os => if plK p ∈ qs.map plK then .inr i else readL (qs ++ [p]) (i + 1) os
def leafOf (qs : List Pl) : Option Str := qs.findSome? fun p => match p with | .l z => some z | _ => none
def maksOf (qs : List Pl) : Mak := qs.filterMap fun p => match p with | .k n q => some (n, q) | _ => none
/-- all that is known of what a value tells -/
def PlOk : Pl → Prop
  | .l z => nameB z = true
  | .k n q => nameB n = true ∧ digB q = true ∧ 2 ≤ q.length
theorem parse3_ok {c : Str} {g : List Str} (h : parse3 c = some g) : digB g = true := by
  unfold parse3 at h
  split at h
  · cases h
    decide +kernel
  · split at h
    · rename_i k
      cases h
      exact k
    · cases h
theorem tellW_ok {ws : List Str} {p : Pl} (h : tellW ws = some p) : PlOk p := by
  unfold tellW at h
  split at h
  · split at h
    · rename_i c
      cases h
      exact c.2
    · cases h
  · split at h
    · rename_i c
      obtain ⟨g, hg, rfl⟩ := Option.map_eq_some_iff.mp h
      unfold parseM at hg
      obtain ⟨h1, h2⟩ := Option.filter_eq_some_iff.mp hg
      exact ⟨c.2, parse3_ok h1, of_decide_eq_true h2⟩
    · cases h
  · cases h
theorem readL_ok {PP : Pl → Prop} : ∀ {os : List (Option Pl)} {qs qs' : List Pl} {i : Nat}, readL qs i os = .inl qs' → (∀ p ∈ qs, PP p) → (∀ o ∈ os, ∀ p, o = some p → PP p) → (qs.map plK).Nodup → (∀ p ∈ qs', PP p) ∧ (qs'.map plK).Nodup ∧ qs'.length = qs.length + os.length
  | [], qs, qs', i, h, h1, _, nd => by
    cases h
    exact ⟨h1, nd, rfl⟩
  | none :: os, qs, qs', i, h, _, _, _ => by cases h
  | some p :: os, qs, qs', i, h, h1, h2, nd => by
    unfold readL at h
    split at h
    · cases h
    · rename_i c
      obtain ⟨a, b, l⟩ := readL_ok h (fun x m => by
        rcases List.mem_append.mp m with m | m
        · exact h1 x m
        · rw [List.mem_singleton.mp m]; exact h2 _ List.mem_cons_self p rfl) (fun o m => h2 o (List.mem_cons_of_mem _ m)) (by
        rw [List.map_append]
        refine List.nodup_append.mpr ⟨nd, by simp, fun x hx y hy e => ?_⟩
        rw [List.map_cons, List.map_nil, List.mem_singleton] at hy
        exact c (by rw [← hy, ← e]; exact hx))
      refine ⟨a, b, ?_⟩
      rw [l, List.length_append, List.length_singleton, List.length_cons]
      omega
end Kl

set_option maxRecDepth 100000
set_option maxHeartbeats 4000000
namespace Kl
open PySem PySem.Spec PyProof.Rows L2 Gx Mx
theorem ty_sq {K : PySem.W.Frag} {G : Hp} {a : Addr} {zs : List V} (hp : SqT K G a zs) : TyX K G (.ref a) (.type "tuple") := by
  rcases hp with (h | ⟨o, h⟩) | ⟨o, its, n, h, c, _⟩
  · exact .base (.tup h)
  · exact .fTuple h
  · exact .kTuple h c
theorem sqT_same {K : PySem.W.Frag} {H H' : Hp} {a : Addr} {xs : List V} (s : Same H H') (h : SqT K H a xs) : SqT K H' a xs := by
  rcases h with (h | ⟨o, h⟩) | h
  · exact .inl (.inl (s _ _ h))
  · exact .inl (.inr ⟨o, s _ _ h⟩)
  · exact .inr h
/-! ### words of lines -/
theorem cps_app18 (a b : Str) : (a ++ b).cps.toList = a.cps.toList ++ b.cps.toList := by
  show (a.cps ++ b.cps).toList = _
  rw [Array.toList_append]
theorem le_sum18 : ∀ {l : List Str} {w : Str}, w ∈ l → w.length ≤ (l.map (·.length)).sum
  | a :: r, w, h => by
    rw [List.map_cons, List.sum_cons]
    rcases List.mem_cons.mp h with rfl | h
    · omega
    · have := le_sum18 h
      omega
theorem join_cut (z y : Str) : Txt.join y (Txt.split z y) = z := by
  rw [TL.join_eq]
  exact StrLaws.join_split z y
theorem split_sum {z y : Str} (hy : 1 ≤ y.length) : ((Txt.split z y).map (·.length)).sum + (Txt.split z y).length ≤ z.length + 1 := by
  have h1 := split_weight z y hy
  have h3 := split_pos z y
  omega
theorem split_short {z y w : Str} (hy : 1 ≤ y.length) (h : w ∈ Txt.split z y) : w.length ≤ z.length := by
  have h1 := split_sum (z := z) hy
  have h2 := le_sum18 h
  have h3 := split_pos z y
  omega
/-- all signs below 128 -/
def AscS (z : Str) : Prop := ∀ c ∈ z.cps.toList, c < 128
theorem asc_ok {z : Str} (h : AscS z) : PyData.strOk z = true := by
  show z.cps.all _ = true
  rw [Array.all_eq_true']
  intro c hc
  exact decide_eq_true (Nat.lt_trans (h c (Array.mem_toList_iff.mpr hc)) (by decide))
theorem mem_join18 {y : Str} {c : Nat} {w : Str} (hc : c ∈ w.cps.toList) : ∀ {l : List Str}, w ∈ l → c ∈ (Str.join y l).cps.toList
  | [a], h => by
    rw [List.mem_singleton.mp h] at hc
    exact hc
  | a :: b :: r, h => by
    show c ∈ (a ++ y ++ Str.join y (b :: r)).cps.toList
    rw [cps_app18, cps_app18, List.mem_append, List.mem_append]
    rcases List.mem_cons.mp h with rfl | h
    · exact .inl (.inl hc)
    · exact .inr (mem_join18 hc h)
theorem asc_split {z y w : Str} (h : AscS z) (hw : w ∈ Txt.split z y) : AscS w := fun c hc => by
  refine h c ?_
  have e := join_cut z y
  rw [TL.join_eq] at e
  rw [← e]
  exact mem_join18 hc hw
/-- values that are no texts -/
inductive OddV (K : PySem.W.Frag) (H : Hp) : V → Prop
  | non : OddV K H .non
  | int (i : Int) : OddV K H (.int i)
  | bl (b : Bool) : OddV K H (.bl b)
  | lst {a : Addr} {xs : List V} (e : H a = some (.lst xs)) : OddV K H (.ref a)
  | tup {a : Addr} {xs : List V} (e : SqT K H a xs) : OddV K H (.ref a)
  | dic {a : Addr} {kvs : List (Key × V)} (e : H a = some (.dK kvs)) : OddV K H (.ref a)
/-- values in the place of lines -/
def LnV (K : PySem.W.Frag) (H : Hp) (v : V) : Prop := (∃ z, v = .str z ∧ z.length ≤ 99 ∧ AscS z) ∨ OddV K H v
theorem OddV.same {K : PySem.W.Frag} {H H' : Hp} {v : V} (h : OddV K H v) (s : Same H H') : OddV K H' v := by
  cases h with
  | non => exact .non
  | int i => exact .int i
  | bl b => exact .bl b
  | lst e => exact .lst (s _ _ e)
  | tup e => exact .tup (sqT_same s e)
  | dic e => exact .dic (s _ _ e)
theorem LnV.same {K : PySem.W.Frag} {H H' : Hp} {v : V} (h : LnV K H v) (s : Same H H') : LnV K H' v := h.imp id fun o => o.same s
theorem OddV.ty {K : PySem.W.Frag} {H : Hp} {v : V} (h : OddV K H v) : (∀ z, v ≠ .str z) ∧ ∃ t, TyX K H v t ∧ PySem.W.kitOne K t (.type "str") = some false := by
  cases h with
  | non => exact ⟨fun z h => (nomatch h), _, .base .non, kit_ty (by decide +kernel)⟩
  | int i => exact ⟨fun z h => (nomatch h), _, .base (.int i), kit_ty (by decide +kernel)⟩
  | bl b => exact ⟨fun z h => (nomatch h), _, .base (.bl b), kit_ty (by decide +kernel)⟩
  | lst e => exact ⟨fun z h => (nomatch h), _, .base (.lst e), kit_ty (by decide +kernel)⟩
  | tup e => exact ⟨fun z h => (nomatch h), _, ty_sq e, kit_ty (by decide +kernel)⟩
  | dic e => exact ⟨fun z h => (nomatch h), _, .base (.dK e), kit_ty (by decide +kernel)⟩
theorem wordsV_odd {v : V} (h : ∀ z, v ≠ .str z) : wordsV v = [] := by
  cases v with
  | str z => exact absurd rfl (h z)
  | _ => rfl
theorem lnV_words {K : PySem.W.Frag} {H : Hp} {v : V} (h : LnV K H v) : (∀ z ∈ wordsV v, z.length ≤ 99 ∧ AscS z) ∧ (wordsV v).length ≤ 100 := by
  rcases h with ⟨z, rfl, hl, ha⟩ | o
  · have h1 := split_sum (z := z) (y := " ") (by decide +kernel)
    refine ⟨fun w hw => ⟨Nat.le_trans (split_short (by decide +kernel) hw) hl, asc_split ha hw⟩, ?_⟩
    show (Txt.split z " ").length ≤ 100
    omega
  · rw [wordsV_odd o.ty.1]
    exact ⟨fun z m => (nomatch m), Nat.zero_le _⟩
/-- what a line's reader gave -/
def ValA (H : Hp) (x : V) : Pl → Prop
  | .l z => x = .str z
  | .k _ q => ∃ a, x = .ref a ∧ TupZ H a (q.map V.str)
def TellAt (K : PySem.W.Frag) (H : Hp) (u : V) : Option Pl → Prop
  | none => u = .non
  | some p => ∃ (t k : Addr) (x : V), u = .ref t ∧ SqT K H t [.ref k, x] ∧ KeyA K H k (plK p) ∧ ValA H x p
theorem ValA.mono {H H' : Hp} {x : V} {p : Pl} (h : ValA H x p) (s : ∀ a xs, TupZ H a xs → TupZ H' a xs) : ValA H' x p := by
  cases p with
  | l z => exact h
  | k n q =>
    obtain ⟨a, e, h⟩ := h
    exact ⟨a, e, s _ _ h⟩
section
variable {P : Program} {w : World} {K : PySem.W.Frag} {mg : Str → Option Value} {base : Heap}
def spWo (K : PySem.W.Frag) : Sp := fun vs H Q _ => ∃ v : V, vs = [v] ∧ LnV K H v ∧ ∀ p H', H p = none → Same H H' → H' p = some (.lst ((wordsV v).map V.str)) → Q (.ref p) H'
theorem ok_wo {f : Addr} {fd : FuncData} (F : Fun K "words_of" "words_of" s_words_of f fd) (T : Top K mg) : FnOk P w K mg base CX0 1 f fd ["line"] (spWo K) := by
  refine F.ok sc_words_of (fun vs H Q E h => ?_) (fun cdv A outer s H vs Q E hr h => ?_)
  · obtain ⟨z, rfl, _⟩ := h
    rfl
  · obtain ⟨v, rfl, hv, q⟩ := h
    refine ⟨_, pss_one (ps_ret (pe_ifExp (pt_val (pe_callB call_isi (by rfl) T.b_isinstance (by decide +kernel) (pa_cons (pv 0) (pa_cons (pe_bltn (v := .ty "str") (by rfl) T.b_str (by decide +kernel) rfl) pa_nil)))) (pe_split (pv 0) pe_str) (pe_lst pa_nil))), ?_⟩
    have big : 100000 ≤ sizeLine := by decide
    rcases hv with ⟨z, rfl, hz, ha⟩ | o
    · refine ⟨_, rfl, _, .ty "str", .type "str", .type "str", true, rfl, .ty _, .base (.str z), kit_ty (by decide +kernel), true, rfl, ?_⟩
      show (if true = true then _ else _)
      rw [if_pos rfl]
      exact ⟨_, rfl, ⟨_, rfl⟩, z, _, rfl, rfl, rfl, by omega, fun p np => q p _ np (same_new (Same.refl H) np) upd_same⟩
    · obtain ⟨ns, t, ty, k⟩ := o.ty
      rw [wordsV_odd ns] at q
      refine ⟨_, rfl, _, .ty "str", t, .type "str", false, rfl, .ty _, ty, k, false, rfl, ?_⟩
      show (if false = true then _ else _)
      rw [if_neg (by decide)]
      exact ⟨Nat.zero_le _, fun p np => q p _ np (same_new (Same.refl H) np) upd_same⟩
def spNi (K : PySem.W.Frag) : Sp := fun vs H Q _ => ∃ z : Str, vs = [V.str z, V.int 3] ∧ z.length ≤ 900 ∧ (∀ p q H', parse3 z = some q → Same H H' → SqT K H' p (q.map V.str) → (q ≠ [] → TupZ H' p (q.map V.str)) → Q (.ref p) H') ∧ (∀ H', parse3 z = none → Same H H' → Q .non H')
theorem ok_ni {f : Addr} {fd : FuncData} (F : Fun K "names_in" "names_in" s_names_in f fd) (T : Top K mg) : FnOk P w K mg base CX0 4 f fd ["text", "most"] (spNi K) := by
  have cs : CalO P w K mg base 3 "is_sorted" ["value", "most"] 1 ["most"] (fun vs zs => vs ++ zs) (spSorted K) := T.d_is_sorted.calO fun f fd F => ok_sorted F T
  refine F.ok sc_names_in (fun vs H Q E h => ?_) (fun cdv A outer s H vs Q E hr h => ?_)
  · obtain ⟨z, rfl, _⟩ := h
    rfl
  · obtain ⟨z, rfl, hz, q1, q2⟩ := h
    refine ⟨_, pss_cons (ps_if (pt_not (pt_val (pe_callB call_isi (by rfl) T.b_isinstance (by decide +kernel) (pa_cons (pv 0) (pa_cons (pe_bltn (v := .ty "str") (by rfl) T.b_str (by decide +kernel) rfl) pa_nil))))) (pss_one (ps_ret pe_non)) pss_nil)
      (pss_cut (ps_set (i := 2) sc_names_in.nd rfl (.inl rfl) (pe_ifExp (pt_cmpR op_eq (pv 0) pe_str (nomark _)) (pe_tup pa_nil) (pe_callTy call_tupleZ (by rfl) T.b_tuple (by decide +kernel) (pa_cons (pe_split (pv 0) pe_str) pa_nil))))
      (pss_one (ps_ret (pe_ifExp (pt_val (pe_calO cs hr (by rfl) (pa_cons (pv 2) pa_nil) (pk_cons (pv 1) pk_nil))) (pv 2) pe_non)))), ?_⟩
    have big : 100000 ≤ sizeLine := by decide
    refine ⟨_, rfl, _, .ty "str", .type "str", .type "str", true, rfl, .ty _, .base (.str z), kit_ty (by decide +kernel), true, rfl, ?_⟩
    show (if (!true) = true then _ else _)
    rw [if_neg (by decide)]
    refine ⟨fun σ' G => ∃ (p : Addr) (q : List Str), σ' = [some (.str z), some (.int 3), some (.ref p)] ∧ (SqT K G p (q.map V.str) ∧ (q ≠ [] → TupZ G p (q.map V.str))) ∧ Same H G ∧ parse3 z = (if digB q = true then some q else none) ∧ q.length ≤ 1000 ∧ ∀ y ∈ q, y.length ≤ 1000, ?_, ?_⟩
    · refine ⟨_, rfl, rfl, _, rfl, ite2 (fun c => ?_) (fun c => ?_)⟩
      · have ez : z = "0" := V.str.inj (of_decide_eq_true c)
        refine ⟨Nat.zero_le _, fun p np => ⟨p, [], rfl, ⟨SqT.of upd_same, fun n => absurd rfl n⟩, same_new (Same.refl H) np, ?_, Nat.zero_le _, nofun⟩⟩
        unfold parse3
        rw [if_pos ez, if_pos (by decide +kernel)]
      · have ez : z ≠ "0" := fun h => c (decide_eq_true (by rw [h]))
        refine ⟨_, rfl, ⟨_, rfl⟩, z, _, rfl, rfl, rfl, by omega, fun l nl => ?_⟩
        have s1 := same_new (o := .lst ((Txt.split z "+").map V.str)) (Same.refl H) nl
        refine ⟨l, _, rfl, .inl (.inl upd_same), fun t G hz nt sm => ?_⟩
        refine ⟨t, Txt.split z "+", rfl, ⟨hz.sq, fun _ => hz⟩, s1.trans (fun b o e => by rw [sm b (ne_of_none e nt)]; exact e), ?_, ?_, fun y hy => Nat.le_trans (split_short (by decide +kernel) hy) (by omega)⟩
        · unfold parse3
          rw [if_neg ez]
        · have := split_le z "+"
          omega
    rintro σ' G ⟨p, q, rfl, ⟨ep, ez⟩, sm, hpa, hl, hy⟩
    refine ⟨_, rfl, _, rfl, rfl, rfl, p, q, 3, rfl, ep, ty_sq ep, by decide, by decide, hl, hy, fun H' s => ⟨_, rfl, ?_⟩⟩
    show if digB q = true then _ else _
    refine ite2 (fun c => ?_) (fun c => ?_)
    · rw [if_pos c] at hpa
      exact ⟨_, rfl, q1 p q H' hpa (sm.trans s) (sqT_same s ep) fun n => (ez n).mono s⟩
    · rw [if_neg c] at hpa
      exact q2 H' hpa (sm.trans s)
/-! ### _is_making, _leaf_in, _making_in, kinds_line -/
theorem digB_names {q : List Str} (h : digB q = true) : q.length ≤ 3 ∧ (∀ z ∈ q, nameB z = true) ∧ sortedS q = true := by
  unfold digB at h
  simp only [Bool.and_eq_true, decide_eq_true_eq, List.all_eq_true] at h
  exact ⟨by omega, h.2.1, h.2.2⟩
def spMg (K : PySem.W.Frag) : Sp := fun vs H Q _ => ∃ (p : Addr) (zs : List Str), vs = [.ref p] ∧ SqT K H p (zs.map V.str) ∧ digB zs = true ∧ ∀ H', Same H H' → Q (.bl (decide (2 ≤ zs.length))) H'
theorem ok_mg {f : Addr} {fd : FuncData} (F : Fun K "_is_making" "_is_making" s_is_making f fd) (T : Top K mg) : FnOk P w K mg base CX0 4 f fd ["value"] (spMg K) := by
  obtain ⟨tm, gm⟩ := T.g_MAX_PARTS
  have cs : CalO P w K mg base 3 "is_sorted" ["value", "most"] 1 ["most"] (fun vs zs => vs ++ zs) (spSorted K) := T.d_is_sorted.calO fun f fd F => ok_sorted F T
  refine F.ok sc_is_making (fun vs H Q E h => ?_) (fun cdv A outer s H vs Q E hr h => ?_)
  · obtain ⟨p, zs, rfl, _⟩ := h
    rfl
  · obtain ⟨p, zs, rfl, hp, hd, q⟩ := h
    refine ⟨_, pss_one (ps_ret (pe_and (pe_calO cs hr (by rfl) (pa_cons (pv 0) pa_nil) (pk_cons (pe_glob (v := .int 3) (by rfl) gm ⟨_, rfl⟩) pk_nil))
      (pe_one (pe_cmpR op_ge (pe_callB call_len_seq (by rfl) T.b_len PySem.boot_len (pa_cons (pv 0) pa_nil)) pe_int (nomark _))))), ?_⟩
    obtain ⟨l3, hn, hs⟩ := digB_names hd
    refine ⟨_, rfl, rfl, rfl, p, zs, 3, rfl, hp, ty_sq hp, by decide, by decide, by omega, fun z m => Nat.le_trans (pool_len (hn z m)) (by decide), fun H1 s1 => ⟨_, rfl, ?_⟩⟩
    have e0 : (decide ((zs.length : Int) ≤ 3) && (zs.all nameB && sortedS zs)) = true := hd
    rw [e0]
    refine ⟨_, rfl, p, _, rfl, .inr (sqT_same s1 hp), _, _, rfl, rfl, ?_⟩
    have e : decide ((2 : Int) ≤ ((zs.map V.str).length : Int)) = decide (2 ≤ zs.length) := by
      rw [List.length_map, decide_eq_decide]
      omega
    show Q (.bl (decide ((2 : Int) ≤ ((zs.map V.str).length : Int)))) H1
    rw [e]
    exact q H1 s1
def spLf (K : PySem.W.Frag) : Sp := fun vs H Q _ => ∃ v : V, vs = [v] ∧ LnV K H v ∧ ∀ u H', Same H H' → ((∃ z, u = .str z ∧ tellV v = some (.l z)) ∨ (u = .non ∧ ∀ z, tellV v ≠ some (.l z))) → Q u H'
theorem ok_lf {f : Addr} {fd : FuncData} (F : Fun K "_leaf_in" "_leaf_in" s_leaf_in f fd) (T : Top K mg) : FnOk P w K mg base CX0 6 f fd ["line"] (spLf K) := by
  have cn : Cal P w K mg base 5 "is_name" ["value"] (spName K) := (T.d_is_name.cal fun f fd F => ok_name F T).mono (by decide)
  have cw : Cal P w K mg base 5 "words_of" ["line"] (spWo K) := (T.d_words_of.cal fun f fd F => ok_wo F T).mono (by decide)
  refine F.ok sc_leaf_in (fun vs H Q E h => ?_) (fun cdv A outer s H vs Q E hr h => ?_)
  · obtain ⟨v, rfl, _⟩ := h
    rfl
  · obtain ⟨v, rfl, hv, q⟩ := h
    refine ⟨_, pss_cut (ps_set (i := 1) sc_leaf_in.nd rfl (.inl rfl) (pe_cal cw hr (by rfl) (pa_cons (pv 0) pa_nil)))
      (pss_cut (ps_if (PW.pt (pw_and (pt_cmpR op_eq (pe_callB call_len_seq (by rfl) T.b_len PySem.boot_len (pa_cons (pv 1) pa_nil)) pe_int (nomark _)) (pw_and (pt_cmpR op_eq (pe_ix ix_list (pv 1) pe_int (fun _ _ => rfl)) pe_str (nomark _))
          (pw_and1 (pt_val (pe_cal cn hr (by rfl) (pa_cons (pe_ix ix_list (pv 1) pe_int (fun _ _ => rfl)) pa_nil))))))) (pss_one (ps_ret (pe_ix ix_list (pv 1) pe_int (fun _ _ => rfl)))) pss_nil)
      (pss_one (ps_ret pe_non))), ?_⟩
    have big : 100000 ≤ sizeLine := by decide
    obtain ⟨hw, lw⟩ := lnV_words hv
    unfold tellV at q
    generalize hws : wordsV v = ws at *
    refine ⟨fun σ' G => ∃ l : Addr, σ' = [some v, some (.ref l)] ∧ G l = some (.lst (ws.map V.str)) ∧ Same H G, ?_, ?_⟩
    · refine ⟨_, rfl, v, rfl, hv, fun l G nl s el => ⟨l, rfl, ?_, s⟩⟩
      rw [hws] at el
      exact el
    rintro σ' G1 ⟨l, rfl, el, s1⟩
    refine ⟨fun σ' G => G = G1 ∧ ∀ z, tellW ws ≠ some (.l z), ?_, ?_⟩
    · have no : (¬ ∃ z, ws = [("leaf" : Str), z] ∧ nameB z = true) → ∀ z, tellW ws ≠ some (.l z) := fun n z h => by
        unfold tellW at h
        split at h
        · rename_i a b
          by_cases c : a = "leaf" ∧ nameB b = true
          · exact n ⟨b, by rw [c.1], c.2⟩
          · rw [if_neg c] at h
            cases h
        · split at h
          · obtain ⟨g, _, e⟩ := Option.map_eq_some_iff.mp h
            cases e
          · cases h
        · cases h
      refine ⟨_, rfl, l, _, rfl, .inl (.inl (.inl el)), rfl, _, rfl, ite2 (fun c => ?_) (fun c => ⟨rfl, no fun ⟨z, e, _⟩ => c (by rw [e]; rfl)⟩)⟩
      have l2 : ws.length = 2 := by
        have := of_decide_eq_true c
        injection this with this
        rw [List.length_map] at this
        omega
      obtain ⟨a, b, e⟩ : ∃ a b, ws = [a, b] := by
        match ws, l2 with
        | [a, b], _ => exact ⟨a, b, rfl⟩
      subst e
      refine ⟨_, rfl, l, _, 0, .str a, rfl, rfl, .inl (.inl el), rfl, rfl, _, rfl, ite2 (fun c0 => ?_) (fun c0 => ⟨rfl, no fun ⟨z, e, _⟩ => c0 (by injection e with e _; rw [e]; exact decide_eq_true rfl)⟩)⟩
      have ea : a = "leaf" := V.str.inj (of_decide_eq_true c0)
      have hb := (hw b (by simp)).1
      refine ⟨_, rfl, l, _, 1, .str b, rfl, rfl, .inl (.inl el), rfl, _, rfl, .inl ⟨b, rfl, Nat.le_trans hb (by decide)⟩, _, rfl, ite2 (fun c1 => ?_) (fun c1 => ⟨rfl, no fun ⟨z, e, n⟩ => c1 (by injection e with _ e; injection e with e _; rw [e]; exact n)⟩)⟩
      have nb : nameB b = true := c1
      refine ⟨_, rfl, l, _, 1, .str b, rfl, rfl, .inl (.inl el), rfl, q _ _ s1 (.inl ⟨b, rfl, ?_⟩)⟩
      rw [ea]
      exact if_pos ⟨rfl, nb⟩
    rintro σ' _ ⟨rfl, n⟩
    exact q _ _ s1 (.inr ⟨rfl, n⟩)
end
end Kl

set_option maxRecDepth 100000
set_option maxHeartbeats 4000000
namespace Kl
open PySem PySem.Spec PyProof.Rows L2 Gx Mx
/-! ### _making_in, kinds_line -/
theorem tellW_k {ws : List Str} {n : Str} {g : List Str} (h : tellW ws = some (.k n g)) : ∃ c, ws = [("kind" : Str), n, c] ∧ nameB n = true ∧ parseM c = some g := by
  unfold tellW at h
  split at h
  · split at h
    · cases h
    · cases h
  · split at h
    · rename_i c
      obtain ⟨g', hg, e⟩ := Option.map_eq_some_iff.mp h
      cases e
      exact ⟨_, by rw [c.1], c.2, hg⟩
    · cases h
  · cases h
theorem tellW_l {ws : List Str} {z : Str} (h : tellW ws = some (.l z)) : ws = [("leaf" : Str), z] ∧ nameB z = true := by
  unfold tellW at h
  split at h
  · split at h
    · rename_i c
      cases h
      exact ⟨by rw [c.1], c.2⟩
    · cases h
  · split at h
    · obtain ⟨g', hg, e⟩ := Option.map_eq_some_iff.mp h
      cases e
    · cases h
  · cases h
theorem tellW_mk {n c : Str} {g : List Str} (h1 : nameB n = true) (h2 : parseM c = some g) : tellW [("kind" : Str), n, c] = some (.k n g) := by
  show (if ("kind" : Str) = "kind" ∧ nameB n = true then (parseM c).map (fun q => Pl.k n q) else none) = _
  rw [if_pos ⟨rfl, h1⟩, h2]
  rfl
theorem ix_tupKK {X : Cx} {K : PySem.W.Frag} (hk : X.K = K) : IxR X (rIxT K) := by
  subst hk
  exact ix_tup
section
variable {P : Program} {w : World} {K : PySem.W.Frag} {mg : Str → Option Value} {base : Heap}
def spMi (K : PySem.W.Frag) : Sp := fun vs H Q _ => ∃ v : V, vs = [v] ∧ LnV K H v ∧ ∀ u H', Same H H' → ((∃ (t a : Addr) (n : Str) (g : List Str), u = .ref t ∧ SqT K H' t [.str n, .ref a] ∧ TupZ H' a (g.map V.str) ∧ tellV v = some (.k n g)) ∨ (u = .non ∧ ∀ n g, tellV v ≠ some (.k n g))) → Q u H'
theorem ok_mi {f : Addr} {fd : FuncData} (F : Fun K "_making_in" "_making_in" s_making_in f fd) (T : Top K mg) : FnOk P w K mg base CX0 6 f fd ["line"] (spMi K) := by
  obtain ⟨tm, gm⟩ := T.g_MAX_PARTS
  have cn : Cal P w K mg base 5 "is_name" ["value"] (spName K) := (T.d_is_name.cal fun f fd F => ok_name F T).mono (by decide)
  have cw : Cal P w K mg base 5 "words_of" ["line"] (spWo K) := (T.d_words_of.cal fun f fd F => ok_wo F T).mono (by decide)
  have ci : CalO P w K mg base 4 "names_in" ["text", "most"] 1 ["most"] (fun vs zs => vs ++ zs) (spNi K) := T.d_names_in.calO fun f fd F => ok_ni F T
  have cm : Cal P w K mg base 4 "_is_making" ["value"] (spMg K) := T.d_is_making.cal fun f fd F => ok_mg F T
  refine F.ok sc_making_in (fun vs H Q E h => ?_) (fun cdv A outer s H vs Q E hr h => ?_)
  · obtain ⟨v, rfl, _⟩ := h
    rfl
  · obtain ⟨v, rfl, hv, q⟩ := h
    have r4 := hr.mono (show 4 ≤ 5 by decide)
    refine ⟨_, pss_cut (ps_set (i := 1) sc_making_in.nd rfl (.inl rfl) (pe_cal cw hr (by rfl) (pa_cons (pv 0) pa_nil)))
      (pss_cut (ps_if (PW.pt (pw_or (pt_cmpR op_ne (pe_callB call_len_seq (by rfl) T.b_len PySem.boot_len (pa_cons (pv 1) pa_nil)) pe_int (nomark _)) (pw_or (pt_cmpR op_ne (pe_ix ix_list (pv 1) pe_int (fun _ _ => rfl)) pe_str (nomark _))
          (pw_or1 (pt_not (pt_val (pe_cal cn hr (by rfl) (pa_cons (pe_ix ix_list (pv 1) pe_int (fun _ _ => rfl)) pa_nil)))))))) (pss_one (ps_ret pe_non)) pss_nil)
      (pss_cut (ps_set (i := 2) sc_making_in.nd rfl (.inl rfl) (pe_calO ci r4 (by rfl) (pa_cons (pe_ix ix_list (pv 1) pe_int (fun _ _ => rfl)) pa_nil) (pk_cons (pe_glob (v := .int 3) (by rfl) gm ⟨_, rfl⟩) pk_nil)))
      (pss_one (ps_ret (pe_ifExp (PW.pt (pw_and (pt_cmpR op_notN (pv 2) pe_non (nomark _)) (pw_and1 (pt_val (pe_cal cm r4 (by rfl) (pa_cons (pv 2) pa_nil)))))) (pe_tup (pa_cons (pe_ix ix_list (pv 1) pe_int (fun _ _ => rfl)) (pa_cons (pv 2) pa_nil))) pe_non))))), ?_⟩
    have big : 100000 ≤ sizeLine := by decide
    obtain ⟨hw, lw⟩ := lnV_words hv
    unfold tellV at q
    generalize hws : wordsV v = ws at *
    refine ⟨fun σ' G => ∃ l : Addr, σ' = [some v, some (.ref l), none] ∧ G l = some (.lst (ws.map V.str)) ∧ Same H G, ?_, ?_⟩
    · refine ⟨_, rfl, v, rfl, hv, fun l G nl s el => ⟨l, rfl, ?_, s⟩⟩
      rw [hws] at el
      exact el
    rintro σ' G1 ⟨l, rfl, el, s1⟩
    -- a line of a kind?
    refine ⟨fun σ' G => ∃ n c : Str, σ' = [some v, some (.ref l), none] ∧ G = G1 ∧ ws = [("kind" : Str), n, c] ∧ nameB n = true, ?_, ?_⟩
    · have no : (¬ ∃ n c, ws = [("kind" : Str), n, c] ∧ nameB n = true) → Q .non G1 := fun h => q _ _ s1 (.inr ⟨rfl, fun n g e => by
        obtain ⟨c, e1, e2, _⟩ := tellW_k e
        exact h ⟨n, c, e1, e2⟩⟩)
      refine ⟨_, rfl, l, _, rfl, .inl (.inl (.inl el)), rfl, _, rfl, ite2 (fun c => ?_) (fun c => ?_)⟩
      · refine no fun ⟨n, c', e, _⟩ => ?_
        rw [e] at c
        exact absurd c (by show ¬ (!decide (V.int 3 = V.int 3)) = true; decide)
      have l3 : ws.length = 3 := by
        have h : (!decide (V.int (((ws.map V.str).length : Nat) : Int) = V.int 3)) = false := by
          cases h : (!decide (V.int (((ws.map V.str).length : Nat) : Int) = V.int 3)) with
          | false => rfl
          | true => exact absurd h c
        have h2 := of_decide_eq_true ((Bool.not_eq_false' _).mp h)
        injection h2 with h2
        rw [List.length_map] at h2
        omega
      obtain ⟨a, n, c', e⟩ : ∃ a n c, ws = [a, n, c] := by
        match ws, l3 with
        | [a, b, c], _ => exact ⟨a, b, c, rfl⟩
      subst e
      refine ⟨_, rfl, l, _, 0, .str a, rfl, rfl, .inl (.inl el), rfl, rfl, _, rfl, ite2 (fun c0 => ?_) (fun c0 => ?_)⟩
      · refine no fun ⟨n, c', e, _⟩ => ?_
        injection e with e _
        rw [e] at c0
        exact absurd c0 (by show ¬ (!decide (V.str "kind" = V.str "kind")) = true; rw [decide_eq_true rfl]; decide)
      have ea : a = "kind" := Classical.byContradiction fun n => c0 (by
        show (!decide (V.str a = V.str "kind")) = true
        rw [decide_eq_false fun h => n (V.str.inj h)]
        rfl)
      have hn := (hw n (by simp)).1
      refine ⟨_, rfl, l, _, 1, .str n, rfl, rfl, .inl (.inl el), rfl, _, rfl, .inl ⟨n, rfl, Nat.le_trans hn (by decide)⟩, _, rfl, ite2 (fun c1 => ?_) (fun c1 => ?_)⟩
      · refine no fun ⟨n', c', e, h⟩ => ?_
        injection e with _ e
        injection e with e _
        rw [← e] at h
        have c1 : (!nameB n) = true := c1
        rw [h] at c1
        cases c1
      · have nn : nameB n = true := by
          cases h : nameB n with
          | true => rfl
          | false => exact absurd (show (!nameV (.str n)) = true by show (!nameB n) = true; rw [h]; rfl) c1
        exact ⟨n, c', rfl, rfl, by rw [ea], nn⟩
    rintro σ' G1 ⟨n, c, rfl, rfl, rfl, nn⟩
    have hc := (hw c (by simp)).1
    -- the parts
    refine ⟨fun σ' G => ∃ x : V, σ' = [some v, some (.ref l), some x] ∧ Same G1 G ∧ ((x = .non ∧ parse3 c = none) ∨ ∃ (g : Addr) (zs : List Str), x = .ref g ∧ parse3 c = some zs ∧ SqT K G g (zs.map V.str) ∧ (zs ≠ [] → TupZ G g (zs.map V.str))), ?_, ?_⟩
    · refine ⟨_, rfl, l, _, 2, .str c, rfl, rfl, .inl (.inl el), rfl, rfl, rfl, c, rfl, by omega, fun p zs G e s ep ez => ⟨_, rfl, s, .inr ⟨p, zs, rfl, e, ep, ez⟩⟩, fun G e s => ⟨_, rfl, s, .inl ⟨rfl, e⟩⟩⟩
    rintro σ' G2 ⟨x, rfl, s2, hx⟩
    have el2 := s2 _ _ el
    have s12 := s1.trans s2
    have no : parseM c = none → ∀ G, Same G2 G → Q .non G := fun h G s => q _ _ (s12.trans s) (.inr ⟨rfl, fun n' g e => by
      obtain ⟨c', e1, _, e3⟩ := tellW_k e
      injection e1 with _ e1
      injection e1 with _ e1
      injection e1 with e1 _
      rw [← e1, h] at e3
      cases e3⟩)
    refine ⟨_, rfl, rfl, _, rfl, ite2 (fun k => ?_) (fun k => ?_)⟩
    · rcases hx with ⟨rfl, e⟩ | ⟨g, zs, rfl, e, eg, ez⟩
      · simp at k
      have dg := parse3_ok e
      refine ⟨_, rfl, g, zs, rfl, eg, dg, fun G3 s3 => ⟨_, rfl, ?_⟩⟩
      show if decide (2 ≤ zs.length) = true then _ else _
      refine ite2 (fun k2 => ?_) (fun k2 => ?_)
      · have h2 : 2 ≤ zs.length := of_decide_eq_true k2
        have pm : parseM c = some zs := by
          unfold parseM
          rw [e]
          exact if_pos (decide_eq_true h2)
        refine ⟨_, rfl, l, _, 1, .str n, rfl, rfl, .inl (.inl (s3 _ _ el2)), rfl, _, rfl, by show 2 ≤ sizeLine; omega, fun t nt => ?_⟩
        have s4 := same_new (o := .tup [V.str n, V.ref g]) (Same.refl G3) nt
        refine q _ _ (s12.trans (s3.trans s4)) (.inl ⟨t, g, n, zs, rfl, SqT.of upd_same, (ez fun h => by rw [h] at h2; exact absurd h2 (by decide)).mono (s3.trans s4), tellW_mk nn pm⟩)
      · refine no ?_ _ s3
        unfold parseM
        rw [e]
        exact if_neg k2
    · rcases hx with ⟨rfl, e⟩ | ⟨g, zs, rfl, e, eg, ez⟩
      · refine no ?_ _ (Same.refl _)
        unfold parseM
        rw [e]
        rfl
      · exact absurd rfl k
def spKl (K : PySem.W.Frag) : Sp := fun vs H Q _ => ∃ v : V, vs = [v] ∧ LnV K H v ∧ ∀ (u : V) H', Same H H' → TellAt K H' u (tellV v) → Q u H'
theorem ok_kl {f : Addr} {fd : FuncData} (F : Fun K "kinds_line" "kinds_line" s_kinds_line f fd) (T : Top K mg) : FnOk P w K mg base CX0 7 f fd ["line"] (spKl K) := by
  have c1 : Cal P w K mg base 6 "_leaf_in" ["line"] (spLf K) := T.d_leaf_in.cal fun f fd F => ok_lf F T
  have c2 : Cal P w K mg base 6 "_making_in" ["line"] (spMi K) := T.d_making_in.cal fun f fd F => ok_mi F T
  refine F.ok sc_kinds_line (fun vs H Q E h => ?_) (fun cdv A outer s H vs Q E hr h => ?_)
  · obtain ⟨v, rfl, _⟩ := h
    rfl
  · obtain ⟨v, rfl, hv, q⟩ := h
    refine ⟨_, pss_cut (ps_set (i := 1) sc_kinds_line.nd rfl (.inl rfl) (pe_cal c1 hr (by rfl) (pa_cons (pv 0) pa_nil)))
      (pss_cut (ps_if (pt_cmpR op_notN (pv 1) pe_non (nomark _)) (pss_one (ps_ret (pe_tup (pa_cons (pe_tup (pa_cons pe_str pa_nil)) (pa_cons (pv 1) pa_nil))))) pss_nil)
      (pss_cut (ps_set (i := 2) sc_kinds_line.nd rfl (.inl rfl) (pe_cal c2 hr (by rfl) (pa_cons (pv 0) pa_nil)))
      (pss_one (ps_ret (pe_ifExp (pt_cmpR op_notN (pv 2) pe_non (nomark _)) (pe_tup (pa_cons (pe_tup (pa_cons pe_str (pa_cons (pe_ix (ix_tupKK (K := K) (by exact rfl)) (pv 2) pe_int (fun _ _ => rfl)) pa_nil))) (pa_cons (pe_ix (ix_tupKK (K := K) (by exact rfl)) (pv 2) pe_int (fun _ _ => rfl)) pa_nil))) pe_non))))), ?_⟩
    have big : 100000 ≤ sizeLine := by decide
    refine ⟨fun σ' G => ∃ u : V, σ' = [some v, some u, none] ∧ Same H G ∧ ((∃ z, u = .str z ∧ tellV v = some (.l z)) ∨ (u = .non ∧ ∀ z, tellV v ≠ some (.l z))), ?_, ?_⟩
    · exact ⟨_, rfl, v, rfl, hv, fun u G s h => ⟨u, rfl, s, h⟩⟩
    rintro σ' G1 ⟨u, rfl, s1, hu⟩
    refine ⟨fun σ' G => σ' = [some v, some .non, none] ∧ G = G1 ∧ ∀ z, tellV v ≠ some (.l z), ?_, ?_⟩
    · refine ⟨_, rfl, rfl, _, rfl, ite2 (fun c => ?_) (fun c => ?_)⟩
      · rcases hu with ⟨z, rfl, e⟩ | ⟨rfl, _⟩
        · refine ⟨by show 1 ≤ sizeLine; omega, fun k nk => ?_⟩
          have s2 := same_new (o := .tup [V.str "leaf"]) (Same.refl G1) nk
          have e2 : (upd G1 k (.tup [V.str "leaf"])) k = some (.tup [V.str "leaf"]) := upd_same
          generalize upd G1 k (.tup [V.str "leaf"]) = G2 at *
          refine ⟨_, rfl, by show 2 ≤ sizeLine; omega, fun t nt => ?_⟩
          have s3 := same_new (o := .tup [V.ref k, V.str z]) (Same.refl G2) nt
          refine q _ _ (s1.trans (s2.trans s3)) ?_
          rw [e]
          exact ⟨t, k, .str z, rfl, SqT.of upd_same, keyT_at.mpr (SqT.of (s3 _ _ e2)), rfl⟩
        · simp at c
      · rcases hu with ⟨z, rfl, e⟩ | ⟨rfl, n⟩
        · exact absurd rfl c
        · exact ⟨rfl, rfl, n⟩
    rintro σ' G1 ⟨rfl, rfl, n⟩
    refine ⟨fun σ' G => ∃ u : V, σ' = [some v, some .non, some u] ∧ Same G1 G ∧ ((∃ (t a : Addr) (n : Str) (g : List Str), u = .ref t ∧ SqT K G t [.str n, .ref a] ∧ TupZ G a (g.map V.str) ∧ tellV v = some (.k n g)) ∨ (u = .non ∧ ∀ n g, tellV v ≠ some (.k n g))), ?_, ?_⟩
    · exact ⟨_, rfl, v, rfl, hv.same s1, fun u G s h => ⟨u, rfl, s, h⟩⟩
    rintro σ' G2 ⟨u, rfl, s2, hu⟩
    have s12 := s1.trans s2
    refine ⟨_, rfl, rfl, _, rfl, ite2 (fun c => ?_) (fun c => ?_)⟩
    · rcases hu with ⟨t, a, m, g, rfl, ht, ha, e⟩ | ⟨rfl, _⟩
      · refine ⟨_, rfl, t, _, 0, _, rfl, rfl, ht, rfl, by show 2 ≤ sizeLine; omega, fun k nk => ?_⟩
        have s3 := same_new (o := .tup [V.str "kind", V.str m]) (Same.refl G2) nk
        have e3 : (upd G2 k (.tup [V.str "kind", V.str m])) k = some (.tup [V.str "kind", V.str m]) := upd_same
        generalize upd G2 k (.tup [V.str "kind", V.str m]) = G3 at *
        refine ⟨_, rfl, t, _, 1, _, rfl, rfl, sqT_same s3 ht, rfl, by show 2 ≤ sizeLine; omega, fun t2 nt => ?_⟩
        have s4 := same_new (o := .tup [V.ref k, V.ref a]) (Same.refl G3) nt
        refine q _ _ (s12.trans (s3.trans s4)) ?_
        rw [e]
        exact ⟨t2, k, .ref a, rfl, SqT.of upd_same, keyT_at.mpr (SqT.of (s4 _ _ e3)), a, rfl, ha.mono (s3.trans s4)⟩
      · simp at c
    · rcases hu with ⟨t, a, m, g, rfl, _⟩ | ⟨rfl, n2⟩
      · exact absurd rfl c
      · refine q _ _ s12 ?_
        cases e : tellV v with
        | none => rfl
        | some p =>
          cases p with
          | l z => exact absurd e (n z)
          | k m g => exact absurd e (n2 m g)
end
end Kl

set_option maxRecDepth 100000
/-! ### own rule: enumerate(t), t a tuple -/
namespace PySem
open Sem (wp)
abbrev enT (t : Addr) : Obj := { cls := .type "tuple_iterator", data := .fields #[.ref t, .int 0 0] }
set_option maxHeartbeats 1000000 in
theorem meets_enumT (t : Addr) (items : Array Value) :
    Meets (Builtin.«enumerate.__new__» ⟨[.type "enumerate", .ref t], []⟩) (fun _ R s => s.heap.IsTuple t items ∧
      R (.ok (.ret (.ref (s.heap.push (enT t)).objs.size))) { s with heap := (s.heap.push (enT t)).push { cls := .type "enumerate", data := .fields #[.none, .bool false, .ref s.heap.objs.size, rawInt 0, .none, .none] } }) :=
  .of_wp fun prog w A R s h => by
    obtain ⟨hp, g, d, tk, os⟩ := s; obtain ⟨h1, h⟩ := h
    have hsub := sub_enumerate
    have q1 : ∀ {A' : Around} {E : Value → Shared → Prop} {Q : Value → Shared → Prop}, Q (.ref hp.objs.size) ⟨hp.push (enT t), g, d, tk, os⟩ → wpAny (model prog w) A' (pyIter (.ref t)) Q E ⟨hp, g, d, tk, os⟩ :=
      fun q => (begins_tuple t items).iter prog w _ _ ⟨hp, g, d, tk, os⟩ _ h1 q
    wp_walk using q1
    refine wpAny_stack_any fun st => wpAny_pure ?_
    split
    · rename_i c _ _ _ _ _
      cases (c == Value.type "enumerate")
      · wp_walk using q1
        exact ⟨_, rfl, h⟩
      · wp_walk using q1
        exact ⟨_, rfl, h⟩
    · wp_walk using q1
      exact ⟨_, rfl, h⟩
section
variable {prog : Program} {w : World} {A : Around} {E : Value → Shared → Prop} {s : Shared}
theorem call_enumT {t : Addr} {items : Array Value} {Q : Value → Shared → Prop} (ht : s.heap.IsTuple t items)
    (h : ∀ h', IsEnum h' (s.heap.objs.size + 1) s.heap.objs.size 0 .none → h'.IsTupleIter s.heap.objs.size t 0 → h'.objs.size = s.heap.objs.size + 2 →
      (∀ b o, s.heap.get? b = some o → h'.get? b = some o) → Q (.ref (s.heap.objs.size + 1)) { s with heap := h' }) :
    wpAny (model prog w) A (call (.type "enumerate") [.ref t]) Q E s := by
  refine callType_new F.called_enumerate (by decide) (F.typeCall_enumerate_1 _) (F.newCall_enumerate_1 _) (fun obj => F.args_object_init_2 obj _) F.entry_enumerate_new
    (meets_enumT t items) ⟨ht, ?_⟩
  have hz : (s.heap.push (enT t)).objs.size = s.heap.objs.size + 1 := Heap.size_push ..
  show _ ∧ _
  rw [hz]
  have he : IsEnum ((s.heap.push (enT t)).push { cls := .type "enumerate", data := .fields #[.none, .bool false, .ref s.heap.objs.size, rawInt 0, .none, .none] }) (s.heap.objs.size + 1) s.heap.objs.size 0 .none := by
    have := Heap.get?_push_size (s.heap.push (enT t)) (o := { cls := .type "enumerate", data := .fields #[.none, .bool false, .ref s.heap.objs.size, rawInt 0, .none, .none] }) rfl
    rw [hz] at this; exact this
  exact ⟨⟨_, he, rfl⟩, h _ he ⟨_, Heap.get?_push_of_some _ (Heap.get?_push_size _ rfl), rfl, rfl⟩ (by rw [Heap.size_push, hz]) fun b o x => Heap.get?_push_of_some _ (Heap.get?_push_of_some _ x)⟩
end
end PySem
namespace L2
open PySem PySem.Spec PyProof.Rows
set_option maxHeartbeats 4000000
/-- the tuple at a, each item in a new pair with its place -/
def ItNT (K : PySem.W.Frag) (a : Addr) : It :=
  ⟨fun i H => ∃ (xs : List V) (x : V), SqT K H a xs ∧ xs[i]? = some x, fun i H v H' => ∃ T x, v = .ref T ∧ H T = none ∧ H' = upd H T (.tup [.int (i : Nat), x]) ∧ ∀ xs, SqT K H a xs → xs[i]? = some x, fun i H => ∃ xs : List V, SqT K H a xs ∧ xs.length ≤ i⟩
theorem turn_enumT {P : Program} {w : World} {K : PySem.W.Frag} {elts : List Expr} {kk : Nat} {tpos : Pos} (a e it : Addr) (hai : a ≠ it) (hae : a ≠ e) :
    Turn P w K (.Tuple elts kk tpos) (ItNT K a) [e, it] e (fun i h => (∃ old, IsEnum h e it ((i : Nat) : Int) old) ∧ h.IsTupleIter it a i ∧ e ≠ it) where
  mem := by simp
  obj := fun i h st b hb => by
    obtain ⟨⟨old, he⟩, ⟨o, ho, hc, hd⟩, _⟩ := st
    have e' : b = e ∨ b = it := by simpa using hb
    rcases e' with z | z
    · rw [z]; exact ⟨_, he, fun v q => nomatch q⟩
    · rw [z]; exact ⟨o, ho, fun v q => by rw [hd] at q; cases q⟩
  keep := fun i h h' st k => let ⟨⟨old, he⟩, hi, hne⟩ := st; ⟨⟨old, k e (by simp) _ he⟩, hi.at fun o q => k it (by simp) o q, hne⟩
  item := by
    intro X hP hw hK hc i pins s σ H E I hf st hg
    subst hP hw hK
    obtain ⟨⟨old, he⟩, hit, hne⟩ := st
    obtain ⟨xs, x, hq, hx⟩ := hg
    obtain ⟨its, rv, p, hz⟩ := I.tuple hq
    obtain ⟨u, hu, ru⟩ := rv.get hx
    have hp : s.heap.IsTuple a its.toArray := p
    have hel : e < s.heap.objs.size := Heap.lt_size he
    have hil : it < s.heap.objs.size := by obtain ⟨_, q, _⟩ := hit; exact Heap.lt_size q
    have hlt : i < its.toArray.size := by
      have := (List.getElem?_eq_some_iff.mp hu).1
      simpa using this
    refine wpAny_pyNext_enum_itemD (Draws.tuple (A := X.A.in1) (I.ok.hd hc) it a hai its.toArray) he ⟨hit, hp⟩ hlt hne (by simp; exact ⟨hne, hae.symm⟩) fun x' h' tk hx' ho hst' hT hsz hk => ?_
    have ex : x' = u := by
      have h1 : its.toArray[i]? = some u := by simpa using hu
      exact Option.some.inj (hx'.symm.trans h1)
    subst ex
    refine ⟨_, rfl, wpAny_letOwnedTupleGo_enum (s := { s with heap := h', toks := tk + 1 }) ho fun h'' he' sb => ?_⟩
    have hT2 : h''.get? s.heap.objs.size = some { cls := .type "tuple", data := .seq #[.int i tk, x'] } := (sb.2 _ (Nat.ne_of_gt hel)).trans hT
    have new : ObjOk X.prog X.w (upd H s.heap.objs.size (.tup [.int (i : Nat), x])) h'' s.heap.objs.size (.tup [.int (i : Nat), x]) :=
      ⟨by show 2 ≤ sizeLine; decide, [.int i tk, x'], .cons ⟨_, rfl⟩ (.cons ru .nil), ⟨_, hT2, rfl, _, rfl⟩⟩
    have I1 : Inv X pins σ (upd H s.heap.objs.size (.tup [.int (i : Nat), x])) { s with heap := h'', toks := tk + 1 } :=
      I.turnedNew (ch := [e, it]) (fun b ob hb q => (sb.2 b (fun z => hb (by simp [z]))).trans (hk b ob (fun z => hb (by simp [z])) (fun z => hb (by simp [z])) q)) hf (Nat.le_refl _) new
    refine ⟨.ref s.heap.objs.size, _, I1, rfl, ⟨_, x, rfl, I.hok.fresh (Nat.le_refl _), rfl, fun ys hy => by rw [I.tuple_inj hy hq]; exact hx⟩, ⟨⟨x', ?_⟩, hst'.1.at fun o q => (sb.2 it (Ne.symm hne)).trans q, hne⟩, fun b hb => ?_⟩
    · have e1 : ((i + 1 : Nat) : Int) = (i : Int) + 1 := by omega
      rw [e1]; exact he'
    · have hb' : b < s.heap.objs.size := by
        have e' : b = e ∨ b = it := by simpa using hb
        rcases e' with z | z
        · rw [z]; exact hel
        · rw [z]; exact hil
      rw [upd_ne (Nat.ne_of_lt hb')]
      exact (hf b hb).1
  done := by
    intro X hP hw hK hc i pins s σ H E I hf st hg
    subst hP hw hK
    obtain ⟨⟨old, he⟩, hit, hne⟩ := st
    obtain ⟨xs, hq, hx⟩ := hg
    obtain ⟨its, rv, p, hz⟩ := I.tuple hq
    have hp : s.heap.IsTuple a its.toArray := p
    obtain ⟨f0, f1, f2, f3, f4, f5⟩ := hf it (by simp)
    have hl := rv.length
    have hh : X.A.handled = none := I.ok.hd hc
    have D : Draws X.prog X.w X.A.in1 it [it, a] i (fun _ _ => False) (fun j h => j = i ∧ h.IsTupleIter it a i ∧ h.IsTuple a its.toArray) :=
      { live := fun _ _ st => let ⟨o, ho, _⟩ := st.2.1; ⟨o, ho⟩
        frame := fun _ _ _ st hk => ⟨st.1, st.2.1.at fun o e => hk it (by simp) o e, st.2.2.at fun o e => hk a (by simp) o e⟩
        item := fun j s Q E hj st hQ => absurd st.1 (Nat.ne_of_lt hj)
        done := fun s Q E st hE => wpAny_nextOf_tuple_end (A := X.A.in1) hh st.2.1 st.2.2 (by simp; omega) hE }
    exact wpAny_pyNext_enum_endD D he ⟨rfl, hit, hp⟩ fun h' eb => ⟨rfl, I.turned (t' := s.toks) (fun b o hb q => eb b o hb q) f0 f1 f3 f4 f5⟩
  self := fun A i s Q E st h => let ⟨⟨_, he⟩, _⟩ := st; wpAny_pyIter_enum he h
def iEnumT (K : PySem.W.Frag) (ta : TA) : TI := fun σ H R => ta σ H fun vs H1 => ∃ a xs, vs = [.ref a] ∧ SqT K H1 a xs ∧ R (ItNT K a) H1
theorem pi_enumT {X : Cx} {e : Expr} {ta : TA} {p pos tpos : Pos} {elts : List Expr} {kk : Nat} (hg : Gl X "enumerate") (hm : X.mg "enumerate" = none) (ha : PA X [e] ta) (hs : starEach [e] X.env = [(false, eval e X.env)] := by rfl) :
    PI X (.Tuple elts kk tpos) (.Call (.Name "enumerate" p) [e] [] pos) (iEnumT X.K ta) := by
  refine ⟨fun pins s σ H R I h => ?_⟩
  refine Call_ (ld_blt I hg hm boot_enumerate (PyProof.Rows.callWith_type1 (thn (ha.run pos pins s σ H _ I h) fun us s1 ⟨vs, H1, I1, r1, q1⟩ => ?_) hs rfl))
  obtain ⟨a, xs, ex, hq, q⟩ := q1
  subst ex
  cases r1 with
  | cons r rr =>
    cases rr
    cases r
    obtain ⟨its, rv, p', hz⟩ := I1.tuple hq
    have hp : s1.heap.IsTuple a its.toArray := p'
    have hal : a < s1.heap.objs.size := by obtain ⟨_, q, _⟩ := hp; exact Heap.lt_size q
    refine call_enumT hp fun h' he hit hsz hk => wpAny_pyIter_enum he ?_
    have I2 : Inv X pins σ H1 { s1 with heap := h' } := I1.kept (t' := s1.toks) hk
    refine ⟨s1.heap.objs.size + 1, [s1.heap.objs.size + 1, s1.heap.objs.size], _, _, H1, rfl, I2, turn_enumT a (s1.heap.objs.size + 1) s1.heap.objs.size (Nat.ne_of_lt hal) (Nat.ne_of_lt (Nat.lt_succ_of_lt hal)), ⟨⟨.none, he⟩, hit, Nat.succ_ne_self _⟩, fun b hb => ?_, q⟩
    have e' : b = s1.heap.objs.size + 1 ∨ b = s1.heap.objs.size := by simpa using hb
    have hle : s1.heap.objs.size ≤ b := by
      rcases e' with z | z
      · rw [z]; exact Nat.le_add_right _ _
      · rw [z]; exact Nat.le_refl _
    exact I1.fpOk hle (I1.hok.fresh hle)
theorem walk_enumT {K : PySem.W.Frag} {a : Addr} {xs : List V} : Walk (ItNT K a) xs.length (fun H => SqT K H a xs) (YPair (fun i => some (.int (i : Nat))) (fun i => xs[i]?)) := by
  refine ⟨fun i _ hi q => ⟨xs, xs[i], q, by simp [hi]⟩, fun _ q => ⟨xs, q, Nat.le_refl _⟩, fun i H v H' _ q y => ?_⟩
  obtain ⟨T, x, h1, h2, h3, h4⟩ := y
  exact ⟨T, .int (i : Nat), x, h1, h2, h3, rfl, h4 xs q⟩
end L2

set_option maxRecDepth 100000
set_option maxHeartbeats 4000000
namespace Kl
open PySem PySem.Spec PyProof.Rows L2 Gx Mx
/-! ### told_by -/
/-- the entries of the places filled -/
def TabAt (K : PySem.W.Frag) (H : Hp) (L : Gx.NL) (qs : List Pl) : Prop := Paired (fun (e : NestedKey × Addr × V) (p : Pl) => e.1 = plK p ∧ KeyA K H e.2.1 e.1 ∧ ValA H e.2.2 p) L qs
theorem TabAt.mono {K : PySem.W.Frag} {H H' : Hp} (s : ∀ a xs, SqT K H a xs → SqT K H' a xs) (sz : ∀ a xs, TupZ H a xs → TupZ H' a xs) : ∀ {L : Gx.NL} {qs : List Pl}, TabAt K H L qs → TabAt K H' L qs
  | _, _, .nil => .nil
  | _, _, .cons h t => .cons ⟨h.1, h.2.1.mono s, h.2.2.mono sz⟩ (TabAt.mono s sz t)
theorem TabAt.keys {K : PySem.W.Frag} {H : Hp} : ∀ {L : Gx.NL} {qs : List Pl}, TabAt K H L qs → L.map (·.1) = qs.map plK
  | _, _, .nil => rfl
  | _, _, .cons h t => by rw [List.map_cons, List.map_cons, h.1, TabAt.keys t]
theorem TabAt.all {K : PySem.W.Frag} {H : Hp} : ∀ {L : Gx.NL} {qs : List Pl}, TabAt K H L qs → ∀ e ∈ L, KeyA K H e.2.1 e.1
  | _, _, .nil => fun e m => (nomatch m)
  | _, _, .cons h t => fun e m => by
    rcases List.mem_cons.mp m with rfl | m
    · exact h.2.1
    · exact TabAt.all t e m
theorem TabAt.snoc {K : PySem.W.Frag} {H : Hp} {e : NestedKey × Addr × V} {p : Pl} (h : e.1 = plK p ∧ KeyA K H e.2.1 e.1 ∧ ValA H e.2.2 p) : ∀ {L : Gx.NL} {qs : List Pl}, TabAt K H L qs → TabAt K H (L ++ [e]) (qs ++ [p])
  | _, _, .nil => .cons h .nil
  | _, _, .cons q t => .cons q (TabAt.snoc h t)
theorem TabAt.len {K : PySem.W.Frag} {H : Hp} : ∀ {L : Gx.NL} {qs : List Pl}, TabAt K H L qs → L.length = qs.length
  | _, _, .nil => rfl
  | _, _, .cons _ t => by rw [List.length_cons, List.length_cons, TabAt.len t]
theorem sqT_upd {K : PySem.W.Frag} {H : Hp} {d a : Addr} {o : HO} {xs : List V} (n : ∀ ys, ¬ Rd H d (.tup ys)) (h : SqT K H a xs) : SqT K (upd H d o) a xs := by
  rcases h with (h | ⟨o', h⟩) | h
  · exact .inl (.inl (by rw [upd_ne (fun z => n xs (.inl (by rw [← z]; exact h)))]; exact h))
  · exact .inl (.inr ⟨o', by rw [upd_ne (fun z => n xs (.inr ⟨o', by rw [← z]; exact h⟩))]; exact h⟩)
  · exact .inr h
theorem keyA_same {K : PySem.W.Frag} {H H' : Hp} {a : Addr} {q : NestedKey} (s : Same H H') (h : KeyA K H a q) : KeyA K H' a q := h.mono fun _ _ z => sqT_same s z
theorem getN_some (L : Gx.NL) (k : NestedKey) : (getN L k).isSome = decide (k ∈ L.map (·.1)) := by
  unfold getN
  rw [← valV_any]
  unfold prN
  rw [List.any_map, Bool.eq_iff_iff, List.any_eq_true, decide_eq_true_eq, List.mem_map]
  constructor
  · rintro ⟨x, m, e⟩
    exact ⟨x, m, of_decide_eq_true e⟩
  · rintro ⟨x, m, e⟩
    exact ⟨x, m, decide_eq_true e⟩
theorem putN_fresh {L : Gx.NL} {k : NestedKey} (h : k ∉ L.map (·.1)) (a : Addr) (v : V) : putN L k a v = L ++ [(k, a, v)] := by
  unfold putN
  rw [getN_some, decide_eq_false h, if_neg (by simp)]
theorem readL_app : ∀ {as bs : List (Option Pl)} {qs qs' : List Pl} {i : Nat}, readL qs i as = .inl qs' → readL qs i (as ++ bs) = readL qs' (i + as.length) bs
  | [], _, _, _, i, h => by
    cases h
    rfl
  | none :: _, _, _, _, _, h => by cases h
  | some p :: as, bs, qs, qs', i, h => by
    rw [List.cons_append]
    have h' : (if plK p ∈ qs.map plK then .inr i else readL (qs ++ [p]) (i + 1) as) = (.inl qs' : List Pl ⊕ Nat) := h
    show (if plK p ∈ qs.map plK then .inr i else readL (qs ++ [p]) (i + 1) (as ++ bs)) = _
    by_cases c : plK p ∈ qs.map plK
    · rw [if_pos c] at h'
      cases h'
    · rw [if_neg c] at h' ⊢
      rw [readL_app h', List.length_cons, show i + 1 + as.length = i + (as.length + 1) by omega]
theorem take_snocO {xs : List V} {j : Nat} {v : V} (h : xs[j]? = some v) : (xs.map tellV) = (xs.take j).map tellV ++ (tellV v :: (xs.drop (j + 1)).map tellV) := by
  have hj := (List.getElem?_eq_some_iff.mp h)
  obtain ⟨hj, e⟩ := hj
  rw [← List.map_cons, ← List.map_append]
  congr 1
  rw [← e, List.getElem_cons_drop, List.take_append_drop]
section
variable {P : Program} {w : World} {K : PySem.W.Frag} {mg : Str → Option Value} {base : Heap}
def ToldD (P : Program) (w : World) (K : PySem.W.Frag) (H : Hp) (D : Addr) (qs : List Pl) : Prop := ∃ L : Gx.NL, H D = some (DN P w D L) ∧ TabAt K H L qs
def spTb (P : Program) (w : World) (K : PySem.W.Frag) (mg : Str → Option Value) (CP : Addr) : Sp := fun vs H Q E => ∃ (p f : Addr) (xs : List V), vs = [.ref p, .ref f] ∧ mg "kinds_line" = some (.ref f) ∧ SqT K H p xs ∧ (∀ v ∈ xs, LnV K H v) ∧ xs.length ≤ 20 ∧
  (∀ i dd H', readL [] 0 (xs.map tellV) = .inr i → Same H H' → H' dd = some (.xd [("number", .int (i : Nat))]) → E (.ref CP) (some dd) H') ∧
  ∀ qs D H', readL [] 0 (xs.map tellV) = .inl qs → H D = none → Same H H' → ToldD P w K H' D qs → Q (.ref D) H'
theorem ok_tb {CP fI f : Addr} {fd fdI : FuncData} (F : Fun K "told_by" "told_by" s_told_by f fd) (T : Top K mg) (TX : XT_ParseError K mg CP fI) (FX : Fun K "__init__" "ParseError.__init__" s_ParseError_init fI fdI) :
    FnOk P w K mg base (L2.CX P w) 8 f fd ["lines", "tell"] (spTb P w K mg CP) := by
  obtain ⟨f0, fd0, F0, kp0, b0, m0⟩ : Cal P w K mg base 7 "kinds_line" ["line"] (spKl K) := T.d_kinds_line.cal fun f fd F => ok_kl F T
  refine F.okX sc_told_by (fun vs H Q E h => ?_) (fun cdv A outer s H vs Q E hr h => ?_)
  · obtain ⟨p, f, xs, rfl, _⟩ := h
    rfl
  · obtain ⟨p, f, xs, rfl, mf, hp, hv, lx, qe, q⟩ := h
    refine ⟨_, pss_cut (ps_set (i := 2) sc_told_by.nd rfl (.inl rfl) (pe_nnew (P := P) (w := w) (K := K) (by exact ⟨rfl, rfl, rfl⟩)))
      (pss_cut (ps_for (passes_of rfl) rfl (pi_enumT (by rfl) T.b_enumerate (pa_cons (pv 0) pa_nil)) (pg_tup (n := 2) rfl (pgs_cons (pg_name (i := 3) sc_told_by.nd rfl (.inl rfl)) (pgs_cons (pg_name (i := 4) sc_told_by.nd rfl (.inl rfl)) pgs_nil)))
        (pss_cut (ps_set (i := 5) sc_told_by.nd rfl (.inl rfl) (pe_callL (i := 1) (f := f0) (dvs := []) (E := E0) F0 hr rfl (.inl rfl) kp0 b0 .nil pass0 (pa_cons (pv 4) pa_nil)))
        (pss_cut (ps_if (PW.pt (pw_or (pt_cmpR op_isN (pv 5) pe_non (nomark _)) (pw_or1 (pt_cmp (pc_nin (P := P) (w := w) (K := K) (by exact ⟨rfl, rfl, rfl⟩) (by exact hr.units) (pe_ix (ix_tupKK (K := K) (by exact rfl)) (pv 5) pe_int (fun _ _ => rfl)) (pv 2))))))
          (pss_one (ps_raiseX rfl PySem.F.excBase_ValueError TX (init_ParseError TX FX) hr (takes_of rfl rfl rfl rfl) (pa_cons (pv 3) pa_nil) (by rfl))) pss_nil)
        (pss_one (ps_nput (P := P) (w := w) (K := K) (by exact ⟨rfl, rfl, rfl⟩) (by exact hr.units) (pv 2) (pe_ix (ix_tupKK (K := K) (by exact rfl)) (pv 5) pe_int (fun _ _ => rfl)) (pe_ix (ix_tupKK (K := K) (by exact rfl)) (pv 5) pe_int (fun _ _ => rfl)) rfl)))))
      (pss_one (ps_ret (pv 2)))), ?_⟩
    have big : 100000 ≤ sizeLine := by decide
    have ef : f = f0 := by
      have := mf.symm.trans m0
      injection this with this
      injection this
    subst ef
    -- the dict
    refine ⟨fun σ' G => ∃ D : Addr, σ' = [some (.ref p), some (.ref f), some (.ref D), none, none, none] ∧ H D = none ∧ G D = some (DN P w D []) ∧ Same H G, ?_, ?_⟩
    · exact fun D nD => ⟨D, rfl, nD, upd_same, same_new (Same.refl H) nD⟩
    rintro σ' G1 ⟨D, rfl, nD, eD, s1⟩
    refine ⟨fun σ' G => ∃ (qs : List Pl) (t3 t4 t5 : Option V), σ' = [some (.ref p), some (.ref f), some (.ref D), t3, t4, t5] ∧ readL [] 0 (xs.map tellV) = .inl qs ∧ ToldD P w K G D qs ∧ Same H G, ?_, ?_⟩
    · refine ⟨_, rfl, p, xs, rfl, sqT_same s1 hp, ?_⟩
      refine for_it (walk_enumT (K := K) (a := p) (xs := xs)) (fun j σ' G => ∃ (qs : List Pl) (L : Gx.NL) (t3 t4 t5 : Option V), σ' = [some (.ref p), some (.ref f), some (.ref D), t3, t4, t5] ∧ readL [] 0 ((xs.take j).map tellV) = .inl qs ∧ G D = some (DN P w D L) ∧ TabAt K G L qs ∧ Same H G ∧ L.length ≤ j)
        ⟨[], [], none, none, none, rfl, rfl, eD, .nil, s1, Nat.le_refl _⟩ (fun j σ' G _ h => by obtain ⟨_, _, _, _, _, _, _, _, _, sm, _⟩ := h; exact sqT_same sm hp) (fun j v σ' G G2 hj h hy => ?_) (fun σ' G h => ?_)
      rotate_left
      · obtain ⟨qs, L, t3, t4, t5, rfl, hr1, e, hT, sm, _⟩ := h
        rw [List.take_length] at hr1
        exact ⟨qs, t3, t4, t5, rfl, hr1, ⟨L, e, hT⟩, sm⟩
      obtain ⟨qs, L, t3, t4, t5, rfl, hr1, e, hT, sm, lL⟩ := h
      obtain ⟨u, x, y, rfl, nu, rfl, hx, hy2⟩ := hy
      cases hx
      have hy2 : xs[j]? = some y := hy2
      have my := List.mem_of_getElem? hy2
      have s2 := same_new (o := .tup [V.int (j : Nat), y]) (Same.refl G) nu
      have eu : (upd G u (.tup [V.int (j : Nat), y])) u = some (.tup [V.int (j : Nat), y]) := upd_same
      generalize upd G u (.tup [V.int (j : Nat), y]) = G2 at *
      refine ⟨u, _, rfl, SqT.of eu, rfl, _, _, rfl, _, _, rfl, rfl, ?_⟩
      -- what it tells
      refine ⟨fun σ' G => ∃ x : V, σ' = [some (.ref p), some (.ref f), some (.ref D), some (.int (j : Nat)), some y, some x] ∧ Same G2 G ∧ TellAt K G x (tellV y), ?_, ?_⟩
      · exact ⟨rfl, _, rfl, y, rfl, (hv y my).same (sm.trans s2), fun x G3 s t => ⟨x, rfl, s, t⟩⟩
      rintro σ' G3 ⟨x, rfl, s3, hx⟩
      have s23 := s2.trans s3
      have s03 := sm.trans s23
      have e3 := s23 _ _ e
      have hT3 : TabAt K G3 L qs := hT.mono (fun _ _ z => sqT_same s23 z) fun _ _ z => z.mono s23
      have all := take_snocO hy2
      have ltk : ((xs.take j).map tellV).length = j := by
        rw [List.length_map, List.length_take]
        have := (List.getElem?_eq_some_iff.mp hy2).1
        omega
      have tk1 : (xs.take (j + 1)).map tellV = (xs.take j).map tellV ++ [tellV y] := by
        rw [List.take_add_one, hy2, List.map_append]
        rfl
      have err : (∀ os, readL qs j (tellV y :: os) = .inr j) → ∀ dd, G3 dd = none → E (.ref CP) (some dd) (upd G3 dd (.xd [("number", .int (j : Nat))])) := fun h dd nd => by
        refine qe j dd _ ?_ (same_new s03 nd) upd_same
        rw [all, readL_app hr1, ltk, Nat.zero_add]
        exact h _
      have lx' : L.length ≤ 20 := by
        have := (List.getElem?_eq_some_iff.mp hy2).1
        omega
      refine ⟨fun σ' G => ∃ (t k : Addr) (z : V) (pl : Pl), σ' = [some (.ref p), some (.ref f), some (.ref D), some (.int (j : Nat)), some y, some (.ref t)] ∧ G3 = G ∧ tellV y = some pl ∧ SqT K G3 t [.ref k, z] ∧ KeyA K G3 k (plK pl) ∧ ValA G3 z pl ∧ plK pl ∉ qs.map plK, ?_, ?_⟩
      · cases ht : tellV y with
        | none =>
          rw [ht] at hx
          have hx : x = .non := hx
          subst hx
          refine ⟨_, rfl, rfl, _, rfl, ite2 (fun _ => ?_) (fun c => absurd (decide_eq_true rfl) c)⟩
          refine ⟨_, rfl, _, rfl, fun dd nd => err (fun os => ?_) dd nd⟩
          rw [ht]
          rfl
        | some pl =>
          rw [ht] at hx
          obtain ⟨t, k, z, rfl, h1, h2, h3⟩ := hx
          refine ⟨_, rfl, rfl, _, rfl, ite2 (fun c => by simp at c) (fun _ => ?_)⟩
          refine ⟨_, rfl, t, _, 0, _, rfl, rfl, h1, rfl, _, rfl, D, k, L, plK pl, rfl, rfl, ⟨.inl e3, hT3.all⟩, h2, _, rfl, ?_⟩
          show if (getN L (plK pl)).isSome = true then _ else _
          rw [getN_some, hT3.keys]
          refine ite2 (fun c => ?_) (fun c => ⟨t, k, z, pl, rfl, rfl, rfl, h1, h2, h3, fun m => c (decide_eq_true m)⟩)
          refine ⟨_, rfl, _, rfl, fun dd nd => err (fun os => ?_) dd nd⟩
          rw [ht]
          exact if_pos (of_decide_eq_true c)
      rintro σ' _ ⟨t, k, z, pl, rfl, rfl, ht, h1, h2, h3, no⟩
      refine ⟨_, rfl, t, _, 1, _, rfl, rfl, h1, rfl, _, rfl, _, rfl, t, _, 0, _, rfl, rfl, h1, rfl, D, k, L, plK pl, rfl, rfl, e3, hT3.all, h2, by omega, ?_⟩
      rw [putN_fresh (by rw [hT3.keys]; exact no)]
      have up : ∀ a xs, SqT K G3 a xs → SqT K (upd G3 D (DN P w D (L ++ [(plK pl, k, z)]))) a xs := fun a xs h => sqT_upd (fun ys h => by
        rcases h with h | ⟨o, h⟩
        · rw [e3] at h; cases h
        · rw [e3] at h; cases h) h
      have upz : ∀ a xs, TupZ G3 a xs → TupZ (upd G3 D (DN P w D (L ++ [(plK pl, k, z)]))) a xs := fun a xs h => h.at fun o e => by
        rw [upd_ne (fun z => by obtain ⟨ob, _, e'⟩ := h; rw [z, e3] at e'; cases e')]
        exact e
      refine ⟨qs ++ [pl], L ++ [(plK pl, k, z)], _, _, _, rfl, ?_, upd_same, (hT3.mono up upz).snoc ⟨rfl, h2.mono up, h3.mono upz⟩, fun b o q => by rw [upd_ne (ne_of_none q nD)]; exact s03 _ _ q, by rw [List.length_append, List.length_singleton]; omega⟩
      rw [tk1, readL_app hr1, ht]
      exact if_neg no
    rintro σ' G2 ⟨qs, t3, t4, t5, rfl, hr1, hT, sm⟩
    exact ⟨_, rfl, q qs D G2 hr1 nD sm hT⟩
end
end Kl

set_option maxRecDepth 100000
set_option maxHeartbeats 4000000
/-! ### d.get(k) of a dict with nested keys -/
namespace Gx
open PySem PySem.Spec PyProof.Rows L2
section
variable {X : Cx} {pins : List (Addr × Obj)} {σ : L2.St} {H : Hp} {s : Shared} {d b : Addr} {L : NL} {k : NestedKey} {A : Around} {E : Value → Shared → Prop}
theorem n_get1 {Q : Value → Shared → Prop} (hu : A.units + 64 < cLine) (I : Inv X pins σ H s) (e : NDict X.prog X.w X.K H d L) (hb : KeyA X.K H b k) (h : ∀ w' s', Inv X pins σ H s' → RelV ((getN L k).getD .non) w' → Q w' s') :
    wpAny (model X.prog X.w) A (call (.builtin "dict.get") [.ref d, .ref b]) Q E s := by
  obtain ⟨_, hd, xs, rel, dd⟩ := dn_rd I e
  exact call_meetsIn PySem.F.slot_dict_get dd.typeIs PySem.F.entry_dict_get (PySem.F.args_dict_get_2 _ _) (meetsH_dict_get (nestedKind X.prog X.w) d b hd) ⟨roomN (X := X) hu, k, xs, nkey_of I hb, dd, h _ _ (I.tok _) ((rel.val k).getD (show RelV .non Value.none from rfl))⟩
end
def tNGet1 (P : Program) (w : World) (K : PySem.W.Frag) (td ty : TE) : TE := fun σ H Q => td σ H fun x H1 => ∃ a L0, x = .ref a ∧ Rd H1 a (DN P w a L0) ∧ ty σ H1 fun y H2 => ∃ b L k, y = .ref b ∧ NDict P w K H2 a L ∧ KeyA K H2 b k ∧ Q ((getN L k).getD .non) H2
section
variable {X : Cx} {P : Program} {w : World} {K : PySem.W.Frag} {o e : Expr} {td ty : TE} {apos cpos : Pos}
theorem pe_nget1 (hx : XI X P w K) (hu : X.A.units + 64 < cLine) (ho : PE X o td) (he : PE X e ty) (m : M1 X o "get" apos e cpos) : PE X (.Call (.Attribute o "get" apos) [e] [] cpos) (tNGet1 P w K td ty) := by
  obtain ⟨rfl, rfl, rfl⟩ := hx
  refine ⟨fun pins s σ H Q I h => ?_⟩
  refine wpAny_Call_method m.base m.few m.line PySem.F.plainAttrs_dict PySem.F.slot_dict_get PySem.F.type_dict_get (thn (ho.run pins s σ H _ I h) fun u s1 ⟨x, H1, I1, rx, a, L0, ex, d, q1⟩ => ?_)
  subst ex
  obtain rfl : u = Value.ref a := rx
  obtain ⟨t1, t2⟩ := n_type I1 d
  refine ⟨t1, t2, ?_⟩
  rw [m.trees]
  refine Calls.callWith_builtin rfl (Calls.evalArgs_plain (Calls.spliced_cons (thn (he.run pins s1 σ H1 _ I1 q1) fun iv s2 ⟨y, H2, I2, ry, b, L, k, ey, g, hb, q2⟩ => Calls.spliced_nil ?_)))
  subst ey
  obtain rfl : iv = Value.ref b := ry
  exact n_get1 hu I2 g hb fun w' s3 I3 rw' => ⟨_, H2, I3, rw', q2⟩
end
end Gx

set_option maxRecDepth 100000
set_option maxHeartbeats 4000000
namespace Gx
open PySem PySem.Spec PyProof.Rows L2
/-! ### name = {key: value for ..} on one line, the name a local -/
section
variable {X : Cx} {new : Addr → HO} {put : PutG}
theorem ps_setDcG {i : Nat} {y : Str} {py : Pos} {kx vx tg iter : Expr} {ifs : List Expr} {scope : Scope} {own : List (Str × Nat)} {pos spos : Pos} {wi : TI} {g : TG} {tt : TT} {tk tv : TE} (hnew : NewOk X.prog X.w new)
    (hput : ∀ (s : Shared) (H : Hp) (C : Addr) (cl : List (Str × Addr)) (fp : List Addr), PutOk (X.blk s H scope (compEnvC scope cl C X.env) fp) put) (hc : X.calm = true) (hN : X.N.Nodup) (hy : X.N[i]? = some y) (hyl : X.env.scope.names.lookup y = some .local)
    (hsw : swapsWith (.DictComp kx vx [⟨tg, iter, ifs, 0⟩] scope pos) (some (.Name y py)) spos.line X.env = pure true) (hi : PI X tg iter wi) (ok : BlkOk X.N X.env.scope scope own)
    (hg : ∀ (s : Shared) (H : Hp) (C : Addr) (cl : List (Str × Addr)) (fp : List Addr), PG (X.blk s H scope (compEnvC scope cl C X.env) fp) tg g) (ht : ∀ (s : Shared) (H : Hp) (C : Addr) (cl : List (Str × Addr)) (fp : List Addr), PTs (X.blk s H scope (compEnvC scope cl C X.env) fp) ifs tt)
    (hk : ∀ (s : Shared) (H : Hp) (C : Addr) (cl : List (Str × Addr)) (fp : List Addr), PE (X.blk s H scope (compEnvC scope cl C X.env) fp) kx tk)
    (he : ∀ (s : Shared) (H : Hp) (C : Addr) (cl : List (Str × Addr)) (fp : List Addr), PE (X.blk s H scope (compEnvC scope cl C X.env) fp) vx tv) (hs : ∀ x, foldedSetIterable iter X.env x = pure x := by intro _; rfl) :
    PS X (.Assign [.Name y py] (.DictComp kx vx [⟨tg, iter, ifs, 0⟩] scope pos) spos) (tAsg (tDcG new put wi g tt tk tv (own.map (·.2))) (gName i)) := by
  refine ⟨fun pins s σ H D I h => ?_⟩
  rw [exec_Assign_Name_used _ _ _ _ hsw]
  refine wpAny_bind (wpAny_standAt (wpAny_bind ?_))
  show wpAny _ X.A (do let _ ← comprehension (.DictComp kx vx [⟨tg, iter, ifs, 0⟩] scope pos) scope X.env (firstIterPos [⟨tg, iter, ifs, 0⟩] pos) newDict false (eval iter X.env) (some (assign (.Name y py) X.env))) _ _ s
  have h : tDcG new put wi g tt tk tv (own.map (·.2)) σ H (fun x H1 => gName i x σ H1 D.nx) := h
  refine wpAny_bind (thn (dcG_core (Qf := fun _ s' => SP X pins D .next s') hnew hput hc hN I hi ok hg ht hk he hs h fun L C s' m H' I' q hn f => ?_) fun _ s' hq => wpAny_pure (wpAny_pure hq))
  show wpAny _ _ (assign (.Name y py) X.env (.ref L)) _ _ _
  refine wpAny_assign_Name (store_ok2 (v := V.ref L) I' hN hy (.inl hyl) rfl (fun s2 I2 ⟨a, sb, ha⟩ => ?_) (.inr hyl))
  obtain ⟨f0, f1, f2, f3, f4, f5⟩ := f
  have haC : C ≠ a := by
    rcases ha with z | z
    · rw [z]; exact f1
    · exact fun e => f4 y a z e.symm
  refine ⟨m, hn.sameBut sb haC, fun h3 sb3 => ?_⟩
  exact ⟨_, H', I2.turned (t' := s2.toks) (fun b o hb e => (sb3.2 b hb).trans e) f0 f1 f3 f4 f5, q⟩
theorem sw_trueD {kx vx : Expr} {gs : List Comprehension} {scope : Scope} {pos py : Pos} {y : Str} {l : Nat} {env : Env} (hk : env.scope.kind = .function) (hy : env.scope.names.lookup y = some .local) (hl : (py.line == pos.line) = true)
    (ha : (scope.names.any fun (n, k) => n == y && (k == .local || k == .cell)) = false) : swapsWith (.DictComp kx vx gs scope pos) (some (.Name y py)) l env = pure true := by
  have ky : env.kindOf y = some .local := hy
  have hb : env.blockKind = .function := by unfold Env.blockKind; rw [hk]; rfl
  unfold swapsWith
  simp only [hb, ky, ha, Expr.pos, hl]
  rfl
end
end Gx

set_option maxRecDepth 100000
set_option maxHeartbeats 4000000
/-! ### t[a:b] of a tuple, whichever object it is -/
namespace Gx
open PySem PySem.Spec PyProof.Rows L2
def rSlQ (K : PySem.W.Frag) : V → Option Int → Option Int → Hp → VK → Prop := fun x lo hi H Q => ∃ a xs, x = .ref a ∧ SqT K H a xs ∧ ∀ p G, (∀ b o, H b = some o → G b = some o) → SqT K G p (cutV xs lo hi) → Q (.ref p) G
theorem cutQ_whole {xs : List V} {lo hi : Option Int} (h : HT.sIx xs.length 0 lo = 0 ∧ HT.sIx xs.length xs.length hi = xs.length) : cutV xs lo hi = xs := by
  unfold cutV
  rw [h.1, h.2, List.drop_zero, Nat.sub_zero, List.take_length]
theorem sl_tupQ {X : Cx} {K : PySem.W.Frag} (hk : X.K = K) : SlR X (rSlQ K) := by
  subst hk
  intro pins s σ H x v vl vu lo hi sl Q I rx hs pl pu h
  obtain ⟨a, xs, rfl, ea, q⟩ := h
  exact sl_tupA pins s σ H _ v vl vu lo hi sl Q I rx hs pl pu ⟨a, xs, rfl, ea, fun hw => q a H (fun _ _ e => e) (by rw [cutQ_whole hw]; exact ea), fun _ p np => q p _ (fun b o e => by rw [upd_ne (fun z => by rw [z, np] at e; cases e)]; exact e) (.inl (.inl upd_same))⟩
end Gx

set_option maxRecDepth 100000
set_option maxHeartbeats 4000000
namespace Kl
open PySem PySem.Spec PyProof.Rows L2 Gx Mx
/-! ### _are_kinds of names and makings: are they kinds, or not -/
structure Pre (leaf : Str) (M : Mak) : Prop where
  lf : nameB leaf = true
  keys : ∀ z ∈ keysOf M, nameB z = true
  nd : (keysOf M).Nodup
  parts : ∀ m ∈ M, sortedS m.2 = true ∧ 2 ≤ m.2.length ∧ m.2.length ≤ 3 ∧ ∀ p ∈ m.2, nameB p = true
  few : M.length ≤ 20
theorem vld_iff {leaf : Str} {M : Mak} {ns : List Str} (h : Pre leaf M) (hn : IsNames leaf (keysOf M) ns) : Vld leaf M ↔ ns.length ≤ 6 ∧ ∀ m ∈ M, ∀ p ∈ m.2, p ∈ ns := by
  constructor
  · intro v
    exact ⟨v.few ns hn.nd fun z m => (hn.mem z).mp m, fun m mm p mp => (hn.mem p).mpr ((v.parts m mm).2.2.2 p mp)⟩
  · rintro ⟨h1, h2⟩
    refine ⟨in_pool h.lf, fun z m => in_pool (h.keys z m), h.nd, fun m mm => ?_, fun zs nd hz => ?_⟩
    · obtain ⟨a, b, c, d⟩ := h.parts m mm
      exact ⟨a, b, c, fun p mp => (hn.mem p).mp (h2 m mm p mp)⟩
    · exact Nat.le_trans (List.Nodup.length_le_of_subset nd fun z m => (hn.mem z).mpr (hz z m)) h1
section
variable {P : Program} {w : World} {K : PySem.W.Frag} {mg : Str → Option Value} {base : Heap}
def spAreG : Sp := fun vs H Q _ => ∃ (leaf : Str) (md : Addr) (kvs : List (Key × V)) (M : Mak), vs = [.str leaf, .ref md] ∧ H md = some (.dK kvs) ∧ MakAt H kvs M ∧ Pre leaf M ∧ ∀ b H', Same H H' → (b = true ↔ Vld leaf M) → Q (.bl b) H'
theorem ok_areG {f : Addr} {fd : FuncData} (F : Fun K "_are_kinds" "_are_kinds" s_are_kinds f fd) (T : Top K mg) : FnOk P w K mg base CX0 5 f fd ["leaf", "makings"] spAreG := by
  obtain ⟨tm, gm⟩ := T.g_MAX_KINDS
  have cn : Cal P w K mg base 4 "is_name" ["value"] (spName K) := (T.d_is_name.cal fun f fd F => ok_name F T).mono (by decide)
  have cm : Cal P w K mg base 4 "_is_making" ["value"] (spMaking K) := T.d_is_making.cal fun f fd F => ok_making F T
  have ca : Cal P w K mg base 4 "_all_names" ["leaf", "makings"] spNames := (T.d_all_names.cal fun f fd F => ok_names F T).mono (by decide)
  refine F.ok sc_are_kinds (fun vs H Q E h => ?_) (fun cdv A outer s H vs Q E hr h => ?_)
  · obtain ⟨leaf, md, kvs, M, rfl, _⟩ := h
    rfl
  · obtain ⟨leaf, md, kvs, M, rfl, hd, hM, hV, q⟩ := h
    have hu := hu_of hr
    refine ⟨_, pss_cons (ps_if (PW.pt (pw_or (pt_not (pt_val (pe_cal cn hr (by rfl) (pa_cons (pv 0) pa_nil)))) (pw_or1 (pt_not (pt_val (pe_callB call_isi (by rfl) T.b_isinstance (by decide +kernel) (pa_cons (pv 1) (pa_cons (pe_bltn (v := .ty "dict") (by rfl) T.b_dict (by decide +kernel) rfl) pa_nil))))))))
          (pss_one (ps_ret pe_bl)) pss_nil)
      (pss_cons (ps_if (pt_not (pt_val (pe_callB (cr_all rfl) (by rfl) T.b_all (by decide +kernel) (pa_cons (pe_lock (pe_lc (own := [("name", 3)]) (g := gName 3) (tt := tYes) rfl sc_are_kinds.nd (pi_keys (pv 1))
            (blkOk_by (N := NA) (sc := defScope s_are_kinds) (by decide +kernel)) (fun _ _ _ _ _ => pg_name (i := 3) sc_are_kinds.nd rfl (.inl rfl)) (fun _ _ _ _ _ => pts_nil)
            (fun _ _ _ _ _ => pe_and (pe_cal cn hr (by rfl) (pa_cons (pv 3) pa_nil)) (pe_one (pe_cal cm hr (by rfl) (pa_cons (pe_dget hu (pv 1) (pv 3) (fun _ _ => rfl)) pa_nil)))))) pa_nil)))) (pss_one (ps_ret pe_bl)) pss_nil)
      (pss_cons (ps_set (i := 2) sc_are_kinds.nd rfl (.inr rfl) (pe_cal ca hr (by rfl) (pa_cons (pv 0) (pa_cons (pv 1) pa_nil))))
      (pss_cons (ps_if (pt_cmpR op_gt (pe_callB call_len_seq (by rfl) T.b_len PySem.boot_len (pa_cons (pv 2) pa_nil)) (pe_glob (v := .int 6) (by rfl) gm ⟨_, rfl⟩) (nomark _)) (pss_one (ps_ret pe_bl)) pss_nil)
      (pss_one (ps_ret (pe_callB (cr_all rfl) (by rfl) T.b_all (by decide +kernel) (pa_cons (pe_lock (pe_lc2 (own := [("name", 3), ("part", 4)]) (vs1 := [4]) (g := gName 3) (g1 := gName 4) (tt := tYes) (tt1 := tYes) rfl sc_are_kinds.nd (pi_keys (pv 1))
            (blkOk_by (N := NA) (sc := defScope s_are_kinds) (by decide +kernel)) (by decide) (fun _ _ _ _ _ => pg_name (i := 3) sc_are_kinds.nd rfl (.inl rfl)) (fun _ _ _ _ _ => pts_nil) (fun _ _ _ _ _ => pi_tupK (K := K) (by exact rfl) (pe_dget hu (pv 1) (pv 3) (fun _ _ => rfl)))
            (fun _ _ _ _ _ => pg_name (i := 4) sc_are_kinds.nd rfl (.inl rfl)) (fun _ _ _ _ _ => pts_nil)
            (fun _ _ _ _ _ => pe_cmpR (op_inSeqK (K := K) (by exact rfl)) (pv 4) (pv 2) (by rfl)))) pa_nil))))))), ?_⟩
    have lM := hV.few
    have lk := hM.len
    -- is_name(leaf), isinstance(makings, dict)
    refine ⟨_, rfl, .str leaf, rfl, .inl ⟨leaf, rfl, Nat.le_trans (pool_len (in_pool hV.lf)) (by decide)⟩, _, rfl, ?_⟩
    rw [show nameV (.str leaf) = true from hV.lf]
    refine ⟨_, rfl, _, .ty "dict", .type "dict", .type "dict", true, rfl, .ty _, .base (.dK hd), kit_ty (by decide +kernel), true, rfl, ?_⟩
    -- all([..])
    refine ⟨md, _, hd, trivial, fun od => ?_⟩
    have dM : ∀ {j : Nat} {m : Str × List Str}, M[j]? = some m → ∀ {H2 : Hp}, Same (upd H md (.frz od (.dK kvs))) H2 → ∃ a, DGet H2 md (.str m.1) (some (.ref a)) ∧ TupZ H2 a (m.2.map V.str) := by
      intro j m hj H2 s2
      obtain ⟨ps, a, e1, e2, e3⟩ := hM.key (z := m.1) (List.mem_map.mpr ⟨m, List.mem_of_getElem? hj, rfl⟩)
      rw [lookM_mem hV.nd (List.mem_of_getElem? hj)] at e1
      cases e1
      have na : a ≠ md := e3.ne hd (fun _ => nofun)
      refine ⟨a, .inl ⟨kvs, Sum.inr m.1, .inr ⟨od, s2 _ _ upd_same⟩, rfl, e2.symm⟩, (e3.at fun o e => by rw [upd_ne na]; exact e).mono s2⟩
    refine ⟨_, rfl, md, od, rfl, .inl ⟨kvs, upd_same, fun D hD => ?_⟩⟩
    refine lc_it walk_keys (fun j H2 => H2 D = some (.lst (List.replicate j (V.bl true))) ∧ Same (upd H md (.frz od (.dK kvs))) H2) ⟨upd_same, fun b u e => by rw [upd_ne (ne_of_none e hD)]; exact e⟩ (fun j H2 _ hP => hP.2 _ _ upd_same) (fun j x H2 H2' hj hP hy => ?_) (fun H2 hP => ?_)
    · obtain ⟨eD, sm⟩ := hP
      obtain ⟨rfl, k, v, hkv, rfl⟩ := hy
      obtain ⟨m, a, hm, rfl, rfl, _⟩ := hM.at hkv
      have hmM := List.mem_of_getElem? hm
      obtain ⟨p1, p2, p3, p4⟩ := hV.parts m hmM
      obtain ⟨a', hg, ha⟩ := dM hm sm
      have hpool : m.1 ∈ POOL := in_pool (hV.keys _ (List.mem_map.mpr ⟨m, hmM, rfl⟩))
      refine ⟨rfl, _, rfl, .str m.1, rfl, .inl ⟨m.1, rfl, Nat.le_trans (pool_len hpool) (by decide)⟩, _, rfl, ?_⟩
      rw [show nameV (.str m.1) = true from pool_name hpool]
      refine ⟨_, rfl, _, rfl, md, _, rfl, hg, a', m.2, rfl, ha, List.all_eq_true.mpr fun z hz => p4 z hz, p1, p2, p3, fun z hz => Nat.le_trans (pool_len (in_pool (p4 z hz))) (by decide), fun H3 s3 => ?_⟩
      refine ⟨_, s3 _ _ eD, ?_, ?_, fun b u e => by rw [upd_ne (ne_of_none e hD)]; exact s3 _ _ (sm b u e)⟩
      · rw [List.length_replicate]
        exact Nat.lt_of_le_of_lt (show j ≤ 20 by omega) (by decide)
      · rw [upd_same, rep_snoc]
    obtain ⟨eD, sm⟩ := hP
    have s1 := same_unlock hd sm
    refine ⟨sm _ _ upd_same, D, List.replicate kvs.length true, rfl, .inl (.inl ?_), _, rfl, ?_⟩
    · have nD : D ≠ md := fun z => by
        rw [z, upd_same] at hD
        cases hD
      rw [upd_ne nD, eD, rep_map]
    rw [all_true]
    generalize upd H2 md (.dK kvs) = H3 at s1
    have hd3 := s1 _ _ hd
    have hM3 : MakAt H3 kvs M := hM.same fun a xs e => e.mono s1
    -- names
    refine ⟨_, rfl, _, rfl, leaf, md, kvs, keysOf M, rfl, hd3, hM3.keys, by unfold keysOf; rw [List.length_map]; omega, fun ns p H4 hns s4 np hp => ?_⟩
    refine ⟨_, rfl, p, _, rfl, .inr (.inl (.inl hp)), _, _, rfl, rfl, _, rfl, ?_⟩
    have vi := vld_iff hV hns
    refine ite2 (fun e => ?_) (fun e6 => ?_)
    · have e := of_decide_eq_true e
      rw [List.length_map] at e
      exact q false _ (fun b u e => s4 _ _ (s1 _ _ e)) ⟨(fun h => by cases h), fun v => by have := (vi.mp v).1; omega⟩
    have few : ns.length ≤ 6 := by
      have e : ¬ ((6 : Int) < ((ns.map V.str).length : Int)) := fun z => e6 (decide_eq_true z)
      rw [List.length_map] at e
      omega
    have hd4 := s4 _ _ hd3
    have hM4 : MakAt H4 kvs M := hM3.same fun a xs e => e.mono s4
    have s14 : Same H H4 := fun b u e => s4 _ _ (s1 _ _ e)
    clear hd hM hd3 hM3 s1 s4 hD eD sm dM
    refine ⟨md, _, hd4, trivial, fun od => ?_⟩
    have npm : p ≠ md := fun z => by
      rw [z, hd4] at hp
      cases hp
    refine ⟨_, rfl, md, od, rfl, .inl ⟨kvs, upd_same, fun D hD => ?_⟩⟩
    let bits : List (Str × List Str) → List Bool := fun L => L.flatMap fun m => m.2.map fun z => decide (z ∈ ns)
    have lbits : ∀ j, (bits (M.take j)).length ≤ 60 := fun j => by
      have aux : ∀ L : List (Str × List Str), (∀ m ∈ L, m ∈ M) → (bits L).length ≤ 3 * L.length := by
        intro L
        induction L with
        | nil => intro _; exact Nat.zero_le _
        | cons m r ih =>
          intro hm
          have h1 := (hV.parts m (hm m List.mem_cons_self)).2.2.1
          have h2 := ih fun x mx => hm x (List.mem_cons_of_mem _ mx)
          show ((m.2.map fun z => decide (z ∈ ns)) ++ bits r).length ≤ _
          rw [List.length_append, List.length_map, List.length_cons]
          omega
      have h1 := aux (M.take j) fun m mm => List.mem_of_mem_take mm
      have h2 : (M.take j).length ≤ M.length := by rw [List.length_take]; exact Nat.min_le_right _ _
      omega
    refine walk_in walk_keys (fun j H2 => H2 D = some (.lst ((bits (M.take j)).map V.bl)) ∧ Same (upd H4 md (.frz od (.dK kvs))) H2) ⟨upd_same, fun b u e => by rw [upd_ne (ne_of_none e hD)]; exact e⟩ (fun j H2 _ hP => hP.2 _ _ upd_same) (fun j x H2 H2' hj hP hy => ?_) (fun H2 hP => ?_)
    · obtain ⟨eD, sm⟩ := hP
      obtain ⟨rfl, k, v, hkv, rfl⟩ := hy
      obtain ⟨m, a, hm, rfl, rfl, ha⟩ := hM4.at hkv
      have hmM := List.mem_of_getElem? hm
      have na : a ≠ md := ha.ne hd4 (fun _ => nofun)
      have ha1 : TupZ (upd H4 md (.frz od (.dK kvs))) a (m.2.map V.str) := ha.at fun o e => by rw [upd_ne na]; exact e
      have hv : valV kvs (Sum.inr m.1) = some (.ref a) := by
        have e4 : (kvs.map (·.1)).Nodup := by
          rw [hM4.keys]
          exact List.Pairwise.map Sum.inr (fun a b h q => h (Sum.inr.inj q)) hV.nd
        exact val_nodup e4 (Sum.inr m.1, .ref a) (List.mem_of_getElem? hkv)
      have et : bits (M.take (j + 1)) = bits (M.take j) ++ m.2.map fun z => decide (z ∈ ns) := by
        show (M.take (j + 1)).flatMap _ = _
        rw [List.take_add_one, hm, List.flatMap_append]
        show _ ++ List.flatMap _ [m] = _
        rw [List.flatMap_singleton]
      refine ⟨rfl, ?_⟩
      refine ⟨_, rfl, _, rfl, md, .ref a, rfl, .inl ⟨kvs, Sum.inr m.1, .inr ⟨od, sm _ _ upd_same⟩, rfl, hv.symm⟩, a, rfl, ⟨_, (ha1.mono sm).sq⟩, ?_⟩
      refine walk_in (walk_tup (K := K) (a := a) (xs := m.2.map V.str)) (fun i H3 => H3 D = some (.lst ((bits (M.take j) ++ (m.2.take i).map fun z => decide (z ∈ ns)).map V.bl)) ∧ Same (upd H4 md (.frz od (.dK kvs))) H3) ⟨by rw [List.take_zero, List.map_nil, List.append_nil]; exact eD, sm⟩ (fun i H3 _ hP => (ha1.mono hP.2).sq) (fun i x H3 H3' hi hP hy => ?_) (fun H3 hP => ?_)
      · obtain ⟨eD3, sm3⟩ := hP
        obtain ⟨rfl, hx⟩ := hy
        obtain ⟨z, hz, rfl⟩ : ∃ z, m.2[i]? = some z ∧ V.str z = x := by
          rw [List.getElem?_map] at hx
          cases e : m.2[i]? with
          | none => rw [e] at hx; cases hx
          | some z => rw [e] at hx; exact ⟨z, rfl, by cases hx; rfl⟩
        refine ⟨rfl, _, rfl, _, rfl, p, ns.map V.str, rfl, .inr (.inl (.inl (sm3 _ _ (by rw [upd_ne npm]; exact hp)))), rfl, flat_strs' ns, ?_⟩
        refine ⟨_, eD3, ?_, ?_, fun b u e => by rw [upd_ne (ne_of_none e hD)]; exact sm3 _ _ e⟩
        · rw [List.length_map, List.length_append, List.length_map, List.length_take]
          have := lbits j
          have := (hV.parts m hmM).2.2.1
          exact Nat.lt_of_le_of_lt (show _ ≤ 100 by omega) (by decide)
        · rw [upd_same, List.take_add_one, hz]
          show some (HO.lst (_ ++ [V.bl (inV (V.str z) (ns.map V.str))])) = _
          rw [inV_strs]
          simp only [List.map_append, List.append_assoc]
          rfl
      · obtain ⟨eD3, sm3⟩ := hP
        rw [List.length_map, List.take_length] at eD3
        exact ⟨by rw [et]; exact eD3, sm3⟩
    · obtain ⟨eD, sm⟩ := hP
      have s1 := same_unlock hd4 sm
      rw [lk, List.take_length] at eD
      refine ⟨sm _ _ upd_same, D, bits M, rfl, .inl (.inl ?_), ?_⟩
      · have nD : D ≠ md := fun z => by
          rw [z, upd_same] at hD
          cases hD
        rw [upd_ne nD, eD]
      refine q _ _ (fun b u e => s1 _ _ (s14 _ _ e)) ?_
      rw [vi]
      constructor
      · intro h
        refine ⟨few, fun m mm p mp => ?_⟩
        have := List.all_eq_true.mp h (decide (p ∈ ns)) (List.mem_flatMap.mpr ⟨m, mm, List.mem_map.mpr ⟨p, mp, rfl⟩⟩)
        exact of_decide_eq_true this
      · rintro ⟨_, h⟩
        refine List.all_eq_true.mpr fun b mb => ?_
        obtain ⟨m, mm, mb⟩ := List.mem_flatMap.mp mb
        obtain ⟨p, mp, rfl⟩ := List.mem_map.mp mb
        exact decide_eq_true (h m mm p mp)
end
end Kl

set_option maxRecDepth 100000
set_option maxHeartbeats 4000000
namespace Gx
open PySem PySem.Spec PyProof.Rows L2
/-! ### two promises of one def; a promise that raises nothing -/
theorem fnOr18 {P : Program} {w : World} {K : PySem.W.Frag} {mg : Str → Option Value} {base : Heap} {CX : CXT} {k : Nat} {f : Addr} {fd : FuncData} {ps : List Str} {sp sp' : Sp} (F : FnOk P w K mg base CX k f fd ps sp) (F' : FnOk P w K mg base CX k f fd ps sp') :
    FnOk P w K mg base CX k f fd ps (fun vs H Q E => sp vs H Q E ∨ sp' vs H Q E) := by
  refine ⟨fun vs H Q E h => h.elim (F.len _ _ _ _) (F'.len _ _ _ _), fun A outer s H args us vs Q E hr he hb hv hs => ?_⟩
  rcases hs with h | h
  · exact F.run A outer s H args us vs Q E hr he hb hv h
  · exact F'.run A outer s H args us vs Q E hr he hb hv h
theorem fnLift18 {P : Program} {w : World} {K : PySem.W.Frag} {mg : Str → Option Value} {base : Heap} {CX : CXT} {k : Nat} {f : Addr} {fd : FuncData} {ps : List Str} {sp : Sp} (F : FnOk P w K mg base CX0 k f fd ps sp) : FnOk P w K mg base CX k f fd ps sp :=
  ⟨F.len, fun A outer s H args us vs Q E hr he hb hv hs => codeAny_mono (F.run A outer s H args us vs Q E hr he hb hv hs) fun r s' h => by
    match r, h with
    | .error e, h => exact (show False from h).elim
    | .ok (.ret u), h => exact h⟩
section
variable {X : Cx} {C : Addr} {k : Nat} {ps : List Str} {sp : Sp} {E : L2.St → XK}
/-- x(..), x a local name that holds the class at C, whose __init__ may raise -/
def tMakeLX (i : Nat) (C : Addr) (sp : Sp) (E : L2.St → XK) (t : TA) : TE := fun σ H Q => σ[i]? = some (some (.ref C)) ∧ tMakeX C sp E t σ H Q
theorem pe_makeLX {i : Nat} {x : Str} {p pos : Pos} {e : Expr} {es : List Expr} {t : TA} (c : CalIX X.prog X.w X.K X.mg X.base C k ps sp) (hr : Room (k + 1) X.A) (hN : X.N[i]? = some x) (hv : Vis X.env.scope x) (hx : ∀ σ, PassesAt (L2.CX X.prog X.w) X σ (E σ)) (ha : PA X (e :: es) t)
    (hd : (x == ("__debug__" : Str)) = false := by decide) (hcd : (x == ("__classdict__" : Str)) = false := by decide) (he : starEach (e :: es) X.env = (false, eval e X.env) :: starEach es X.env := by rfl) (hpl : (backTo pos (starEach es X.env)).any (·.1) = false := by rfl) :
    PE X (.Call (.Name x p) (e :: es) [] pos) (tMakeLX i C sp E t) := by
  obtain ⟨f, fd, M, F, b⟩ := c
  refine ⟨fun pins s σ H Q I h => ?_⟩
  obtain ⟨h0, h⟩ := h
  refine wpAny_Call_Name_kw (thn ((pe_var (pos := p) (i := i) hN hv hd hcd).run pins s σ H (fun v H1 => v = .ref C ∧ H1 = H) I ⟨.ref C, h0, rfl, rfl⟩) fun u s1 ⟨v, H1, I1, r1, q1⟩ => ?_)
  obtain ⟨ev, eH⟩ := q1
  subst ev
  rw [eH] at I1
  obtain rfl : u = Value.ref C := r1
  refine PySem.W.callWith_K (h₀ := X.base) I1.ok.mod.kin M.kp (thn (ha.run pos pins s1 σ H _ I1 h) fun us s2 ⟨vs, H1, I2, r, q⟩ => ⟨I2.kIn, ?_⟩) he hpl
  exact run_makeX M F hr b (hx σ) I2 r q
/-! ### dicts with texts and ints for keys, by the general dict comprehension -/
def putGK : PutG := fun D y z H N => ∃ (kvs : List (Key × V)) (k : Key), y = kV k ∧ H D = some (.dK kvs) ∧ kvs.length < sizeLine ∧ N (upd H D (.dK (putK kvs k z)))
theorem newGK {P : Program} {w : World} : NewOk P w fun _ => .dK [] := fun _ h hb => dk_empty h hb
theorem putGK_ok {X : Cx} : PutOk X putGK := by
  intro A hA pins σ H s E D y z u r N I ry rz h
  obtain ⟨kvs, k, rfl, hD, hz, n⟩ := h
  subst hA
  exact d_dictSet I hD hz ry rz fun s' I' => ⟨_, I', n⟩
end
end Gx

set_option maxRecDepth 100000
set_option maxHeartbeats 4000000
namespace Kl
open PySem PySem.Spec PyProof.Rows L2 Gx Mx
/-! ### Kinds.__init__ where there are no kinds -/
theorem pss_nvK {X : Cx} {b : List Stmt} : PSs X b (fun _ _ _ => False) := ⟨fun _ _ _ _ _ _ h => h.elim⟩
theorem name_non {K : PySem.W.Frag} {H : Hp} : NameArg K H .non := .inr ⟨fun z h => (nomatch h), _, .base .non, kit_ty (by decide +kernel)⟩
abbrev XIK (K : PySem.W.Frag) (mg : Str → Option Value) (Cr : Addr) : Prop := XPln K mg "InvalidKinds" "ValueError.__new__" "ValueError.__init__" [.type "ValueError", .type "Exception", .type "BaseException", .type "object"] Cr
section
variable {P : Program} {w : World} {K : PySem.W.Frag} {mg : Str → Option Value} {base : Heap}
def spAreN : Sp := fun vs H Q _ => ∃ v : V, vs = [.non, v] ∧ Q (.bl false) H
theorem ok_areN {f : Addr} {fd : FuncData} (F : Fun K "_are_kinds" "_are_kinds" s_are_kinds f fd) (T : Top K mg) : FnOk P w K mg base CX0 5 f fd ["leaf", "makings"] spAreN := by
  have cn : Cal P w K mg base 4 "is_name" ["value"] (spName K) := (T.d_is_name.cal fun f fd F => ok_name F T).mono (by decide)
  refine F.ok sc_are_kinds (fun vs H Q E h => ?_) (fun cdv A outer s H vs Q E hr h => ?_)
  · obtain ⟨v, rfl, _⟩ := h
    rfl
  · obtain ⟨v, rfl, q⟩ := h
    refine ⟨_, pss_cons (ps_if (PW.pt (pw_or (pt_not (pt_val (pe_cal cn hr (by rfl) (pa_cons (pv 0) pa_nil)))) (pw_or1 (pt_not (pt_val (pe_callB call_isi (by rfl) T.b_isinstance (by decide +kernel) (pa_cons (pv 1) (pa_cons (pe_bltn (v := .ty "dict") (by rfl) T.b_dict (by decide +kernel) rfl) pa_nil))))))))
          (pss_one (ps_ret pe_bl)) pss_nil) pss_nvK, ?_⟩
    exact ⟨_, rfl, .non, rfl, name_non, _, rfl, q⟩
/-- no kinds with this leaf and these makings -/
def NoKd (a : V) (M : Mak) : Prop := a = .non ∨ ∃ leaf, a = .str leaf ∧ Pre leaf M ∧ ¬ Vld leaf M
def spInitE (Cr : Addr) : Sp := fun vs H _ E => ∃ (x : Addr) (a : V) (md : Addr) (kvs : List (Key × V)) (M : Mak), vs = [.ref x, a, .ref md] ∧ NoKd a M ∧ H md = some (.dK kvs) ∧ MakAt H kvs M ∧ ∀ H', Same H H' → E (.ref Cr) none H'
theorem ok_initE {Cr f : Addr} {fd : FuncData} (F : Fun K "__init__" "Kinds.__init__" s_Kinds_init f fd) (T : Top K mg) (XO : XIK K mg Cr) (XC : XCls K Cr) : FnOk P w K mg base (L2.CX P w) 6 f fd ["self", "leaf", "makings"] (spInitE Cr) := by
  have ca : Cal P w K mg base 5 "_are_kinds" ["leaf", "makings"] (fun vs H Q E => spAreG vs H Q E ∨ spAreN vs H Q E) := T.d_are_kinds.cal fun f fd F => fnOr18 (ok_areG F T) (ok_areN F T)
  refine F.okX sc_Kinds_init (fun vs H Q E h => ?_) (fun cdv A outer s H vs Q E hr h => ?_)
  · obtain ⟨x, a, md, kvs, M, rfl, _⟩ := h
    rfl
  · obtain ⟨x, a, md, kvs, M, rfl, hab, hd, hM, q⟩ := h
    refine ⟨_, pss_cons (ps_if (pt_not (pt_val (pe_cal ca hr (by rfl) (pa_cons (pv 1) (pa_cons (pv 2) pa_nil))))) (pss_one (ps_raise rfl (takes_of rfl rfl rfl rfl) (pmk_P PySem.F.excBase_ValueError XO XC (pa_cons pe_str pa_nil) (by rfl)))) pss_nil) pss_nvK, ?_⟩
    rcases hab with rfl | ⟨leaf, rfl, hp, nv⟩
    · refine ⟨_, rfl, _, rfl, .inr ⟨_, rfl, _, rfl, ?_⟩⟩
      show if (!false) = true then _ else _
      rw [if_pos (by decide)]
      exact ⟨by decide, q _ (Same.refl H)⟩
    · refine ⟨_, rfl, _, rfl, .inl ⟨leaf, md, kvs, M, rfl, hd, hM, hp, fun b H1 s1 hb => ?_⟩⟩
      have eb : b = false := by
        cases b with
        | false => rfl
        | true => exact absurd (hb.mp rfl) nv
      subst eb
      refine ⟨_, rfl, ?_⟩
      show if (!false) = true then _ else _
      rw [if_pos (by decide)]
      exact ⟨by decide, q _ s1⟩
end
end Kl

set_option maxRecDepth 100000
set_option maxHeartbeats 4000000
namespace Kl
open PySem PySem.Spec PyProof.Rows L2 Gx Mx
/-! ### Kinds.from_lines -/
/-- all but d stays, d is locked -/
structure Lkd (P : Program) (w : World) (H H' : Hp) (d : Addr) (od : Obj) (L : Gx.NL) : Prop where
  at_ : H' d = some (.frz od (DN P w d L))
  sm : ∀ b u, b ≠ d → H b = some u → H' b = some u
section
variable {P : Program} {w : World} {K : PySem.W.Frag} {H H' H2 : Hp} {d : Addr} {od : Obj} {L : Gx.NL}
theorem Lkd.of : Lkd P w H (upd H d (.frz od (DN P w d L))) d od L := ⟨upd_same, fun b u n e => by rw [upd_ne n]; exact e⟩
theorem Lkd.more (k : Lkd P w H H' d od L) (s : Same H' H2) : Lkd P w H H2 d od L := ⟨s _ _ k.at_, fun b u n e => s _ _ (k.sm b u n e)⟩
theorem Lkd.sq (k : Lkd P w H H' d od L) (e : H d = some (DN P w d L)) {a : Addr} {xs : List V} (h : SqT K H a xs) : SqT K H' a xs := by
  have ne : ∀ b u, H b = some u → (∀ φ, u ≠ .ext φ) → b ≠ d := fun b u q n z => by
    subst z
    rw [e] at q
    exact n _ (Option.some.inj q).symm
  rcases h with (h | ⟨o, h⟩) | h
  · exact .inl (.inl (k.sm _ _ (ne _ _ h fun _ z => nomatch z) h))
  · exact .inl (.inr ⟨o, k.sm _ _ (ne _ _ h fun _ z => nomatch z) h⟩)
  · exact .inr h
theorem Lkd.key (k : Lkd P w H H' d od L) (e : H d = some (DN P w d L)) {a : Addr} {q : NestedKey} (h : KeyA K H a q) : KeyA K H' a q := h.mono fun _ _ z => k.sq e z
/-- .. and unlocked again -/
theorem Lkd.back (k : Lkd P w H H' d od L) (e : H d = some (DN P w d L)) : Same H (upd H' d (DN P w d L)) := fun b u q => by
  by_cases n : b = d
  · subst n
    rw [upd_same, ← e]
    exact q
  · rw [upd_ne n]
    exact k.sm b u n q
end
theorem getN_own18 : ∀ {L : Gx.NL}, (L.map (·.1)).Nodup → ∀ {e : NestedKey × Addr × V}, e ∈ L → getN L e.1 = some e.2.2
  | [], _, _, m => by cases m
  | x :: L, nd, e, m => by
    rw [List.map_cons] at nd
    obtain ⟨n1, n2⟩ := List.nodup_cons.mp nd
    have ih := getN_own18 n2 (e := e)
    unfold getN prN at ih ⊢
    rw [List.map_cons]
    rcases List.mem_cons.mp m with rfl | m
    · exact valV_pos rfl
    · rw [valV_neg (p := (x.1, x.2.2)) (fun h => n1 (List.mem_map.mpr ⟨e, m, h.symm⟩))]
      exact ih m
theorem TabAt.at_ {K : PySem.W.Frag} {H : Hp} : ∀ {L : Gx.NL} {qs : List Pl}, TabAt K H L qs → ∀ {j : Nat} {e : NestedKey × Addr × V}, L[j]? = some e → ∃ p, qs[j]? = some p ∧ e.1 = plK p ∧ KeyA K H e.2.1 e.1 ∧ ValA H e.2.2 p
  | _, _, .nil, j, e, h => by cases h
  | _, _, .cons h t, 0, e, he => by
    cases he
    exact ⟨_, rfl, h⟩
  | _, _, .cons h t, j + 1, e, he => TabAt.at_ t he
theorem get_leaf {K : PySem.W.Frag} {H : Hp} : ∀ {L : Gx.NL} {qs : List Pl}, TabAt K H L qs → (getN L (keyT ["leaf"])).getD .non = (match leafOf qs with | some z => .str z | none => .non)
  | _, _, .nil => rfl
  | _, _, .cons (a := e) (b := p) h t => by
    have ih := get_leaf t
    unfold getN prN at ih ⊢
    rw [List.map_cons]
    cases p with
    | l z =>
      have hk : e.1 = keyT ["leaf"] := h.1
      rw [valV_pos (p := (e.1, e.2.2)) hk]
      exact h.2.2
    | k n q =>
      have hk : e.1 ≠ keyT ["leaf"] := fun q' => plK_lk (z := n) (n := n) (q := q) (show keyT ["leaf"] = plK (.k n q) from q'.symm.trans h.1)
      rw [valV_neg (p := (e.1, e.2.2)) hk]
      exact ih
theorem maksOf_mem {qs : List Pl} {m : Str × List Str} : m ∈ maksOf qs ↔ Pl.k m.1 m.2 ∈ qs := by
  unfold maksOf
  rw [List.mem_filterMap]
  constructor
  · rintro ⟨p, hp, e⟩
    cases p with
    | l z => cases e
    | k n q => cases e; exact hp
  · intro h
    exact ⟨_, h, rfl⟩
theorem maksOf_len (qs : List Pl) : (maksOf qs).length ≤ qs.length := List.length_filterMap_le _ _
theorem maksOf_nd {qs : List Pl} (nd : (qs.map plK).Nodup) : (keysOf (maksOf qs)).Nodup := by
  unfold keysOf
  induction qs with
  | nil => exact List.nodup_nil
  | cons p qs ih =>
    rw [List.map_cons, List.nodup_cons] at nd
    have i := ih nd.2
    cases p with
    | l z => exact i
    | k n q =>
      show (n :: (maksOf qs).map (·.1)).Nodup
      refine List.nodup_cons.mpr ⟨fun m => nd.1 ?_, i⟩
      obtain ⟨x, mx, e⟩ := List.mem_map.mp m
      refine List.mem_map.mpr ⟨_, maksOf_mem.mp mx, ?_⟩
      show keyT ["kind", x.1] = keyT ["kind", n]
      rw [e]
theorem leafOf_ok {qs : List Pl} (h : ∀ p ∈ qs, PlOk p) {z : Str} (e : leafOf qs = some z) : nameB z = true := by
  unfold leafOf at e
  obtain ⟨p, m, e⟩ := List.exists_of_findSome?_eq_some e
  cases p with
  | l y => cases e; exact h _ m
  | k n q => cases e
theorem pre_of {qs : List Pl} (h : ∀ p ∈ qs, PlOk p) (nd : (qs.map plK).Nodup) (l : qs.length ≤ 20) {z : Str} (e : leafOf qs = some z) : Pre z (maksOf qs) where
  lf := leafOf_ok h e
  keys := fun y m => by
    obtain ⟨x, mx, rfl⟩ := List.mem_map.mp m
    exact (h _ (maksOf_mem.mp mx)).1
  nd := maksOf_nd nd
  parts := fun m mm => by
    obtain ⟨_, a, b⟩ := h _ (maksOf_mem.mp mm)
    obtain ⟨l3, hn, hs⟩ := digB_names a
    exact ⟨hs, b, l3, hn⟩
  few := Nat.le_trans (maksOf_len qs) l
theorem MakAt.snoc {H : Hp} {kvs : List (Key × V)} {M : Mak} (h : MakAt H kvs M) {n : Str} {a : Addr} {q : List Str} (ha : TupZ H a (q.map V.str)) : MakAt H (kvs ++ [(Sum.inr n, .ref a)]) (M ++ [(n, q)]) := by
  unfold MakAt at h ⊢
  induction h with
  | nil => exact .cons ⟨rfl, a, rfl, ha⟩ .nil
  | cons h _ ih => exact .cons h ih
/-- the lines tell kinds -/
def GoodQ (qs : List Pl) : Prop := ∃ leaf, leafOf qs = some leaf ∧ Vld leaf (maksOf qs)
section
variable {P : Program} {w : World} {K : PySem.W.Frag} {mg : Str → Option Value} {base : Heap}
def spFm (K : PySem.W.Frag) (C CP Cr : Addr) : Sp := fun vs H Q E => ∃ (p : Addr) (xs : List V), vs = [.ref C, .ref p] ∧ SqT K H p xs ∧ (∀ v ∈ xs, LnV K H v) ∧ xs.length ≤ 20 ∧
  (∀ i dd H', readL [] 0 (xs.map tellV) = .inr i → Same H H' → H' dd = some (.xd [("number", .int (i : Nat))]) → E (.ref CP) (some dd) H') ∧
  (∀ qs H', readL [] 0 (xs.map tellV) = .inl qs → ¬ GoodQ qs → Same H H' → E (.ref Cr) none H') ∧
  ∀ qs leaf x md M' ns H', readL [] 0 (xs.map tellV) = .inl qs → leafOf qs = some leaf → Vld leaf (maksOf qs) → OrdOf (maksOf qs) M' → IsNames leaf (keysOf (maksOf qs)) ns → Same H H' → KindsAt C H' x md leaf M' ns → Q (.ref x) H'
theorem ok_fm {C CP Cr fI : Addr} {fdI : FuncData} (T : Top K mg) (TC : Cl_Kinds K mg C) (TX : XT_ParseError K mg CP fI) (FX : Fun K "__init__" "ParseError.__init__" s_ParseError_init fI fdI) (XO : XIK K mg Cr) (XC : XCls K Cr) : CalQS P w K mg base C "from_lines" 10 1 (spFm K C CP Cr) := by
  obtain ⟨f0, fd0, F0, kp0, b0, m0⟩ : Cal P w K mg base 7 "kinds_line" ["line"] (spKl K) := T.d_kinds_line.cal fun f fd F => ok_kl F T
  have ct : CalY P w K mg base 9 "told_by" ["lines", "tell"] (spTb P w K mg CP) := (T.d_told_by.calY fun f fd F => ok_tb F T TX FX).up (by decide)
  have cI : CalIX P w K mg base C 8 ["self", "leaf", "makings"] (fun vs H Q E => spInit C vs H Q E ∨ spInitE Cr vs H Q E) := by
    obtain ⟨f, fd, M, F, b⟩ := TC.made
    exact ⟨f, fd, M, (fnOr18 (fnLift18 (ok_init F T TC)) (ok_initE F T XO XC)).mono (by decide), b⟩
  refine TC.k_from_lines.cal (k := 9) sc_Kinds_from_lines fun f cdv A outer s H vs Q E hr h => ?_
  obtain ⟨p, xs, rfl, hp, hv, lx, qe1, qe2, q⟩ := h
  refine ⟨_, pss_cut (ps_set (i := 2) sc_Kinds_from_lines.nd rfl (.inr rfl) (pe_calY (E := fun _ => E) ct hr (by rfl) (fun σ => passAt (takes_of rfl rfl rfl rfl) σ) (pa_cons (pv 1) (pa_cons (pe_glob (v := .ref f0) (by rfl) m0 rfl) pa_nil))))
    (pss_cut (ps_lock (ps_setDcG (i := 3) (own := [("place", 4)]) (g := gName 4) (new := fun _ => .dK []) (put := putGK) newGK (fun _ _ _ _ _ => putGK_ok) (by rfl) sc_Kinds_from_lines.nd rfl rfl (sw_trueD rfl rfl rfl (by decide +kernel))
          (pi_keysN (P := P) (w := w) (K := K) (by exact ⟨rfl, rfl, rfl⟩) (pv 2))
          (blkOk_by (N := ["cls", "lines", "told", "makings", "place"]) (sc := defScope s_Kinds_from_lines) (by decide +kernel))
          (fun _ _ _ _ _ => pg_name (i := 4) sc_Kinds_from_lines.nd rfl (.inl rfl))
          (fun _ _ _ _ _ => pts_one (pt_cmpR op_eq (pe_ix (ix_tupKK (K := K) (by exact rfl)) (pv 4) pe_int (fun _ _ => rfl)) pe_str (nomark _)))
          (fun _ _ _ _ _ => pe_ix (ix_tupKK (K := K) (by exact rfl)) (pv 4) pe_int (fun _ _ => rfl))
          (fun _ _ _ _ _ => pe_nget (P := P) (w := w) (K := K) (by exact ⟨rfl, rfl, rfl⟩) (by exact hr.units) (pv 2) (pv 4) (by intro _ _; rfl))))
    (pss_one (ps_ret (pe_makeLX (i := 0) (E := fun _ => E) cI hr rfl (.inl rfl) (fun σ => passAt (takes_of rfl rfl rfl rfl) σ)
      (pa_cons (pe_nget1 (P := P) (w := w) (K := K) (by exact ⟨rfl, rfl, rfl⟩) (by exact hr.units) (pv 2) (pe_tup (pa_cons pe_str pa_nil)) (by constructor <;> rfl)) (pa_cons (pv 3) pa_nil)))))), ?_⟩
  have big : 100000 ≤ sizeLine := by decide
  -- what the lines tell
  refine ⟨fun σ' G => ∃ (D : Addr) (qs : List Pl), σ' = [some (.ref C), some (.ref p), some (.ref D), none, none] ∧ readL [] 0 (xs.map tellV) = .inl qs ∧ H D = none ∧ ToldD P w K G D qs ∧ Same H G, ?_, ?_⟩
  · exact ⟨_, rfl, p, f0, xs, rfl, m0, hp, hv, lx, qe1, fun qs D G1 hr1 nD s1 hT => ⟨D, qs, rfl, hr1, nD, hT, s1⟩⟩
  rintro σ' G1 ⟨D, qs, rfl, hr1, nD, ⟨L, eD, hT⟩, s1⟩
  obtain ⟨okq, ndq, lq⟩ := readL_ok (PP := PlOk) hr1 (fun p m => (nomatch m)) (fun o m p e => by
    obtain ⟨v, mv, rfl⟩ := List.mem_map.mp m
    exact tellW_ok e) List.nodup_nil
  have lq20 : qs.length ≤ 20 := by
    rw [lq, List.length_map]
    show 0 + _ ≤ _
    omega
  have ndL : (L.map (·.1)).Nodup := by rw [hT.keys]; exact ndq
  -- the makings
  refine ⟨fun σ' G => ∃ (D2 : Addr) (kvs : List (Key × V)), σ' = [some (.ref C), some (.ref p), some (.ref D), some (.ref D2), none] ∧ G D2 = some (.dK kvs) ∧ MakAt G kvs (maksOf qs) ∧ Same G1 G, ?_, ?_⟩
  · refine ⟨D, _, eD, True.intro, fun od => ⟨_, rfl, D, od, L, rfl, upd_same, fun D2 hD2 => ?_⟩⟩
    have hDd : D2 ≠ D := fun z => by rw [z, upd_same] at hD2; cases hD2
    have hD20 : G1 D2 = none := by rw [upd_ne hDd] at hD2; exact hD2
    refine dcG_it (new := fun _ => .dK []) (put := putGK) (walk_keysN (P := P) (w := w) (d := D) (o := od) (L := L)) (fun j G => ∃ kvs, G D2 = some (.dK kvs) ∧ MakAt G kvs (maksOf (qs.take j)) ∧ Lkd P w G1 G D od L)
      ⟨[], upd_same, .nil, Lkd.of.more (same_new (Same.refl _) hD2)⟩ (fun j G _ h => by obtain ⟨_, _, _, lk⟩ := h; exact lk.at_) (fun j u Gx G hj h hy => ?_) (fun G h => ?_)
    · obtain ⟨kvs, eD2, hM, lk⟩ := h
      obtain ⟨rfl, e0, he0, rfl⟩ := hy
      obtain ⟨p0, hp0, e1, e2, e3⟩ := hT.at_ he0
      have m0L := List.mem_of_getElem? he0
      have k0 : KeyA K G e0.2.1 e0.1 := lk.key eD e2
      have allL : ∀ e ∈ L, KeyA K G e.2.1 e.1 := fun e m => lk.key eD (hT.all e m)
      have tk : maksOf (qs.take (j + 1)) = maksOf (qs.take j) ++ maksOf [p0] := by
        unfold maksOf
        rw [List.take_add_one, hp0, List.filterMap_append]
        rfl
      cases p0 with
      | l z =>
        rw [e1] at k0
        have sq := keyT_at.mp k0
        refine ⟨rfl, _, rfl, e0.2.1, _, 0, _, rfl, rfl, sq, rfl, rfl, _, rfl, ite2 (fun c => ?_) (fun c => ?_)⟩
        · exact absurd c (by decide +kernel)
        · refine ⟨kvs, eD2, ?_, lk⟩
          rw [tk, show maksOf [Pl.l z] = [] from rfl, List.append_nil]
          exact hM
      | k n g =>
        have k0' := k0
        rw [e1] at k0'
        have sq := keyT_at.mp k0'
        obtain ⟨a, ea, ha⟩ := e3
        have haG : TupZ G a (g.map V.str) := ha.at fun o e => lk.sm a o (fun z => by obtain ⟨ob, _, e'⟩ := ha; rw [z, eD] at e'; cases e') e
        refine ⟨rfl, _, rfl, e0.2.1, _, 0, _, rfl, rfl, sq, rfl, rfl, _, rfl, ite2 (fun c => ?_) (fun c => absurd (by decide +kernel) c)⟩
        have nk : n ∉ keysOf (maksOf (qs.take j)) := fun m => by
          obtain ⟨x, mx, ex⟩ := List.mem_map.mp m
          have m1 := maksOf_mem.mp mx
          rw [ex] at m1
          obtain ⟨j', hj'⟩ := List.mem_iff_getElem?.mp m1
          rw [List.getElem?_take] at hj'
          by_cases cj : j' < j
          · rw [if_pos cj] at hj'
            have a1 : (qs.map plK)[j']? = some (keyT ["kind", n]) := by rw [List.getElem?_map, hj']; rfl
            have a2 : (qs.map plK)[j]? = some (keyT ["kind", n]) := by rw [List.getElem?_map, hp0]; rfl
            have := (List.getElem?_inj (List.getElem?_eq_some_iff.mp a1).1 ndq).mp (a1.trans a2.symm)
            omega
          · rw [if_neg cj] at hj'
            cases hj'
        have nv : valV kvs (Sum.inr n) = none := by
          rcases hM.get n with ⟨_, e⟩ | ⟨ps, b, e, _⟩
          · exact e
          · exact absurd (Classical.byContradiction fun h => by rw [lookM_none.mpr h] at e; cases e) nk
        have lk' : kvs.length ≤ 20 := by
          rw [hM.len]
          have := maksOf_len (qs.take j)
          rw [List.length_take] at this
          omega
        refine ⟨_, rfl, e0.2.1, _, 1, _, rfl, rfl, sq, rfl, _, rfl, _, rfl, D, e0.2.1, L, e0.1, .ref a, rfl, rfl, ⟨.inr ⟨od, lk.at_⟩, allL⟩, k0, by rw [getN_own18 ndL m0L, ea], kvs, Sum.inr n, rfl, eD2, by omega, ?_⟩
        rw [putK_new _ nv]
        have tz : ∀ b ys, TupZ G b ys → TupZ (upd G D2 (.dK (kvs ++ [(Sum.inr n, .ref a)]))) b ys := fun b ys h => h.at fun o e => by
          rw [upd_ne (fun z => by obtain ⟨ob, _, e'⟩ := h; rw [z, eD2] at e'; cases e')]
          exact e
        refine ⟨_, upd_same, ?_, by rw [upd_ne (Ne.symm hDd)]; exact lk.at_, fun b u n e => by rw [upd_ne (ne_of_none e hD20)]; exact lk.sm b u n e⟩
        rw [tk]
        exact MakAt.snoc (hM.same tz) (tz _ _ haG)
    · obtain ⟨kvs, eD2, hM, lk⟩ := h
      rw [hT.len, List.take_length] at hM
      refine ⟨lk.at_, D2, kvs, rfl, by rw [upd_ne hDd]; exact eD2, hM.same fun b ys h => h.at fun o e => ?_, lk.back eD⟩
      rw [upd_ne (fun z => by obtain ⟨ob, _, e'⟩ := h; rw [z, lk.at_] at e'; cases e')]
      exact e
  rintro σ' G2 ⟨D2, kvs, rfl, eD2, hM, s2⟩
  have eDD := s2 _ _ eD
  have hT2 : TabAt K G2 L qs := hT.mono (fun _ _ z => sqT_same s2 z) fun _ _ z => z.mono s2
  refine ⟨rfl, _, rfl, D, L, rfl, .inl eDD, by show 1 ≤ sizeLine; omega, fun k nk => ?_⟩
  have s3 := same_new (o := .tup [V.str "leaf"]) (Same.refl G2) nk
  have ek : (upd G2 k (.tup [V.str "leaf"])) k = some (.tup [V.str "leaf"]) := upd_same
  generalize upd G2 k (.tup [V.str "leaf"]) = G3 at *
  have hT3 : TabAt K G3 L qs := hT2.mono (fun _ _ z => sqT_same s3 z) fun _ _ z => z.mono s3
  refine ⟨k, L, keyT ["leaf"], rfl, ⟨.inl (s3 _ _ eDD), hT3.all⟩, keyT_at.mpr (SqT.of ek), ?_⟩
  have vf := get_leaf hT3
  refine ⟨_, rfl, fun x dx nx ndx hne => ?_⟩
  have tx : Same G3 (upd (upd G3 dx (.own x)) x (.ins C dx [])) := same_new (same_new (Same.refl _) ndx) (by rw [upd_ne (Ne.symm hne)]; exact nx)
  have hx : (upd (upd G3 dx (.own x)) x (.ins C dx [])) x = some (.ins C dx []) := upd_same
  generalize upd (upd G3 dx (.own x)) x (.ins C dx []) = G5 at *
  have s25 := s3.trans tx
  have s05 : Same H G5 := s1.trans (s2.trans s25)
  have hM5 : MakAt G5 kvs (maksOf qs) := hM.same fun _ _ z => z.mono s25
  have eD5 := s25 _ _ eD2
  generalize (getN L (keyT ["leaf"])).getD .non = a at *
  cases hf : leafOf qs with
  | none =>
    rw [hf] at vf
    exact .inr ⟨x, a, D2, kvs, maksOf qs, rfl, .inl vf, eD5, hM5, fun H' s => qe2 qs H' hr1 (fun ⟨_, h, _⟩ => by rw [hf] at h; cases h) (s05.trans s)⟩
  | some leaf =>
    rw [hf] at vf
    have vf : a = .str leaf := vf
    by_cases c : Vld leaf (maksOf qs)
    · rw [vf]
      refine .inl ⟨x, dx, leaf, D2, kvs, maksOf qs, rfl, hx, eD5, hM5, c, fun H' md M' ns hk ho hn nmd sx => ⟨rfl, q qs leaf x md M' ns H' hr1 hf c ho hn (fun b u e => sx b u (ne_of_none (s3 _ _ (s2 _ _ (s1 _ _ e))) nx) (s05 _ _ e)) hk⟩⟩
    · refine .inr ⟨x, a, D2, kvs, maksOf qs, rfl, .inr ⟨leaf, vf, pre_of okq ndq lq20 hf, c⟩, eD5, hM5, fun H' s => qe2 qs H' hr1 (fun ⟨l', h1, h2⟩ => ?_) (s05.trans s)⟩
      rw [hf] at h1
      cases h1
      exact c h2
end
end Kl

set_option maxRecDepth 100000
set_option maxHeartbeats 4000000
namespace Gx
open PySem PySem.Spec PyProof.Rows L2 ClX
/-! ### C.m(), m a classmethod with a star parameter behind the class, without arguments -/
section
variable {X : Cx} {C : Addr} {k n : Nat} {sp : Sp} {E : L2.St → XK}
def tCMethS0 (C : Addr) (sp : Sp) (E : L2.St → XK) (ta : TE) : TE := fun σ H Q => ta σ H fun x H1 => x = .ref C ∧ ∀ p, H1 p = none → sp [.ref C, .ref p] (upd H1 p (.tup [])) Q (E σ)
theorem pe_cmS0 {m : Str} {o : Expr} {ta : TE} {pos apos : Pos} {pl : Sem Bool} (he : PE X o ta) (c : CalQS X.prog X.w X.K X.mg X.base C m k 1 sp) (hr : Room k X.A) (hx : ∀ σ, PassesAt (L2.CX X.prog X.w) X σ (E σ))
    (ht : eval (.Call (.Attribute o m apos) [] [] pos) X.env = (do
      let ov ← eval o X.env
      standAt apos.atName
      let (f, first) ← holding [ov] (getMethod ov m pl)
      callWith pos f first (backTo pos (starEach [] X.env)) (backToKw pos (keywordEach [] X.env))) := by rfl) :
    PE X (.Call (.Attribute o m apos) [] [] pos) (tCMethS0 C sp E ta) := by
  obtain ⟨p, g, r, c, F⟩ := c
  refine ⟨fun pins s σ H Q I h => ?_⟩
  refine PySem.W.methodCall_KW (pl := pl) (thn (he.run pins s σ H _ I h) fun u s1 ⟨x, H1, I1, rx, ex, q⟩ => ?_) ht
  subst ex
  obtain rfl : u = Value.ref C := rx
  refine getmethcm_ok I1 r c fun s2 I2 => ?_
  exact PySem.W.callWith_M0 ⟨pin_at I2, I2.kIn⟩ c.fi (run_cmS F hr (hx σ) I2 .nil ⟨[.ref C], [], rfl, rfl, Nat.zero_le _, q⟩)
end
end Gx

set_option maxRecDepth 100000
set_option maxHeartbeats 4000000
/-! ### own rules: lambdas without parameters that are held as values, and called by whichever expression gives one -/
namespace Gx
open PySem PySem.Spec PyProof.Rows L2 LamX
/-- the object at f is the function that a lambda has made; its code object is the one at c' -/
def FnO (f c' : Addr) (q : Str) (params : Arguments) (body : Expr) (scope : Scope) (cl : List (Str × Addr)) : HO := .ext fun h => ∃ pm ctv : Value, h.get? f = some (PySem.W.kla_obj "<lambda>" q params body scope cl pm c' ctv)
/-- v is a lambda of these -/
def LamV (X : Cx) (H : Hp) (v : V) (params : Arguments) (body : Expr) (scope : Scope) : Prop := ∃ f c' : Addr, v = .ref f ∧ H f = some (FnO f c' (X.env.qual ++ "<lambda>") params body scope (cloFrom X.env.cells scope.names [])) ∧ H c' = some (CodeO c' (X.env.qual ++ "<lambda>"))
theorem LamV.ext {X : Cx} {H H' : Hp} {v : V} {params : Arguments} {body : Expr} {scope : Scope} (h : LamV X H v params body scope) (s : ExtN H H') : LamV X H' v params body scope := by
  obtain ⟨f, c', e, h1, h2⟩ := h
  exact ⟨f, c', e, s _ _ h1 (fun ps z => by unfold FnO at z; cases z), s _ _ h2 codeO_ne⟩
section
variable {X : Cx} {pins : List (Addr × Obj)} {σ : L2.St} {H : Hp} {s : Shared}
theorem lam_makeH {T : List (Addr × Str)} {c P : Addr} {params : Arguments} {body : Expr} {scope : Scope} {pos : Pos} {E : Value → Shared → Prop} {Q : Value → Shared → Prop} (I : Inv X pins σ H s) (TB : TabB X.base X.mg c P) (hcode : X.env.code = .ref c)
    (hm : (P, X.env.qual ++ "<lambda>") ∈ T) (hu : ∀ p ∈ T, p.1 = P → p.2 = X.env.qual ++ "<lambda>") (hT : Tabs T H) (hdef : defaultsOf params X.env = ([], [])) (hfree : ∀ y ∈ scope.names, y.2 = .free → ∃ c, X.env.cells.lookup y.1 = some c)
    (h : ∀ (v : V) (u : Value) (H1 : Hp) (s' : Shared), Inv X pins σ H1 s' → ExtN H H1 → Tabs T H1 → RelV v u → LamV X H1 v params body scope → Q u s') :
    wpAny (model X.prog X.w) X.A (eval (.Lambda params body scope pos) X.env) Q E s := by
  obtain ⟨ps, hP, ht, ha⟩ := hT _ hm
  refine PySem.W.kla_eval hdef ?_
  have bP : s.heap.BuiltinsAt X.mg P := TB.bm.keeps I.bk
  have hP' : s.heap.get? P = some { cls := .none, data := .fields ps } := I.hok P _ hP
  have last : ∀ (h1 : Heap) (t1 : Nat) (G : Hp) (c' : Addr) (pm ctv : Value), Inv X pins σ G { s with heap := h1, toks := t1 } → ExtN H G → Tabs T G → G c' = some (CodeO c' (X.env.qual ++ "<lambda>")) →
      Q (.ref h1.objs.size) { s with heap := h1.push (PySem.W.kla_obj "<lambda>" (X.env.qual ++ "<lambda>") params body scope (cloFrom X.env.cells scope.names []) pm c' ctv), toks := t1 } := fun h1 t1 G c' pm ctv J eG tG hc => by
    have nf : G h1.objs.size = none := J.hok.fresh (Nat.le_refl _)
    have ob : (h1.push (PySem.W.kla_obj "<lambda>" (X.env.qual ++ "<lambda>") params body scope (cloFrom X.env.cells scope.names []) pm c' ctv)).get? h1.objs.size = some (PySem.W.kla_obj "<lambda>" (X.env.qual ++ "<lambda>") params body scope (cloFrom X.env.cells scope.names []) pm c' ctv) := Heap.get?_push_size _ rfl
    have st : ∀ b o, G b = some o → (upd G h1.objs.size (FnO h1.objs.size c' (X.env.qual ++ "<lambda>") params body scope (cloFrom X.env.cells scope.names []))) b = some o := fun b o e => by rw [upd_ne (ne_of_none e nf)]; exact e
    have K := J.laid (t' := t1) (a := h1.objs.size) (o := FnO h1.objs.size c' (X.env.qual ++ "<lambda>") params body scope (cloFrom X.env.cells scope.names [])) (h' := h1.push (PySem.W.kla_obj "<lambda>" (X.env.qual ++ "<lambda>") params body scope (cloFrom X.env.cells scope.names []) pm c' ctv))
      (fun b u e => Heap.get?_push_of_some _ e) (Nat.le_refl _) ⟨⟨pm, ctv, ob⟩, ⟨_, ob⟩, fun h2 h3 ⟨pm, ctv, z⟩ k => ⟨pm, ctv, k _ z⟩⟩
    exact h (.ref h1.objs.size) (.ref h1.objs.size) _ _ K (eG.trans (ExtN.of st)) (Tabs.ext tG st) rfl ⟨_, c', rfl, upd_same, st _ _ hc⟩
  cases hc : codeAmong pos ps.toList with
  | none =>
    refine PySem.W.kla_makeFunction (mg := X.mg) (c := c) (P := P) (ps := ps) (closure_ok hfree) I.ok.glob (I.mod.glob.keeps I.bk) hcode (TB.code.keeps I.bk) hP' ht hc TB.gP bP fun c' ctv h' tk hx hge hlt hrec htb => ?_
    obtain ⟨c2, oc, vs, t, e2, hoc, hd, hv⟩ := hrec
    cases e2
    have nC : H c' = none := I.hok.fresh hge
    have J := inv_table (t' := tk) (more := #[rawInt pos.line, rawInt pos.col, .ref c']) (h' := h') I hP hx htb hge ⟨oc, vs, t, hoc, hd, hv⟩
    have hE : ExtN H (upd (upd H P (.tbl (ps ++ #[rawInt pos.line, rawInt pos.col, .ref c']))) c' (CodeO c' (X.env.qual ++ "<lambda>"))) := fun b o e n => by
      rw [upd_ne (ne_of_none e nC), upd_ne (fun z => n ps (Option.some.inj (e.symm.trans (by rw [z]; exact hP))))]
      exact e
    have eL : (ps ++ #[rawInt pos.line, rawInt pos.col, .ref c']).toList = ps.toList ++ [rawInt pos.line, rawInt pos.col, .ref c'] := by simp
    refine last h' tk _ c' _ ctv J hE (fun p hp => ?_) upd_same
    by_cases hb : p.1 = P
    · rw [hu p hp hb, hb]
      refine ⟨_, by rw [upd_ne (ne_of_none hP nC), upd_same], by rw [eL]; exact PySem.TriplesOk_snoc _ _ _ _ ht, fun p' cv hcv => ?_⟩
      rw [eL] at hcv
      rcases among_app _ ht hcv with z | z
      · obtain ⟨c0, e1, e2⟩ := ha p' cv z
        exact ⟨c0, e1, hE _ _ e2 codeO_ne⟩
      · exact ⟨c', z, upd_same⟩
    · obtain ⟨ps', a1, a2, a3⟩ := hT p hp
      refine ⟨ps', by rw [upd_ne (ne_of_none a1 nC), upd_ne hb]; exact a1, a2, fun p' cv hcv => ?_⟩
      obtain ⟨c0, e1, e2⟩ := a3 p' cv hcv
      exact ⟨c0, e1, hE _ _ e2 codeO_ne⟩
  | some cv =>
    obtain ⟨c', e, hco⟩ := ha pos cv hc
    subst e
    refine PySem.W.kla_makeFunctionHit (mg := X.mg) (c := c) (P := P) (ps := ps) (closure_ok hfree) I.ok.glob (I.mod.glob.keeps I.bk) hcode (TB.code.keeps I.bk) hP' ht hc bP fun ctv h' tk hx hsz => ?_
    have J : Inv X pins σ H { s with heap := h', toks := tk } := I.kept hx
    exact last h' tk H c' _ ctv J (ExtN.refl H) hT hco
/-- lambda: body, as a value -/
def tLamV (X : Cx) (T : List (Addr × Str)) (params : Arguments) (body : Expr) (scope : Scope) : TE := fun σ H Q => Tabs T H ∧ ∀ v H1, ExtN H H1 → Tabs T H1 → LamV X H1 v params body scope → Q v H1
theorem pe_lamV {T : List (Addr × Str)} {c P : Addr} {params : Arguments} {body : Expr} {scope : Scope} {pos : Pos} (TB : TabB X.base X.mg c P) (hcode : X.env.code = .ref c)
    (hm : (P, X.env.qual ++ "<lambda>") ∈ T) (hu : ∀ p ∈ T, p.1 = P → p.2 = X.env.qual ++ "<lambda>") (L : LamS X.env.scope scope) (hdef : defaultsOf params X.env = ([], [])) : PE X (.Lambda params body scope pos) (tLamV X T params body scope) := by
  refine ⟨fun pins s σ H Q I h => ?_⟩
  exact lam_makeH I TB hcode hm hu h.1 hdef (L.has I.ok) fun v u H1 s' I1 eN tN r lv => ⟨v, H1, I1, r, h.2 v H1 eN tN lv⟩
/-- e(), e giving one of these lambdas; called in the def that has made it -/
def tCallLam (X : Cx) (L : Nat → Arguments × Expr × Scope) (t : Nat → XK → TE) (E : L2.St → XK) (te : TE) : TE := fun σ H Q => te σ H fun x H1 => ∃ i, LamV X H1 x (L i).1 (L i).2.1 (L i).2.2 ∧ t i (E σ) σ H1 Q
theorem pe_callLam {L : Nat → Arguments × Expr × Scope} {t : Nat → XK → TE} {E : L2.St → XK} {te : TE} {e : Expr} {pos : Pos} {k : Nat} (he : PE X e te) (hr : Room (k + 1) X.A) (hx : ∀ σ, PassesAt (L2.CX X.prog X.w) X σ (E σ))
    (hS : ∀ i, LamS X.env.scope (L i).2.2) (hbind : ∀ (i : Nat) (q : Str) (cl : List (Str × Addr)) (pm cv ctv : Value), bindArgs (PySem.W.kla_fn "<lambda>" q (L i).1 (L i).2.1 (L i).2.2 cl pm cv ctv) ⟨[], []⟩ = pure [])
    (hbody : ∀ (i : Nat) (s : Shared) (H : Hp) (E : XK) (f c' : Addr), Room k (X.A.deeper (lamEnv X (L i).2.2 s.heap.objs.size f c')) → PE (lamCx X X.A X.stack s H E (L i).2.2 f c') (L i).2.1 (t i E))
    (hev : eval (.Call e [] [] pos) X.env = (do callWith pos (← eval e X.env) [] (backTo pos (starEach [] X.env)) (backToKw pos (keywordEach [] X.env))) := by rfl) :
    PE X (.Call e [] [] pos) (tCallLam X L t E te) := by
  refine ⟨fun pins s σ H Q I h => ?_⟩
  refine Call_ (thn (he.run pins s σ H _ I h) fun u s1 ⟨x, H1, I1, r, i, ⟨f, c', ex, hf, hc⟩, ht⟩ => ?_) hev
  subst ex
  obtain rfl : u = Value.ref f := r
  obtain ⟨⟨pm, ctv, of1⟩, _, _⟩ := I1.hok f _ hf
  refine PySem.W.callWith_F0 ⟨_, _, _, _, of1⟩ ?_
  obtain ⟨⟨oc, vs, tk, hoc, hdc, hvc⟩, _, _⟩ := I1.hok c' _ hc
  have rc : codeAny (model X.prog X.w) X.A (.call (.ref f) ⟨[], []⟩) (CR (L2.CX X.prog X.w) X.stack X.prog X.w H1 s1 Q (E σ)) s1 := by
    refine PySem.W.kla_callFunE hr.depth of1 rfl (hS i).co (hS i).gen rfl ⟨c', oc, vs, tk, rfl, hoc, hdc, hvc⟩ ?_
    rw [hbind]
    refine wpAny_pure (wpAny_newFunctionEnv (fun y hy => ((hS i).own y hy).2) (fun y hy => absurd hy (by simp)) (fun h₁ hns hsb => ⟨I1.nolimit.fresh _ hsb, ?_⟩) (hS i).kind)
    show codeAny _ _ (.expr (L i).2.1 (lamEnv X (L i).2.2 s1.heap.objs.size f c')) _ _
    have kp : ∀ b o, s1.heap.get? b = some o → h₁.get? b = some o := fun b o e => hsb.extBut b o (Nat.ne_of_lt (Heap.lt_size e)) (Heap.get?_push_of_some _ e)
    have J : Inv (lamCx X X.A X.stack s1 H1 (E σ) (L i).2.2 f c') [] σ H1 { s1 with heap := h₁, toks := s1.toks + ([] : List (Str × Value)).length } :=
      lam_start2 I1 (hS i) I1.env0 hr.hd (Un.kept fun _ _ e => e) hns kp
    refine PySem.W.kla_codeExpr (wpAny_mono ((hbody i s1 H1 (E σ) f c' (hr.deeper _)).run [] _ _ H1 Q J ht) (fun v s' hq => ?_) fun e s' hq => hq)
    obtain ⟨w', H', J', rv, q⟩ := hq
    exact ⟨w', H', J'.os, J'.bare, J'.base, J'.hok, rv, q⟩
  refine wpAny_call (codeAny_mono rc fun r s' hq => ?_)
  cases r with
  | error e => exact hx σ pins H1 s1 e s' I1 hq
  | ok fl =>
    cases fl with
    | ret u => exact I1.after hq
    | next => exact False.elim hq
    | brk => exact False.elim hq
    | cont => exact False.elim hq
end
/-- a def that makes lambdas and may raise; its code object is at c -/
theorem okXL {P : Program} {w : World} {K : PySem.W.Frag} {mg : Str → Option Value} {base : Heap} {x qual : Str} {st : Stmt} {f c : Addr} {fd : FuncData} {N ps : List Str} {k : Nat} {sp : Sp} (F : Fun K x qual st f fd) (hc : fd.code = .ref c) (S : FnScope N ps (defScope st)) (len : ∀ vs H Q E, sp vs H Q E → vs.length = ps.length)
    (hbody : ∀ (A : Around) (outer : List Env) (s : Shared) (H : Hp) (vs : List V) (Q : VK) (E : XK), Room k (A.deeper (envOfC qual (defScope st) s.heap.objs.size f (.ref c))) → sp vs H Q E →
      ∃ t, PSs (cxOf (L2.CX P w) P w K mg base N qual (defScope st) f (.ref c) A outer s H E) (defBody st) t ∧ t { nx := fun _ H' => Q .non H', rt := Q } (start N vs) H) : FnOk P w K mg base (L2.CX P w) (k + 1) f fd ps sp := by
  obtain ⟨oc, od, kV, doc, pm, an, cdv, ct, osl, rfl, lk, hcd⟩ := F.ex
  have e : cdv = .ref c := hc
  subst e
  exact fn_of lk hcd S len fun A outer s H vs Q E hr hsp => hbody A outer s H vs Q E hr hsp
theorem LamV.upd_ {X : Cx} {H : Hp} {v : V} {params : Arguments} {body : Expr} {scope : Scope} {l : Addr} {xs : List V} {o : HO} (h : LamV X H v params body scope) (e : H l = some (.lst xs)) : LamV X (upd H l o) v params body scope := by
  obtain ⟨f, c', ev, h1, h2⟩ := h
  exact ⟨f, c', ev, by rw [upd_ne (fun z => by rw [z, e] at h1; unfold FnO at h1; cases (Option.some.inj h1))]; exact h1, by rw [upd_ne (fun z => by rw [z, e] at h2; unfold CodeO at h2; cases (Option.some.inj h2))]; exact h2⟩
end Gx

set_option maxRecDepth 100000
set_option maxHeartbeats 4000000
namespace Kl
open PySem PySem.Spec PyProof.Rows L2 Gx Mx
section
variable {P : Program} {w : World} {K : PySem.W.Frag} {mg : Str → Option Value} {base : Heap}
/-! ### the law's dice -/
def spDice (K : PySem.W.Frag) : Sp := fun vs H Q _ => ∃ (a : Addr) (ns : List Int) (i : Nat), vs = [.ref a, .int i] ∧ SqL K H a (ns.map V.int) ∧ ns.length ≤ 63 ∧ i ≤ 1000 ∧
  ∀ (p : Addr) (x b : Int), H p = none → Q (.ref p) (upd H p (.lst [.int x, .int b, .int 0]))
theorem ok_dice {f : Addr} {fd : FuncData} (F : Fun K "_law_dice" "_law_dice" s_law_dice f fd) (T : Top K mg) : FnOk P w K mg base CX0 1 f fd ["_law_script", "_law_spot"] (spDice K) := by
  refine F.ok sc_law_dice (fun vs H Q E h => ?_) (fun cdv A outer s H vs Q E hr h => ?_)
  · obtain ⟨a, ns, i, rfl, _⟩ := h
    rfl
  · obtain ⟨a, ns, i, rfl, hS, hlen, hi, q⟩ := h
    refine ⟨_, pss_cut (ps_set (i := 2) sc_law_dice.nd rfl (.inl rfl) (pe_ifExp
        (pt_cmpR op_lt (pv 1) (pe_callB call_len_seq (by rfl) T.b_len PySem.boot_len (pa_cons (pv 0) pa_nil)) (nomark _))
        (pe_callTy call_int1 (by rfl) T.b_int (by decide +kernel) (pa_cons (pe_ix ix_list (pv 0) (pv 1) (fun _ _ => rfl)) pa_nil))
        (pe_op op_add (pe_op op_mul pe_int (pv 1)) pe_int)))
      (pss_cons (ps_set (i := 3) sc_law_dice.nd rfl (.inl rfl) (pe_op op_mod
        (pe_callB (call_max2 rfl) (by rfl) T.b_max (by decide +kernel) (pa_cons pe_int (pa_cons (pe_op op_sub
          (pe_callB call_abs (by rfl) T.b_abs (by decide +kernel) (pa_cons (pv 2) pa_nil)) (pe_op op_pow pe_int pe_int)) pa_nil)))
        (pe_op op_mulW (pe_op op_pow pe_int pe_int) (pe_op op_pow pe_int pe_int))))
      (pss_one (ps_ret (pe_lst (pa_cons (pv 3) (pa_cons
        (pe_op op_add (pe_op op_add (pe_op op_add (pe_op op_mul (pe_op op_mod (pe_callB call_abs (by rfl) T.b_abs (by decide +kernel) (pa_cons (pv 2) pa_nil)) pe_int) pe_int)
          (pe_op op_mul pe_int (pv 1)))
          (pe_op op_mul pe_int (pe_callTy call_int1 (by rfl) T.b_int (by decide +kernel) (pa_cons (pe_cmpR op_lt (pv 2) pe_int (nomark _)) pa_nil)))) pe_int)
        (pa_cons pe_int pa_nil))))))), ?_⟩
    refine ⟨fun σ' H' => ∃ c : Int, σ' = [some (.ref a), some (.int i), some (.int c), none] ∧ H' = H, ?_, ?_⟩
    · refine ⟨_, rfl, .ref a, rfl, a, _, rfl, .inl hS, _, _, rfl, rfl, _, rfl, ite2 (fun e => ?_) (fun e => ?_)⟩
      · have e' : i < ns.length := by
          have := of_decide_eq_true e
          rw [List.length_map] at this
          omega
        refine ⟨.ref a, rfl, .int i, rfl, a, _, _, .int ns[i], rfl, rfl, hS, atI_nat (by rw [List.getElem?_map, List.getElem?_eq_getElem e']; rfl), .inl ⟨_, rfl, ns[i], rfl, rfl⟩⟩
      · refine ⟨_, rfl, _, _, rfl, rfl, .inl ⟨by decide, by decide⟩, _, _, rfl, rfl, _, rfl, rfl⟩
    · rintro σ' H' ⟨c, rfl, rfl⟩
      refine ⟨_, rfl, _, rfl, ?_⟩
      refine ⟨_, _, rfl, rfl, ⟨by decide, by decide, by decide⟩, ?_⟩
      refine ⟨_, _, rfl, rfl, ?_⟩
      refine ⟨_, _, rfl, ?_⟩
      refine ⟨_, _, rfl, rfl, ⟨by decide, by decide, by decide⟩, ?_⟩
      refine ⟨_, _, rfl, rfl, ⟨by decide, by decide, by decide⟩, ?_⟩
      refine ⟨_, _, rfl, rfl, wide_mul (a := 200) (b := 200) (by decide) (by decide) (by decide) (by decide) (by decide), ?_⟩
      refine ⟨_, _, rfl, rfl, by show (0 : Int) < _; decide, ?_⟩
      generalize (if (if c < 0 then -c else c) - 10 ^ Int.toNat 17 > 0 then (if c < 0 then -c else c) - 10 ^ Int.toNat 17 else 0) % (10 ^ Int.toNat 60 * 10 ^ Int.toNat 60) = left
      refine ⟨_, rfl, _, rfl, _, rfl, _, _, rfl, rfl, by show (0 : Int) < _; decide, _, _, rfl, rfl, .inr ⟨by decide, by decide⟩, ?_⟩
      refine ⟨_, rfl, _, _, rfl, rfl, .inl ⟨by decide, by decide⟩, _, _, rfl, rfl, _, rfl, _, _, rfl, rfl, .inr ⟨_, rfl, ?_⟩⟩
      refine ⟨_, _, rfl, rfl, .inl ⟨by decide, by decide⟩, _, _, rfl, rfl, _, _, rfl, rfl, by show 3 ≤ sizeLine; decide, fun p hp => ?_⟩
      exact q p _ _ hp
def spRoll : Sp := fun vs H Q _ => ∃ (d : Addr) (t : Int), vs = [.ref d, .int t] ∧ DiceAt H d ∧ 0 < t ∧ t.natAbs.log2 < 9000 ∧
  ∀ (r x b c : Int), 0 ≤ r → r < t → Q (.int r) (upd H d (.lst [.int x, .int b, .int c]))
theorem ok_roll {f : Addr} {fd : FuncData} (F : Fun K "_law_roll" "_law_roll" s_law_roll f fd) (T : Top K mg) : FnOk P w K mg base CX0 1 f fd ["_law_dice_here", "_law_total"] spRoll := by
  refine F.ok sc_law_roll (fun vs H Q E h => ?_) (fun cdv A outer s H vs Q E hr h => ?_)
  · obtain ⟨d, t, rfl, _⟩ := h
    rfl
  · obtain ⟨d, t, rfl, ⟨x, b, c, hd⟩, ht, ht2, q⟩ := h
    refine ⟨_, pss_cons (ps_if (pt_cmpR op_gt (pe_ix ix_list (pv 0) pe_int (fun _ _ => rfl)) pe_int (nomark _))
        (pss_cons (ps_set (i := 2) sc_law_roll.nd rfl (.inl rfl) (pe_op op_mod (pe_callTy call_int1 (by rfl) T.b_int (by decide +kernel) (pa_cons (pe_ix ix_list (pv 0) pe_int (fun _ _ => rfl)) pa_nil)) (pv 1)))
        (pss_cons (ps_asg (pe_op op_fdivW (pe_ix ix_list (pv 0) pe_int (fun _ _ => rfl)) (pv 1)) (pg_sub (pv 0) pe_int set_list))
        (pss_one (ps_ret (pv 2))))) pss_nil)
      (pss_cons (ps_asg (pe_op op_add (pe_ix ix_list (pv 0) pe_int (fun _ _ => rfl)) pe_int) (pg_sub (pv 0) pe_int set_list))
      (pss_cons (ps_set (i := 3) sc_law_roll.nd rfl (.inl rfl) (pe_op op_mod (pe_callTy call_int1 (by rfl) T.b_int (by decide +kernel) (pa_cons
        (pe_op op_add (pe_ix ix_list (pv 0) pe_int (fun _ _ => rfl)) (pe_op op_mul pe_int (pe_ix ix_list (pv 0) pe_int (fun _ _ => rfl)))) pa_nil)) pe_int))
      (pss_cons (ps_set (i := 4) sc_law_roll.nd rfl (.inl rfl) (pe_op op_add (pe_op op_mul (pe_op op_mod (pe_callTy call_int1 (by rfl) T.b_int (by decide +kernel) (pa_cons
        (pe_op op_add (pe_op op_mul (pv 3) (pv 3)) (pe_op op_mul pe_int (pe_ix ix_list (pv 0) pe_int (fun _ _ => rfl)))) pa_nil)) pe_int) pe_int) (pv 3)))
      (pss_one (ps_ret (pe_op op_mod (pe_callTy call_int1 (by rfl) T.b_int (by decide +kernel) (pa_cons (pe_op op_fdiv (pv 4) pe_int) pa_nil)) (pv 1))))))), ?_⟩
    have at0 : ∀ (x y z : V), atI [x, y, z] 0 = some x := fun x y z => atI_nat (j := 0) rfl
    have at1 : ∀ (x y z : V), atI [x, y, z] 1 = some y := fun x y z => atI_nat (j := 1) rfl
    have at2 : ∀ (x y z : V), atI [x, y, z] 2 = some z := fun x y z => atI_nat (j := 2) rfl
    have hS : SqL K H d [.int x, .int b, .int c] := .inl (.inl hd)
    refine ⟨_, rfl, d, _, _, _, rfl, rfl, hS, at0 _ _ _, _, _, rfl, rfl, _, rfl, ite2 (fun e => ?_) (fun e => ?_)⟩
    · refine ⟨_, rfl, d, _, _, _, rfl, rfl, hS, at0 _ _ _, .inl ⟨_, rfl, _, rfl, _, _, rfl, rfl, ht, ?_⟩⟩
      refine ⟨_, rfl, d, _, _, _, rfl, rfl, hS, at0 _ _ _, _, rfl, _, _, rfl, rfl, ⟨ht, ht2⟩, ?_⟩
      refine ⟨_, rfl, d, _, _, 0, rfl, rfl, hd, rfl, ?_⟩
      refine ⟨_, rfl, ?_⟩
      exact q _ _ _ _ (Int.emod_nonneg _ (by omega)) (Int.emod_lt_of_pos _ ht)
    · refine ⟨_, rfl, d, _, _, _, rfl, rfl, hS, at2 _ _ _, _, _, rfl, rfl, ?_⟩
      refine ⟨_, rfl, d, _, _, 2, rfl, rfl, hd, rfl, ?_⟩
      have hd1 : (upd H d (.lst ([V.int x, V.int b, V.int c].set 2 (.int (c + 1))))) d = some (.lst [V.int x, V.int b, V.int (c + 1)]) := upd_same
      have hS1 : SqL K (upd H d (.lst ([V.int x, V.int b, V.int c].set 2 (.int (c + 1))))) d [V.int x, V.int b, V.int (c + 1)] := .inl (.inl hd1)
      refine ⟨_, rfl, d, _, _, _, rfl, rfl, hS1, at1 _ _ _, _, rfl, d, _, _, _, rfl, rfl, hS1, at2 _ _ _, _, _, rfl, rfl, .inl ⟨by decide, by decide⟩, _, _, rfl, rfl, .inl ⟨_, rfl, ?_⟩⟩
      refine ⟨_, _, rfl, rfl, by show (0 : Int) < _; decide, ?_⟩
      have h1 := Int.emod_nonneg (b + 7919 * (c + 1)) (show (2305843009213693907 : Int) ≠ 0 by decide)
      have h2 := Int.emod_lt_of_pos (b + 7919 * (c + 1)) (show (0 : Int) < 2305843009213693907 by decide)
      generalize (b + 7919 * (c + 1)) % 2305843009213693907 = one at h1 h2
      refine ⟨_, rfl, _, rfl, _, _, rfl, rfl, .inl ⟨by omega, by omega⟩, _, rfl, d, _, _, _, rfl, rfl, hS1, at2 _ _ _, _, _, rfl, rfl, .inl ⟨by decide, by decide⟩, _, _, rfl, rfl, .inl ⟨_, rfl, ?_⟩⟩
      refine ⟨_, _, rfl, rfl, by show (0 : Int) < _; decide, _, _, rfl, rfl, .inr ⟨by decide, by decide⟩, _, rfl, _, _, rfl, rfl, ?_⟩
      refine ⟨_, rfl, _, _, rfl, rfl, ⟨by decide, by decide⟩, .inl ⟨_, rfl, _, rfl, _, _, rfl, rfl, ht, ?_⟩⟩
      exact q _ _ _ _ (Int.emod_nonneg _ (by omega)) (Int.emod_lt_of_pos _ ht)
/-- what may be picked from: the items of a list, a tuple, a text -/
def Items (K : PySem.W.Frag) (H : Hp) (d : Addr) (x : V) (xs : List V) : Prop :=
  (∃ p, x = .ref p ∧ p ≠ d ∧ (SqL K H p xs ∨ SqT K H p xs)) ∨ ∃ z : Str, x = .str z ∧ xs = signV z ∧ z.length ≤ sizeLine
def spPick (K : PySem.W.Frag) : Sp := fun vs H Q _ => ∃ (d : Addr) (x : V) (xs : List V), vs = [.ref d, x] ∧ DiceAt H d ∧ Items K H d x xs ∧ xs ≠ [] ∧ xs.length ≤ 100000 ∧
  ∀ (v : V) (x b c : Int), v ∈ xs → Q v (upd H d (.lst [.int x, .int b, .int c]))
theorem log2_small {n : Nat} (h : n ≤ 100000) : ((n : Int).natAbs).log2 < 9000 := by
  have h1 : ((n : Int).natAbs) < 2 ^ 20 := by
    rw [Int.natAbs_natCast]
    exact Nat.lt_of_le_of_lt h (by decide)
  exact Nat.lt_of_lt_of_le (PySem.Flt.log2_lt_of (by decide) h1) (by decide)
theorem ok_pick {f : Addr} {fd : FuncData} (F : Fun K "_law_pick" "_law_pick" s_law_pick f fd) (T : Top K mg) : FnOk P w K mg base CX0 2 f fd ["_law_dice_here", "_law_items"] (spPick K) := by
  have cr : Cal P w K mg base 1 "_law_roll" ["_law_dice_here", "_law_total"] spRoll := T.d_law_roll.cal fun f fd F => ok_roll F T
  refine F.ok sc_law_pick (fun vs H Q E h => ?_) (fun cdv A outer s H vs Q E hr h => ?_)
  · obtain ⟨d, x, xs, rfl, _⟩ := h
    rfl
  · obtain ⟨d, x, xs, rfl, hd, hI, hne, hlen, q⟩ := h
    refine ⟨_, pss_one (ps_ret (pe_ix ix_seq (pv 1) (pe_cal cr hr (by rfl) (pa_cons (pv 0) (pa_cons (pe_callB call_len (by rfl) T.b_len PySem.boot_len (pa_cons (pv 1) pa_nil)) pa_nil))) (fun _ _ => rfl))), ?_⟩
    have hpos : 0 < xs.length := List.length_pos_iff.mpr hne
    rcases hI with ⟨p, rfl, hp, hs⟩ | ⟨z, rfl, rfl, hz⟩
    · refine ⟨_, rfl, _, rfl, _, rfl, _, (xs.length : Nat), rfl, ?_, ?_⟩
      · rcases hs with hs | hs
        · exact .inl ⟨_, hs, rfl⟩
        · exact .inr ⟨_, hs, rfl⟩
      · refine ⟨d, _, rfl, hd, by omega, log2_small hlen, fun r x b c h0 h1 => ?_⟩
        obtain ⟨v, hv, ha⟩ := atI_int (xs := xs) h0 h1
        rcases hs with hs | hs
        · exact .inl ⟨p, _, _, v, rfl, rfl, sqL_ne hp hs, ha, q v x b c hv⟩
        · exact .inr (.inl ⟨p, _, _, v, rfl, rfl, sqT_ne hp hs, ha, q v x b c hv⟩)
    · have hlz := signV_len z
      refine ⟨_, rfl, _, rfl, _, rfl, _, (z.length : Nat), rfl, ⟨hz, rfl⟩, ?_⟩
      refine ⟨d, _, rfl, hd, by omega, log2_small (by omega), fun r x b c h0 h1 => ?_⟩
      obtain ⟨v, hv, ha⟩ := atI_int (xs := z.cps.toList) h0 (by rw [Array.length_toList]; exact h1)
      exact .inr (.inr ⟨z, r, v, rfl, rfl, hz, ha, q _ x b c (List.mem_map.mpr ⟨_, hv, rfl⟩)⟩)
end
end Kl

set_option maxRecDepth 100000
set_option maxHeartbeats 4000000
namespace Kl
open PySem PySem.Spec PyProof.Rows L2 Gx Mx
/-! ### all but the dice stays -/
/-- all but what stands at d is as it was -/
def SameX (d : Addr) (H H' : Hp) : Prop := ∀ b o, b ≠ d → H b = some o → H' b = some o
theorem SameX.refl (d : Addr) (H : Hp) : SameX d H H := fun _ _ _ e => e
theorem SameX.trans {d : Addr} {H H' H'' : Hp} (h : SameX d H H') (h' : SameX d H' H'') : SameX d H H'' := fun b o n e => h' b o n (h b o n e)
theorem SameX.atd {d : Addr} {H H' : Hp} {o : HO} (h : SameX d H H') : SameX d H (upd H' d o) := fun b u n e => by rw [upd_ne n]; exact h b u n e
theorem SameX.new {d p : Addr} {H H' : Hp} {o : HO} (h : SameX d H H') (n : H' p = none) : SameX d H (upd H' p o) := fun b u nb e => by
  have e' := h b u nb e
  rw [upd_ne (ne_of_none e' n)]
  exact e'
theorem SameX.at {d p : Addr} {H H' : Hp} {o : HO} (h : SameX d H H') (n : H p = none) : SameX d H (upd H' p o) := fun b u nb e => by
  rw [upd_ne (ne_of_none e n)]
  exact h b u nb e
theorem SameX.of {d : Addr} {H H' : Hp} (h : Same H H') : SameX d H H' := fun b o _ e => h b o e
theorem SameX.free {d p : Addr} {H H' : Hp} (h : SameX d H H') (n : p ≠ d) (e : H' p = none) : H p = none := by
  cases q : H p with
  | none => rfl
  | some o => rw [h p o n q] at e; cases e
theorem dice_ne {H : Hp} {d p : Addr} (h : DiceAt H d) (e : H p = none) : p ≠ d := fun q => by
  obtain ⟨_, _, _, h⟩ := h
  rw [q, h] at e
  cases e
theorem dice_upd {H : Hp} {d p : Addr} {o : HO} (h : DiceAt H d) (n : p ≠ d) : DiceAt (upd H p o) d := by
  obtain ⟨a, b, c, h⟩ := h
  exact ⟨a, b, c, by rw [upd_ne n.symm]; exact h⟩
theorem dice_new {H : Hp} {d : Addr} (x b c : Int) : DiceAt (upd H d (.lst [.int x, .int b, .int c])) d := ⟨_, _, _, upd_same⟩
end Kl

set_option maxRecDepth 100000
set_option maxHeartbeats 4000000
/-! ### what stays while lambdas are made -/
namespace Gx
open PySem PySem.Spec PyProof.Rows L2
/-- all but the object at d and the tables stay -/
def ExtX (d : Addr) (H H' : Hp) : Prop := ∀ b o, b ≠ d → H b = some o → (∀ ps, o ≠ .tbl ps) → H' b = some o
theorem ExtX.refl (d : Addr) (H : Hp) : ExtX d H H := fun _ _ _ e _ => e
theorem ExtX.trans {d : Addr} {H H1 H2 : Hp} (a : ExtX d H H1) (b : ExtX d H1 H2) : ExtX d H H2 := fun c o n e t => b c o n (a c o n e t) t
theorem ExtX.ofN {d : Addr} {H H' : Hp} (s : LamX.ExtN H H') : ExtX d H H' := fun b o _ e t => s b o e t
theorem ExtX.of {d : Addr} {H H' : Hp} (s : Same H H') : ExtX d H H' := fun b o _ e _ => s b o e
end Gx
namespace Kl
open PySem PySem.Spec PyProof.Rows L2 Gx Mx LamX
theorem dice_exN {H H' : Hp} {d : Addr} (s : ExtN H H') (h : DiceAt H d) : DiceAt H' d := by
  obtain ⟨a, b, c, e⟩ := h
  exact ⟨a, b, c, s _ _ e fun _ => nofun⟩
theorem tabs_dice {Tb : List (Addr × Str)} {H H' : Hp} {d : Addr} (t : Tabs Tb H) (hd : DiceAt H d) (s : SameX d H H') : Tabs Tb H' := fun p hp => by
  obtain ⟨ps, h1, h2, h3⟩ := t p hp
  obtain ⟨a, b, c, e⟩ := hd
  refine ⟨ps, s _ _ (fun w => by rw [w, e] at h1; cases h1) h1, h2, fun pos cv hc => ?_⟩
  obtain ⟨c1, e1, e2⟩ := h3 pos cv hc
  exact ⟨c1, e1, s _ _ (fun w => by rw [w, e] at e2; cases (Option.some.inj e2)) e2⟩
theorem ext_ofX {d : Addr} {H H' : Hp} (s : SameX d H H') : ExtX d H H' := fun b o n e _ => s b o n e
/-- p is new since H (as far as what is no table tells) -/
def NewN (H : Hp) (p : Addr) : Prop := ∀ o, H p = some o → ¬ ∀ ps, o ≠ .tbl ps
theorem new_n {H H' : Hp} {p : Addr} (s : ExtN H H') (n : H' p = none) : NewN H p := fun o e t => by
  rw [s _ _ e t] at n
  cases n
theorem ext_lst {H G : Hp} {p : Addr} {o : HO} (s : ExtN H G) (n : NewN H p) : ExtN H (upd G p o) := fun b u e t => by
  by_cases c : b = p
  · rw [c] at e
    exact (n u e t).elim
  · rw [upd_ne c]
    exact s b u e t
theorem tabs_lst {Tb : List (Addr × Str)} {G : Hp} {p : Addr} {xs : List V} {o : HO} (t : Tabs Tb G) (e : G p = some (.lst xs)) : Tabs Tb (upd G p o) := fun q hq => by
  obtain ⟨ps, h1, h2, h3⟩ := t q hq
  refine ⟨ps, by rw [upd_ne (fun w => by rw [w, e] at h1; cases h1)]; exact h1, h2, fun pos cv hc => ?_⟩
  obtain ⟨c1, e1, e2⟩ := h3 pos cv hc
  exact ⟨c1, e1, by rw [upd_ne (fun w => by rw [w, e] at e2; cases (Option.some.inj e2))]; exact e2⟩
theorem ext_sm {H G G' : Hp} (a : ExtN H G) (s : Same G G') : ExtN H G' := a.trans (.of s)
theorem sqT_exN {K : PySem.W.Frag} {G G' : Hp} {a : Addr} {xs : List V} (s : ExtN G G') (h : SqT K G a xs) : SqT K G' a xs := by
  rcases h with (h | ⟨o, h⟩) | h
  · exact .inl (.inl (s _ _ h fun _ => nofun))
  · exact .inl (.inr ⟨o, s _ _ h fun _ => nofun⟩)
  · exact .inr h
theorem sqT_exX {K : PySem.W.Frag} {G G' : Hp} {d a : Addr} {xs : List V} (hd : DiceAt G d) (s : ExtX d G G') (h : SqT K G a xs) : SqT K G' a xs := by
  obtain ⟨p, q, r, e⟩ := hd
  rcases h with (h | ⟨o, h⟩) | h
  · exact .inl (.inl (s _ _ (fun z => by rw [z, e] at h; cases h) h fun _ => nofun))
  · exact .inl (.inr ⟨o, s _ _ (fun z => by rw [z, e] at h; cases h) h fun _ => nofun⟩)
  · exact .inr h
end Kl

set_option maxRecDepth 100000
set_option maxHeartbeats 4000000
namespace Kl
open PySem PySem.Spec PyProof.Rows L2 Gx Mx LamX
/-! ### _law_asked: ten lambdas in a list, one of them called (this text is written by a script) -/
theorem cons_len {xs : List V} {n : Nat} (h : xs.length = n + 1) : ∃ x t, xs = x :: t ∧ t.length = n := by
  cases xs with
  | nil => cases h
  | cons x t => exact ⟨x, t, rfl, Nat.succ.inj h⟩
theorem nil_len {xs : List V} (h : xs.length = 0) : xs = [] := List.eq_nil_of_length_eq_zero h
theorem lit1 {t0 : List V} (h0 : t0.length = 1) : ∃ x0 : V, t0 = [x0] := by
  obtain ⟨x0, t1, rfl, h1⟩ := cons_len h0
  obtain rfl := nil_len h1
  exact ⟨_, rfl⟩
theorem lit2 {t0 : List V} (h0 : t0.length = 2) : ∃ x0 x1 : V, t0 = [x0, x1] := by
  obtain ⟨x0, t1, rfl, h1⟩ := cons_len h0
  obtain ⟨x1, t2, rfl, h2⟩ := cons_len h1
  obtain rfl := nil_len h2
  exact ⟨_, _, rfl⟩
theorem lit3 {t0 : List V} (h0 : t0.length = 3) : ∃ x0 x1 x2 : V, t0 = [x0, x1, x2] := by
  obtain ⟨x0, t1, rfl, h1⟩ := cons_len h0
  obtain ⟨x1, t2, rfl, h2⟩ := cons_len h1
  obtain ⟨x2, t3, rfl, h3⟩ := cons_len h2
  obtain rfl := nil_len h3
  exact ⟨_, _, _, rfl⟩
theorem lit4 {t0 : List V} (h0 : t0.length = 4) : ∃ x0 x1 x2 x3 : V, t0 = [x0, x1, x2, x3] := by
  obtain ⟨x0, t1, rfl, h1⟩ := cons_len h0
  obtain ⟨x1, t2, rfl, h2⟩ := cons_len h1
  obtain ⟨x2, t3, rfl, h3⟩ := cons_len h2
  obtain ⟨x3, t4, rfl, h4⟩ := cons_len h3
  obtain rfl := nil_len h4
  exact ⟨_, _, _, _, rfl⟩
theorem lit5 {t0 : List V} (h0 : t0.length = 5) : ∃ x0 x1 x2 x3 x4 : V, t0 = [x0, x1, x2, x3, x4] := by
  obtain ⟨x0, t1, rfl, h1⟩ := cons_len h0
  obtain ⟨x1, t2, rfl, h2⟩ := cons_len h1
  obtain ⟨x2, t3, rfl, h3⟩ := cons_len h2
  obtain ⟨x3, t4, rfl, h4⟩ := cons_len h3
  obtain ⟨x4, t5, rfl, h5⟩ := cons_len h4
  obtain rfl := nil_len h5
  exact ⟨_, _, _, _, _, rfl⟩
theorem lit6 {t0 : List V} (h0 : t0.length = 6) : ∃ x0 x1 x2 x3 x4 x5 : V, t0 = [x0, x1, x2, x3, x4, x5] := by
  obtain ⟨x0, t1, rfl, h1⟩ := cons_len h0
  obtain ⟨x1, t2, rfl, h2⟩ := cons_len h1
  obtain ⟨x2, t3, rfl, h3⟩ := cons_len h2
  obtain ⟨x3, t4, rfl, h4⟩ := cons_len h3
  obtain ⟨x4, t5, rfl, h5⟩ := cons_len h4
  obtain ⟨x5, t6, rfl, h6⟩ := cons_len h5
  obtain rfl := nil_len h6
  exact ⟨_, _, _, _, _, _, rfl⟩
theorem lit7 {t0 : List V} (h0 : t0.length = 7) : ∃ x0 x1 x2 x3 x4 x5 x6 : V, t0 = [x0, x1, x2, x3, x4, x5, x6] := by
  obtain ⟨x0, t1, rfl, h1⟩ := cons_len h0
  obtain ⟨x1, t2, rfl, h2⟩ := cons_len h1
  obtain ⟨x2, t3, rfl, h3⟩ := cons_len h2
  obtain ⟨x3, t4, rfl, h4⟩ := cons_len h3
  obtain ⟨x4, t5, rfl, h5⟩ := cons_len h4
  obtain ⟨x5, t6, rfl, h6⟩ := cons_len h5
  obtain ⟨x6, t7, rfl, h7⟩ := cons_len h6
  obtain rfl := nil_len h7
  exact ⟨_, _, _, _, _, _, _, rfl⟩
theorem lit8 {t0 : List V} (h0 : t0.length = 8) : ∃ x0 x1 x2 x3 x4 x5 x6 x7 : V, t0 = [x0, x1, x2, x3, x4, x5, x6, x7] := by
  obtain ⟨x0, t1, rfl, h1⟩ := cons_len h0
  obtain ⟨x1, t2, rfl, h2⟩ := cons_len h1
  obtain ⟨x2, t3, rfl, h3⟩ := cons_len h2
  obtain ⟨x3, t4, rfl, h4⟩ := cons_len h3
  obtain ⟨x4, t5, rfl, h5⟩ := cons_len h4
  obtain ⟨x5, t6, rfl, h6⟩ := cons_len h5
  obtain ⟨x6, t7, rfl, h7⟩ := cons_len h6
  obtain ⟨x7, t8, rfl, h8⟩ := cons_len h7
  obtain rfl := nil_len h8
  exact ⟨_, _, _, _, _, _, _, _, rfl⟩
theorem lit9 {t0 : List V} (h0 : t0.length = 9) : ∃ x0 x1 x2 x3 x4 x5 x6 x7 x8 : V, t0 = [x0, x1, x2, x3, x4, x5, x6, x7, x8] := by
  obtain ⟨x0, t1, rfl, h1⟩ := cons_len h0
  obtain ⟨x1, t2, rfl, h2⟩ := cons_len h1
  obtain ⟨x2, t3, rfl, h3⟩ := cons_len h2
  obtain ⟨x3, t4, rfl, h4⟩ := cons_len h3
  obtain ⟨x4, t5, rfl, h5⟩ := cons_len h4
  obtain ⟨x5, t6, rfl, h6⟩ := cons_len h5
  obtain ⟨x6, t7, rfl, h7⟩ := cons_len h6
  obtain ⟨x7, t8, rfl, h8⟩ := cons_len h7
  obtain ⟨x8, t9, rfl, h9⟩ := cons_len h8
  obtain rfl := nil_len h9
  exact ⟨_, _, _, _, _, _, _, _, _, rfl⟩
abbrev PADS : List V := List.replicate 9 (V.str "")
def lamIn : Stmt → Arguments × Expr × Scope
  | .Assign _ (.List [.Lambda p b s _] _) _ => (p, b, s)
  | .Expr (.Call _ [.Lambda p b s _] _ _) _ => (p, b, s)
  | _ => (⟨[], [], none, [], [], none, []⟩, .Constant .none 0 ⟨0, 0, 0, 0⟩, ⟨.function, [], false, false, []⟩)
def stAt (i : Nat) : Stmt := (defBody s_law_asked).getD i (.Pass ⟨0, 0, 0, 0⟩)
def LL04 : Nat → Arguments × Expr × Scope
  | 0 => lamIn (stAt 1)
  | 1 => lamIn (stAt 2)
  | 2 => lamIn (stAt 3)
  | 3 => lamIn (stAt 4)
  | 4 => lamIn (stAt 5)
  | 5 => lamIn (stAt 6)
  | 6 => lamIn (stAt 7)
  | 7 => lamIn (stAt 8)
  | 8 => lamIn (stAt 9)
  | _ + 9 => lamIn (stAt 10)
section
variable {P : Program} {w : World} {K : PySem.W.Frag} {mg : Str → Option Value} {base : Heap}
/-- the arguments a[j], .. -/
def tA04 (K : PySem.W.Frag) : Nat → Nat → TA
  | _, 0 => tNil
  | j, n + 1 => tCons (tOp (rIxL K) (tVar 2) (tC (.int (j : Nat)))) (tA04 K (j + 1) n)
def t04 (K : PySem.W.Frag) (C CP Cr : Addr) : Nat → XK → TE
  | 0, E => tCMethS0 C (spFm K C CP Cr) (fun _ => E) (tC (.ref C))
  | 1, E => tCMethS C (spFm K C CP Cr) (fun _ => E) (tC (.ref C)) (tA04 K 0 1)
  | 2, E => tCMethS C (spFm K C CP Cr) (fun _ => E) (tC (.ref C)) (tA04 K 0 2)
  | 3, E => tCMethS C (spFm K C CP Cr) (fun _ => E) (tC (.ref C)) (tA04 K 0 3)
  | 4, E => tCMethS C (spFm K C CP Cr) (fun _ => E) (tC (.ref C)) (tA04 K 0 4)
  | 5, E => tCMethS C (spFm K C CP Cr) (fun _ => E) (tC (.ref C)) (tA04 K 0 5)
  | 6, E => tCMethS C (spFm K C CP Cr) (fun _ => E) (tC (.ref C)) (tA04 K 0 6)
  | 7, E => tCMethS C (spFm K C CP Cr) (fun _ => E) (tC (.ref C)) (tA04 K 0 7)
  | 8, E => tCMethS C (spFm K C CP Cr) (fun _ => E) (tC (.ref C)) (tA04 K 0 8)
  | _ + 9, E => tCMethS C (spFm K C CP Cr) (fun _ => E) (tC (.ref C)) (tA04 K 0 9)
/-- the outcomes of lines that are asked -/
structure AskQ (K : PySem.W.Frag) (C CP Cr : Addr) (Tb : List (Addr × Str)) (xs : List V) (H : Hp) (Q : VK) (E : XK) : Prop where
  hp : ∀ i dd H', readL [] 0 (xs.map tellV) = .inr i → ExtN H H' → Tabs Tb H' → H' dd = some (.xd [("number", .int (i : Nat))]) → E (.ref CP) (some dd) H'
  hr : ∀ qs H', readL [] 0 (xs.map tellV) = .inl qs → ¬ GoodQ qs → ExtN H H' → Tabs Tb H' → E (.ref Cr) none H'
  hg : ∀ qs leaf x md M' ns H', readL [] 0 (xs.map tellV) = .inl qs → leafOf qs = some leaf → Vld leaf (maksOf qs) → OrdOf (maksOf qs) M' → IsNames leaf (keysOf (maksOf qs)) ns → ExtN H H' → Tabs Tb H' → KindsAt C H' x md leaf M' ns → Q (.ref x) H'
theorem AskQ.ext {C CP Cr : Addr} {Tb : List (Addr × Str)} {xs : List V} {H G : Hp} {Q : VK} {E : XK} (h : AskQ K C CP Cr Tb xs H Q E) (s : ExtN H G) : AskQ K C CP Cr Tb xs G Q E where
  hp := fun i dd H' a b t c => h.hp i dd H' a (s.trans b) t c
  hr := fun qs H' a b c t => h.hr qs H' a b (s.trans c) t
  hg := fun qs leaf x md M' ns H' a b c d e f t g => h.hg qs leaf x md M' ns H' a b c d e (s.trans f) t g
theorem OddV.ext {H H' : Hp} {v : V} (h : OddV K H v) (s : ExtN H H') : OddV K H' v := by
  cases h with
  | non => exact .non
  | int i => exact .int i
  | bl b => exact .bl b
  | lst e => exact .lst (s _ _ e fun _ z => by cases z)
  | @tup a xs e =>
    refine .tup (xs := xs) ?_
    rcases e with (h | ⟨o, h⟩) | h
    · exact .inl (.inl (s _ _ h fun _ z => by cases z))
    · exact .inl (.inr ⟨o, s _ _ h fun _ z => by cases z⟩)
    · exact .inr h
  | dic e => exact .dic (s _ _ e fun _ z => by cases z)
theorem sqL_ext {H H' : Hp} {a : Addr} {xs : List V} (h : SqL K H a xs) (s : ExtN H H') : SqL K H' a xs := by
  rcases h with (h | ⟨o, h⟩) | h
  · exact .inl (.inl (s _ _ h fun _ z => by cases z))
  · exact .inl (.inr ⟨o, s _ _ h fun _ z => by cases z⟩)
  · exact .inr h
theorem LnV.ext {H H' : Hp} {v : V} (h : LnV K H v) (s : ExtN H H') : LnV K H' v := h.imp id fun o => o.ext s
theorem askGo {C CP Cr : Addr} {Tb : List (Addr × Str)} {xs : List V} {H : Hp} {Q : VK} {E : XK} (h : AskQ K C CP Cr Tb xs H Q E) (t : Tabs Tb H) (hv : ∀ v ∈ xs, LnV K H v) (hl : xs.length ≤ 9) : xs.length ≤ sizeLine ∧ ∀ p, H p = none → spFm K C CP Cr [.ref C, .ref p] (upd H p (.tup xs)) Q E := by
  have big : 100000 ≤ sizeLine := by decide
  refine ⟨by omega, fun p np => ?_⟩
  have s := same_new (o := .tup xs) (Same.refl H) np
  have h' := h.ext (ExtN.of s)
  have t' := Tabs.ext t s
  exact ⟨p, xs, rfl, SqT.of upd_same, fun v m => (hv v m).same s, by omega, fun i dd H' a b c => h'.hp i dd H' a (ExtN.of b) (Tabs.ext t' b) c, fun qs H' a b c => h'.hr qs H' a b (ExtN.of c) (Tabs.ext t' c), fun qs leaf x md M' ns H' a b c d e f g => h'.hg qs leaf x md M' ns H' a b c d e (ExtN.of f) (Tabs.ext t' f) g⟩
def spAk (K : PySem.W.Frag) (C CP Cr : Addr) (Tb : List (Addr × Str)) : Sp := fun vs H Q E => ∃ (lp : Addr) (xs : List V), vs = [.ref lp] ∧ Tabs Tb H ∧ SqL K H lp xs ∧ xs.length ≤ 9 ∧ (∀ v ∈ xs, LnV K H v) ∧ AskQ K C CP Cr Tb xs H Q E
theorem ok_ask {C CP Cr fI c1 P1 f : Addr} {fd fdI : FuncData} {Tb : List (Addr × Str)} (F : Fun K "_law_asked" "_law_asked" s_law_asked f fd) (hc : fd.code = .ref c1) (Lx : Lam K mg base Tb "_law_asked" c1 P1) (T : Top K mg) (TC : Cl_Kinds K mg C) (TX : XT_ParseError K mg CP fI) (FX : Fun K "__init__" "ParseError.__init__" s_ParseError_init fI fdI)
    (XO : XIK K mg Cr) (XC : XCls K Cr) : FnOk P w K mg base (L2.CX P w) 12 f fd ["_law_lines"] (spAk K C CP Cr Tb) := by
  have cf : CalQS P w K mg base C "from_lines" 10 1 (spFm K C CP Cr) := ok_fm T TC TX FX XO XC
  refine okXL F hc sc_law_asked (fun vs H Q E h => ?_) (fun A outer s H vs Q E hr h => ?_)
  · obtain ⟨lp, xs, rfl, _⟩ := h
    rfl
  · obtain ⟨lp, xs, rfl, hT, hS, hl, hv, hq⟩ := h
    have hS' : ∀ i, LamS (defScope s_law_asked) (LL04 i).2.2 := fun i => match i with
      | 0 => lamS_by (by decide +kernel)
      | 1 => lamS_by (by decide +kernel)
      | 2 => lamS_by (by decide +kernel)
      | 3 => lamS_by (by decide +kernel)
      | 4 => lamS_by (by decide +kernel)
      | 5 => lamS_by (by decide +kernel)
      | 6 => lamS_by (by decide +kernel)
      | 7 => lamS_by (by decide +kernel)
      | 8 => lamS_by (by decide +kernel)
      | _ + 9 => lamS_by (show lamSB _ (lamIn (stAt 10)).2.2 = true by decide +kernel)
    refine ⟨_, pss_cut (ps_asg (pe_tup (pa_cons (pe_callB call_len_seq (by rfl) T.b_len PySem.boot_len (pa_cons (pv 0) pa_nil)) (pa_cons (pe_op op_cat (pe_callTy call_list_of (by rfl) T.b_list (by decide +kernel) (pa_cons (pv 0) pa_nil)) (pe_op op_rep (pe_lst (pa_cons pe_str pa_nil)) pe_int)) pa_nil))) (pg_tup (n := 2) rfl (pgs_cons (pg_name (i := 1) sc_law_asked.nd rfl (.inl rfl)) (pgs_cons (pg_name (i := 2) sc_law_asked.nd rfl (.inr rfl)) pgs_nil))))
      (pss_cons (ps_set (i := 3) sc_law_asked.nd rfl (.inl rfl) (pe_lst (pa_cons (pe_lamV Lx.tb rfl Lx.mem Lx.one (lamS_by (sc := defScope s_law_asked) (by decide +kernel)) rfl) pa_nil)))
      (pss_cons (ps_expr (pe_bm PySem.F.plainAttrs_list PySem.F.slot_list_append PySem.F.type_list_append mt_append (pv 3) (pa_cons (pe_lamV Lx.tb rfl Lx.mem Lx.one (lamS_by (sc := defScope s_law_asked) (by decide +kernel)) rfl) pa_nil)))
      (pss_cons (ps_expr (pe_bm PySem.F.plainAttrs_list PySem.F.slot_list_append PySem.F.type_list_append mt_append (pv 3) (pa_cons (pe_lamV Lx.tb rfl Lx.mem Lx.one (lamS_by (sc := defScope s_law_asked) (by decide +kernel)) rfl) pa_nil)))
      (pss_cons (ps_expr (pe_bm PySem.F.plainAttrs_list PySem.F.slot_list_append PySem.F.type_list_append mt_append (pv 3) (pa_cons (pe_lamV Lx.tb rfl Lx.mem Lx.one (lamS_by (sc := defScope s_law_asked) (by decide +kernel)) rfl) pa_nil)))
      (pss_cons (ps_expr (pe_bm PySem.F.plainAttrs_list PySem.F.slot_list_append PySem.F.type_list_append mt_append (pv 3) (pa_cons (pe_lamV Lx.tb rfl Lx.mem Lx.one (lamS_by (sc := defScope s_law_asked) (by decide +kernel)) rfl) pa_nil)))
      (pss_cons (ps_expr (pe_bm PySem.F.plainAttrs_list PySem.F.slot_list_append PySem.F.type_list_append mt_append (pv 3) (pa_cons (pe_lamV Lx.tb rfl Lx.mem Lx.one (lamS_by (sc := defScope s_law_asked) (by decide +kernel)) rfl) pa_nil)))
      (pss_cons (ps_expr (pe_bm PySem.F.plainAttrs_list PySem.F.slot_list_append PySem.F.type_list_append mt_append (pv 3) (pa_cons (pe_lamV Lx.tb rfl Lx.mem Lx.one (lamS_by (sc := defScope s_law_asked) (by decide +kernel)) rfl) pa_nil)))
      (pss_cons (ps_expr (pe_bm PySem.F.plainAttrs_list PySem.F.slot_list_append PySem.F.type_list_append mt_append (pv 3) (pa_cons (pe_lamV Lx.tb rfl Lx.mem Lx.one (lamS_by (sc := defScope s_law_asked) (by decide +kernel)) rfl) pa_nil)))
      (pss_cons (ps_expr (pe_bm PySem.F.plainAttrs_list PySem.F.slot_list_append PySem.F.type_list_append mt_append (pv 3) (pa_cons (pe_lamV Lx.tb rfl Lx.mem Lx.one (lamS_by (sc := defScope s_law_asked) (by decide +kernel)) rfl) pa_nil)))
      (pss_cons (ps_expr (pe_bm PySem.F.plainAttrs_list PySem.F.slot_list_append PySem.F.type_list_append mt_append (pv 3) (pa_cons (pe_lamV Lx.tb rfl Lx.mem Lx.one (lamS_by (sc := defScope s_law_asked) (by decide +kernel)) rfl) pa_nil)))
      (pss_one (ps_ret (pe_callLam (k := 10) (L := LL04) (t := t04 K C CP Cr) (E := fun _ => E) (pe_ix ix_list (pv 3) (pv 1) (fun _ _ => rfl)) hr (fun σ => passAt (takes_of rfl rfl rfl rfl) σ) hS' (fun i => match i with | 0 => fun _ _ _ _ _ => rfl | 1 => fun _ _ _ _ _ => rfl | 2 => fun _ _ _ _ _ => rfl | 3 => fun _ _ _ _ _ => rfl | 4 => fun _ _ _ _ _ => rfl | 5 => fun _ _ _ _ _ => rfl | 6 => fun _ _ _ _ _ => rfl | 7 => fun _ _ _ _ _ => rfl | 8 => fun _ _ _ _ _ => rfl | _ + 9 => fun _ _ _ _ _ => rfl)
        (fun i s H E f c' hr' => match i with
          | 0 => pe_cmS0 (E := fun _ => E) (pe_glob (v := .ref C) (by rfl) TC.gC rfl) cf (hr'.mono (by decide)) (fun σ => passAt (takes_of rfl rfl rfl rfl) σ)
          | 1 => pe_cmS (E := fun _ => E) (pe_glob (v := .ref C) (by rfl) TC.gC rfl) cf (hr'.mono (by decide)) (fun σ => passAt (takes_of rfl rfl rfl rfl) σ) (pa_cons (pe_ix ix_list (pv 2) pe_int (fun _ _ => rfl)) pa_nil)
          | 2 => pe_cmS (E := fun _ => E) (pe_glob (v := .ref C) (by rfl) TC.gC rfl) cf (hr'.mono (by decide)) (fun σ => passAt (takes_of rfl rfl rfl rfl) σ) (pa_cons (pe_ix ix_list (pv 2) pe_int (fun _ _ => rfl)) (pa_cons (pe_ix ix_list (pv 2) pe_int (fun _ _ => rfl)) pa_nil))
          | 3 => pe_cmS (E := fun _ => E) (pe_glob (v := .ref C) (by rfl) TC.gC rfl) cf (hr'.mono (by decide)) (fun σ => passAt (takes_of rfl rfl rfl rfl) σ) (pa_cons (pe_ix ix_list (pv 2) pe_int (fun _ _ => rfl)) (pa_cons (pe_ix ix_list (pv 2) pe_int (fun _ _ => rfl)) (pa_cons (pe_ix ix_list (pv 2) pe_int (fun _ _ => rfl)) pa_nil)))
          | 4 => pe_cmS (E := fun _ => E) (pe_glob (v := .ref C) (by rfl) TC.gC rfl) cf (hr'.mono (by decide)) (fun σ => passAt (takes_of rfl rfl rfl rfl) σ) (pa_cons (pe_ix ix_list (pv 2) pe_int (fun _ _ => rfl)) (pa_cons (pe_ix ix_list (pv 2) pe_int (fun _ _ => rfl)) (pa_cons (pe_ix ix_list (pv 2) pe_int (fun _ _ => rfl)) (pa_cons (pe_ix ix_list (pv 2) pe_int (fun _ _ => rfl)) pa_nil))))
          | 5 => pe_cmS (E := fun _ => E) (pe_glob (v := .ref C) (by rfl) TC.gC rfl) cf (hr'.mono (by decide)) (fun σ => passAt (takes_of rfl rfl rfl rfl) σ) (pa_cons (pe_ix ix_list (pv 2) pe_int (fun _ _ => rfl)) (pa_cons (pe_ix ix_list (pv 2) pe_int (fun _ _ => rfl)) (pa_cons (pe_ix ix_list (pv 2) pe_int (fun _ _ => rfl)) (pa_cons (pe_ix ix_list (pv 2) pe_int (fun _ _ => rfl)) (pa_cons (pe_ix ix_list (pv 2) pe_int (fun _ _ => rfl)) pa_nil)))))
          | 6 => pe_cmS (E := fun _ => E) (pe_glob (v := .ref C) (by rfl) TC.gC rfl) cf (hr'.mono (by decide)) (fun σ => passAt (takes_of rfl rfl rfl rfl) σ) (pa_cons (pe_ix ix_list (pv 2) pe_int (fun _ _ => rfl)) (pa_cons (pe_ix ix_list (pv 2) pe_int (fun _ _ => rfl)) (pa_cons (pe_ix ix_list (pv 2) pe_int (fun _ _ => rfl)) (pa_cons (pe_ix ix_list (pv 2) pe_int (fun _ _ => rfl)) (pa_cons (pe_ix ix_list (pv 2) pe_int (fun _ _ => rfl)) (pa_cons (pe_ix ix_list (pv 2) pe_int (fun _ _ => rfl)) pa_nil))))))
          | 7 => pe_cmS (E := fun _ => E) (pe_glob (v := .ref C) (by rfl) TC.gC rfl) cf (hr'.mono (by decide)) (fun σ => passAt (takes_of rfl rfl rfl rfl) σ) (pa_cons (pe_ix ix_list (pv 2) pe_int (fun _ _ => rfl)) (pa_cons (pe_ix ix_list (pv 2) pe_int (fun _ _ => rfl)) (pa_cons (pe_ix ix_list (pv 2) pe_int (fun _ _ => rfl)) (pa_cons (pe_ix ix_list (pv 2) pe_int (fun _ _ => rfl)) (pa_cons (pe_ix ix_list (pv 2) pe_int (fun _ _ => rfl)) (pa_cons (pe_ix ix_list (pv 2) pe_int (fun _ _ => rfl)) (pa_cons (pe_ix ix_list (pv 2) pe_int (fun _ _ => rfl)) pa_nil)))))))
          | 8 => pe_cmS (E := fun _ => E) (pe_glob (v := .ref C) (by rfl) TC.gC rfl) cf (hr'.mono (by decide)) (fun σ => passAt (takes_of rfl rfl rfl rfl) σ) (pa_cons (pe_ix ix_list (pv 2) pe_int (fun _ _ => rfl)) (pa_cons (pe_ix ix_list (pv 2) pe_int (fun _ _ => rfl)) (pa_cons (pe_ix ix_list (pv 2) pe_int (fun _ _ => rfl)) (pa_cons (pe_ix ix_list (pv 2) pe_int (fun _ _ => rfl)) (pa_cons (pe_ix ix_list (pv 2) pe_int (fun _ _ => rfl)) (pa_cons (pe_ix ix_list (pv 2) pe_int (fun _ _ => rfl)) (pa_cons (pe_ix ix_list (pv 2) pe_int (fun _ _ => rfl)) (pa_cons (pe_ix ix_list (pv 2) pe_int (fun _ _ => rfl)) pa_nil))))))))
          | _ + 9 => pe_cmS (E := fun _ => E) (pe_glob (v := .ref C) (by rfl) TC.gC rfl) cf (hr'.mono (by decide)) (fun σ => passAt (takes_of rfl rfl rfl rfl) σ) (pa_cons (pe_ix ix_list (pv 2) pe_int (fun _ _ => rfl)) (pa_cons (pe_ix ix_list (pv 2) pe_int (fun _ _ => rfl)) (pa_cons (pe_ix ix_list (pv 2) pe_int (fun _ _ => rfl)) (pa_cons (pe_ix ix_list (pv 2) pe_int (fun _ _ => rfl)) (pa_cons (pe_ix ix_list (pv 2) pe_int (fun _ _ => rfl)) (pa_cons (pe_ix ix_list (pv 2) pe_int (fun _ _ => rfl)) (pa_cons (pe_ix ix_list (pv 2) pe_int (fun _ _ => rfl)) (pa_cons (pe_ix ix_list (pv 2) pe_int (fun _ _ => rfl)) (pa_cons (pe_ix ix_list (pv 2) pe_int (fun _ _ => rfl)) pa_nil))))))))))))))))))))))), ?_⟩
    have big : 100000 ≤ sizeLine := by decide
    refine ⟨fun σ' G => ∃ a : Addr, σ' = [some (.ref lp), some (.int (xs.length : Nat)), some (.ref a), none] ∧ SqL K G a (xs ++ PADS) ∧ Same H G, ?_, ?_⟩
    · refine ⟨_, rfl, lp, xs, rfl, .inl hS, _, rfl, lp, xs, rfl, .inl hS, fun l nl => ?_⟩
      have s1 := same_new (o := .lst xs) (Same.refl H) nl
      have e1 : (upd H l (.lst xs)) l = some (.lst xs) := upd_same
      generalize upd H l (.lst xs) = G1 at *
      refine ⟨by show 1 ≤ sizeLine; omega, fun m nm => ?_⟩
      have s2 := same_new (o := .lst [V.str ""]) (Same.refl G1) nm
      have e2 : (upd G1 m (.lst [V.str ""])) m = some (.lst [V.str ""]) := upd_same
      generalize upd G1 m (.lst [V.str ""]) = G2 at *
      refine ⟨m, 9, _, rfl, rfl, e2, by decide, by decide, by show 9 ≤ sizeLine; omega, fun r nr => ?_⟩
      have e3 : (List.replicate (9 : Int).toNat [V.str ""]).flatten = PADS := by decide +kernel
      rw [e3]
      have s3 := same_new (o := .lst PADS) (Same.refl G2) nr
      have e4 : (upd G2 r (.lst PADS)) r = some (.lst PADS) := upd_same
      generalize upd G2 r (.lst PADS) = G3 at *
      refine ⟨l, r, _, _, rfl, rfl, s3 _ _ (s2 _ _ e1), e4, by show xs.length + 9 ≤ _; omega, fun k nk => ?_⟩
      have s4 := same_new (o := .lst (xs ++ PADS)) (Same.refl G3) nk
      have e5 : (upd G3 k (.lst (xs ++ PADS))) k = some (.lst (xs ++ PADS)) := upd_same
      generalize upd G3 k (.lst (xs ++ PADS)) = G4 at *
      refine ⟨by show 2 ≤ sizeLine; omega, fun t nt => ?_⟩
      have s5 := same_new (o := .tup [V.int ((xs.length : Nat) : Int), V.ref k]) (Same.refl G4) nt
      exact ⟨t, _, rfl, SqT.of upd_same, rfl, _, _, rfl, _, _, rfl, rfl, k, rfl, .inl (.inl (s5 _ _ e5)), s1.trans (s2.trans (s3.trans (s4.trans s5)))⟩
    rintro σ' G ⟨a, rfl, ha, s1⟩
    refine ⟨Tabs.ext hT s1, fun v0 G0 e0 U0 lv => ?_⟩
    refine ⟨by show 1 ≤ sizeLine; omega, fun l nl => ?_⟩
    have nn : NewN G l := new_n e0 nl
    have el0 : (upd G0 l (.lst [v0])) l = some (.lst [v0]) := upd_same
    have sm := same_new (o := .lst [v0]) (Same.refl G0) nl
    have L0_0 := lv.ext (ExtN.of sm)
    have W0 := Tabs.ext U0 sm
    have x0 := e0.trans (ExtN.of sm)
    generalize upd G0 l (.lst [v0]) = H0 at *
    refine ⟨_, rfl, ⟨.inl ⟨rfl, _, .inl (.inl el0)⟩, ?_⟩⟩
    refine ⟨W0, fun v1 G1 e1 U1 lv => ?_⟩
    have em := e1 _ _ el0 (fun _ z => by cases z)
    refine ⟨l, _, v1, rfl, rfl, em, by show 1 < sizeLine; omega, ?_⟩
    have el1 : (upd G1 l (.lst ([v0] ++ [v1]))) l = some (.lst [v0, v1]) := upd_same
    have L1_0 := (L0_0.ext e1).upd_ (o := .lst ([v0] ++ [v1])) em
    have L1_1 := lv.upd_ (o := .lst ([v0] ++ [v1])) em
    have W1 := tabs_lst (o := .lst ([v0] ++ [v1])) U1 em
    have x1 := ext_lst (o := .lst ([v0] ++ [v1])) (x0.trans e1) nn
    generalize upd G1 l (.lst ([v0] ++ [v1])) = H1 at *
    clear L0_0 W0 x0 lv em el0 U1 e1
    refine ⟨_, rfl, ⟨.inl ⟨rfl, _, .inl (.inl el1)⟩, ?_⟩⟩
    refine ⟨W1, fun v2 G2 e2 U2 lv => ?_⟩
    have em := e2 _ _ el1 (fun _ z => by cases z)
    refine ⟨l, _, v2, rfl, rfl, em, by show 2 < sizeLine; omega, ?_⟩
    have el2 : (upd G2 l (.lst ([v0, v1] ++ [v2]))) l = some (.lst [v0, v1, v2]) := upd_same
    have L2_0 := (L1_0.ext e2).upd_ (o := .lst ([v0, v1] ++ [v2])) em
    have L2_1 := (L1_1.ext e2).upd_ (o := .lst ([v0, v1] ++ [v2])) em
    have L2_2 := lv.upd_ (o := .lst ([v0, v1] ++ [v2])) em
    have W2 := tabs_lst (o := .lst ([v0, v1] ++ [v2])) U2 em
    have x2 := ext_lst (o := .lst ([v0, v1] ++ [v2])) (x1.trans e2) nn
    generalize upd G2 l (.lst ([v0, v1] ++ [v2])) = H2 at *
    clear L1_0 L1_1 W1 x1 lv em el1 U2 e2
    refine ⟨_, rfl, ⟨.inl ⟨rfl, _, .inl (.inl el2)⟩, ?_⟩⟩
    refine ⟨W2, fun v3 G3 e3 U3 lv => ?_⟩
    have em := e3 _ _ el2 (fun _ z => by cases z)
    refine ⟨l, _, v3, rfl, rfl, em, by show 3 < sizeLine; omega, ?_⟩
    have el3 : (upd G3 l (.lst ([v0, v1, v2] ++ [v3]))) l = some (.lst [v0, v1, v2, v3]) := upd_same
    have L3_0 := (L2_0.ext e3).upd_ (o := .lst ([v0, v1, v2] ++ [v3])) em
    have L3_1 := (L2_1.ext e3).upd_ (o := .lst ([v0, v1, v2] ++ [v3])) em
    have L3_2 := (L2_2.ext e3).upd_ (o := .lst ([v0, v1, v2] ++ [v3])) em
    have L3_3 := lv.upd_ (o := .lst ([v0, v1, v2] ++ [v3])) em
    have W3 := tabs_lst (o := .lst ([v0, v1, v2] ++ [v3])) U3 em
    have x3 := ext_lst (o := .lst ([v0, v1, v2] ++ [v3])) (x2.trans e3) nn
    generalize upd G3 l (.lst ([v0, v1, v2] ++ [v3])) = H3 at *
    clear L2_0 L2_1 L2_2 W2 x2 lv em el2 U3 e3
    refine ⟨_, rfl, ⟨.inl ⟨rfl, _, .inl (.inl el3)⟩, ?_⟩⟩
    refine ⟨W3, fun v4 G4 e4 U4 lv => ?_⟩
    have em := e4 _ _ el3 (fun _ z => by cases z)
    refine ⟨l, _, v4, rfl, rfl, em, by show 4 < sizeLine; omega, ?_⟩
    have el4 : (upd G4 l (.lst ([v0, v1, v2, v3] ++ [v4]))) l = some (.lst [v0, v1, v2, v3, v4]) := upd_same
    have L4_0 := (L3_0.ext e4).upd_ (o := .lst ([v0, v1, v2, v3] ++ [v4])) em
    have L4_1 := (L3_1.ext e4).upd_ (o := .lst ([v0, v1, v2, v3] ++ [v4])) em
    have L4_2 := (L3_2.ext e4).upd_ (o := .lst ([v0, v1, v2, v3] ++ [v4])) em
    have L4_3 := (L3_3.ext e4).upd_ (o := .lst ([v0, v1, v2, v3] ++ [v4])) em
    have L4_4 := lv.upd_ (o := .lst ([v0, v1, v2, v3] ++ [v4])) em
    have W4 := tabs_lst (o := .lst ([v0, v1, v2, v3] ++ [v4])) U4 em
    have x4 := ext_lst (o := .lst ([v0, v1, v2, v3] ++ [v4])) (x3.trans e4) nn
    generalize upd G4 l (.lst ([v0, v1, v2, v3] ++ [v4])) = H4 at *
    clear L3_0 L3_1 L3_2 L3_3 W3 x3 lv em el3 U4 e4
    refine ⟨_, rfl, ⟨.inl ⟨rfl, _, .inl (.inl el4)⟩, ?_⟩⟩
    refine ⟨W4, fun v5 G5 e5 U5 lv => ?_⟩
    have em := e5 _ _ el4 (fun _ z => by cases z)
    refine ⟨l, _, v5, rfl, rfl, em, by show 5 < sizeLine; omega, ?_⟩
    have el5 : (upd G5 l (.lst ([v0, v1, v2, v3, v4] ++ [v5]))) l = some (.lst [v0, v1, v2, v3, v4, v5]) := upd_same
    have L5_0 := (L4_0.ext e5).upd_ (o := .lst ([v0, v1, v2, v3, v4] ++ [v5])) em
    have L5_1 := (L4_1.ext e5).upd_ (o := .lst ([v0, v1, v2, v3, v4] ++ [v5])) em
    have L5_2 := (L4_2.ext e5).upd_ (o := .lst ([v0, v1, v2, v3, v4] ++ [v5])) em
    have L5_3 := (L4_3.ext e5).upd_ (o := .lst ([v0, v1, v2, v3, v4] ++ [v5])) em
    have L5_4 := (L4_4.ext e5).upd_ (o := .lst ([v0, v1, v2, v3, v4] ++ [v5])) em
    have L5_5 := lv.upd_ (o := .lst ([v0, v1, v2, v3, v4] ++ [v5])) em
    have W5 := tabs_lst (o := .lst ([v0, v1, v2, v3, v4] ++ [v5])) U5 em
    have x5 := ext_lst (o := .lst ([v0, v1, v2, v3, v4] ++ [v5])) (x4.trans e5) nn
    generalize upd G5 l (.lst ([v0, v1, v2, v3, v4] ++ [v5])) = H5 at *
    clear L4_0 L4_1 L4_2 L4_3 L4_4 W4 x4 lv em el4 U5 e5
    refine ⟨_, rfl, ⟨.inl ⟨rfl, _, .inl (.inl el5)⟩, ?_⟩⟩
    refine ⟨W5, fun v6 G6 e6 U6 lv => ?_⟩
    have em := e6 _ _ el5 (fun _ z => by cases z)
    refine ⟨l, _, v6, rfl, rfl, em, by show 6 < sizeLine; omega, ?_⟩
    have el6 : (upd G6 l (.lst ([v0, v1, v2, v3, v4, v5] ++ [v6]))) l = some (.lst [v0, v1, v2, v3, v4, v5, v6]) := upd_same
    have L6_0 := (L5_0.ext e6).upd_ (o := .lst ([v0, v1, v2, v3, v4, v5] ++ [v6])) em
    have L6_1 := (L5_1.ext e6).upd_ (o := .lst ([v0, v1, v2, v3, v4, v5] ++ [v6])) em
    have L6_2 := (L5_2.ext e6).upd_ (o := .lst ([v0, v1, v2, v3, v4, v5] ++ [v6])) em
    have L6_3 := (L5_3.ext e6).upd_ (o := .lst ([v0, v1, v2, v3, v4, v5] ++ [v6])) em
    have L6_4 := (L5_4.ext e6).upd_ (o := .lst ([v0, v1, v2, v3, v4, v5] ++ [v6])) em
    have L6_5 := (L5_5.ext e6).upd_ (o := .lst ([v0, v1, v2, v3, v4, v5] ++ [v6])) em
    have L6_6 := lv.upd_ (o := .lst ([v0, v1, v2, v3, v4, v5] ++ [v6])) em
    have W6 := tabs_lst (o := .lst ([v0, v1, v2, v3, v4, v5] ++ [v6])) U6 em
    have x6 := ext_lst (o := .lst ([v0, v1, v2, v3, v4, v5] ++ [v6])) (x5.trans e6) nn
    generalize upd G6 l (.lst ([v0, v1, v2, v3, v4, v5] ++ [v6])) = H6 at *
    clear L5_0 L5_1 L5_2 L5_3 L5_4 L5_5 W5 x5 lv em el5 U6 e6
    refine ⟨_, rfl, ⟨.inl ⟨rfl, _, .inl (.inl el6)⟩, ?_⟩⟩
    refine ⟨W6, fun v7 G7 e7 U7 lv => ?_⟩
    have em := e7 _ _ el6 (fun _ z => by cases z)
    refine ⟨l, _, v7, rfl, rfl, em, by show 7 < sizeLine; omega, ?_⟩
    have el7 : (upd G7 l (.lst ([v0, v1, v2, v3, v4, v5, v6] ++ [v7]))) l = some (.lst [v0, v1, v2, v3, v4, v5, v6, v7]) := upd_same
    have L7_0 := (L6_0.ext e7).upd_ (o := .lst ([v0, v1, v2, v3, v4, v5, v6] ++ [v7])) em
    have L7_1 := (L6_1.ext e7).upd_ (o := .lst ([v0, v1, v2, v3, v4, v5, v6] ++ [v7])) em
    have L7_2 := (L6_2.ext e7).upd_ (o := .lst ([v0, v1, v2, v3, v4, v5, v6] ++ [v7])) em
    have L7_3 := (L6_3.ext e7).upd_ (o := .lst ([v0, v1, v2, v3, v4, v5, v6] ++ [v7])) em
    have L7_4 := (L6_4.ext e7).upd_ (o := .lst ([v0, v1, v2, v3, v4, v5, v6] ++ [v7])) em
    have L7_5 := (L6_5.ext e7).upd_ (o := .lst ([v0, v1, v2, v3, v4, v5, v6] ++ [v7])) em
    have L7_6 := (L6_6.ext e7).upd_ (o := .lst ([v0, v1, v2, v3, v4, v5, v6] ++ [v7])) em
    have L7_7 := lv.upd_ (o := .lst ([v0, v1, v2, v3, v4, v5, v6] ++ [v7])) em
    have W7 := tabs_lst (o := .lst ([v0, v1, v2, v3, v4, v5, v6] ++ [v7])) U7 em
    have x7 := ext_lst (o := .lst ([v0, v1, v2, v3, v4, v5, v6] ++ [v7])) (x6.trans e7) nn
    generalize upd G7 l (.lst ([v0, v1, v2, v3, v4, v5, v6] ++ [v7])) = H7 at *
    clear L6_0 L6_1 L6_2 L6_3 L6_4 L6_5 L6_6 W6 x6 lv em el6 U7 e7
    refine ⟨_, rfl, ⟨.inl ⟨rfl, _, .inl (.inl el7)⟩, ?_⟩⟩
    refine ⟨W7, fun v8 G8 e8 U8 lv => ?_⟩
    have em := e8 _ _ el7 (fun _ z => by cases z)
    refine ⟨l, _, v8, rfl, rfl, em, by show 8 < sizeLine; omega, ?_⟩
    have el8 : (upd G8 l (.lst ([v0, v1, v2, v3, v4, v5, v6, v7] ++ [v8]))) l = some (.lst [v0, v1, v2, v3, v4, v5, v6, v7, v8]) := upd_same
    have L8_0 := (L7_0.ext e8).upd_ (o := .lst ([v0, v1, v2, v3, v4, v5, v6, v7] ++ [v8])) em
    have L8_1 := (L7_1.ext e8).upd_ (o := .lst ([v0, v1, v2, v3, v4, v5, v6, v7] ++ [v8])) em
    have L8_2 := (L7_2.ext e8).upd_ (o := .lst ([v0, v1, v2, v3, v4, v5, v6, v7] ++ [v8])) em
    have L8_3 := (L7_3.ext e8).upd_ (o := .lst ([v0, v1, v2, v3, v4, v5, v6, v7] ++ [v8])) em
    have L8_4 := (L7_4.ext e8).upd_ (o := .lst ([v0, v1, v2, v3, v4, v5, v6, v7] ++ [v8])) em
    have L8_5 := (L7_5.ext e8).upd_ (o := .lst ([v0, v1, v2, v3, v4, v5, v6, v7] ++ [v8])) em
    have L8_6 := (L7_6.ext e8).upd_ (o := .lst ([v0, v1, v2, v3, v4, v5, v6, v7] ++ [v8])) em
    have L8_7 := (L7_7.ext e8).upd_ (o := .lst ([v0, v1, v2, v3, v4, v5, v6, v7] ++ [v8])) em
    have L8_8 := lv.upd_ (o := .lst ([v0, v1, v2, v3, v4, v5, v6, v7] ++ [v8])) em
    have W8 := tabs_lst (o := .lst ([v0, v1, v2, v3, v4, v5, v6, v7] ++ [v8])) U8 em
    have x8 := ext_lst (o := .lst ([v0, v1, v2, v3, v4, v5, v6, v7] ++ [v8])) (x7.trans e8) nn
    generalize upd G8 l (.lst ([v0, v1, v2, v3, v4, v5, v6, v7] ++ [v8])) = H8 at *
    clear L7_0 L7_1 L7_2 L7_3 L7_4 L7_5 L7_6 L7_7 W7 x7 lv em el7 U8 e8
    refine ⟨_, rfl, ⟨.inl ⟨rfl, _, .inl (.inl el8)⟩, ?_⟩⟩
    refine ⟨W8, fun v9 G9 e9 U9 lv => ?_⟩
    have em := e9 _ _ el8 (fun _ z => by cases z)
    refine ⟨l, _, v9, rfl, rfl, em, by show 9 < sizeLine; omega, ?_⟩
    have el9 : (upd G9 l (.lst ([v0, v1, v2, v3, v4, v5, v6, v7, v8] ++ [v9]))) l = some (.lst [v0, v1, v2, v3, v4, v5, v6, v7, v8, v9]) := upd_same
    have L9_0 := (L8_0.ext e9).upd_ (o := .lst ([v0, v1, v2, v3, v4, v5, v6, v7, v8] ++ [v9])) em
    have L9_1 := (L8_1.ext e9).upd_ (o := .lst ([v0, v1, v2, v3, v4, v5, v6, v7, v8] ++ [v9])) em
    have L9_2 := (L8_2.ext e9).upd_ (o := .lst ([v0, v1, v2, v3, v4, v5, v6, v7, v8] ++ [v9])) em
    have L9_3 := (L8_3.ext e9).upd_ (o := .lst ([v0, v1, v2, v3, v4, v5, v6, v7, v8] ++ [v9])) em
    have L9_4 := (L8_4.ext e9).upd_ (o := .lst ([v0, v1, v2, v3, v4, v5, v6, v7, v8] ++ [v9])) em
    have L9_5 := (L8_5.ext e9).upd_ (o := .lst ([v0, v1, v2, v3, v4, v5, v6, v7, v8] ++ [v9])) em
    have L9_6 := (L8_6.ext e9).upd_ (o := .lst ([v0, v1, v2, v3, v4, v5, v6, v7, v8] ++ [v9])) em
    have L9_7 := (L8_7.ext e9).upd_ (o := .lst ([v0, v1, v2, v3, v4, v5, v6, v7, v8] ++ [v9])) em
    have L9_8 := (L8_8.ext e9).upd_ (o := .lst ([v0, v1, v2, v3, v4, v5, v6, v7, v8] ++ [v9])) em
    have L9_9 := lv.upd_ (o := .lst ([v0, v1, v2, v3, v4, v5, v6, v7, v8] ++ [v9])) em
    have W9 := tabs_lst (o := .lst ([v0, v1, v2, v3, v4, v5, v6, v7, v8] ++ [v9])) U9 em
    have x9 := ext_lst (o := .lst ([v0, v1, v2, v3, v4, v5, v6, v7, v8] ++ [v9])) (x8.trans e9) nn
    generalize upd G9 l (.lst ([v0, v1, v2, v3, v4, v5, v6, v7, v8] ++ [v9])) = H9 at *
    clear L8_0 L8_1 L8_2 L8_3 L8_4 L8_5 L8_6 L8_7 L8_8 W8 x8 lv em el8 U9 e9
    have hq9 := (hq.ext (ExtN.of s1)).ext x9
    have hv9 : ∀ v ∈ xs, LnV K H9 v := fun v m => ((hv v m).same s1).ext x9
    have ha9 := sqL_ext ha x9
    have hk : xs.length = 0 ∨ xs.length = 1 ∨ xs.length = 2 ∨ xs.length = 3 ∨ xs.length = 4 ∨ xs.length = 5 ∨ xs.length = 6 ∨ xs.length = 7 ∨ xs.length = 8 ∨ xs.length = 9 := by omega
    rcases hk with e | e | e | e | e | e | e | e | e | e
    · obtain rfl := nil_len e
      refine ⟨_, rfl, _, rfl, l, _, _, v0, rfl, rfl, .inl (.inl el9), atI_nat (j := 0) rfl, 0, L9_0, ?_⟩
      exact ⟨rfl, (askGo hq9 W9 hv9 (by decide)).2⟩
    · obtain ⟨x0, rfl⟩ := lit1 e
      refine ⟨_, rfl, _, rfl, l, _, _, v1, rfl, rfl, .inl (.inl el9), atI_nat (j := 1) rfl, 1, L9_1, ?_⟩
      exact ⟨rfl, _, rfl, _, _, 0, x0, rfl, rfl, ha9, atI_nat (j := 0) rfl, askGo hq9 W9 hv9 hl⟩
    · obtain ⟨x0, x1, rfl⟩ := lit2 e
      refine ⟨_, rfl, _, rfl, l, _, _, v2, rfl, rfl, .inl (.inl el9), atI_nat (j := 2) rfl, 2, L9_2, ?_⟩
      exact ⟨rfl, _, rfl, _, _, 0, x0, rfl, rfl, ha9, atI_nat (j := 0) rfl, _, rfl, _, _, 1, x1, rfl, rfl, ha9, atI_nat (j := 1) rfl, askGo hq9 W9 hv9 hl⟩
    · obtain ⟨x0, x1, x2, rfl⟩ := lit3 e
      refine ⟨_, rfl, _, rfl, l, _, _, v3, rfl, rfl, .inl (.inl el9), atI_nat (j := 3) rfl, 3, L9_3, ?_⟩
      exact ⟨rfl, _, rfl, _, _, 0, x0, rfl, rfl, ha9, atI_nat (j := 0) rfl, _, rfl, _, _, 1, x1, rfl, rfl, ha9, atI_nat (j := 1) rfl, _, rfl, _, _, 2, x2, rfl, rfl, ha9, atI_nat (j := 2) rfl, askGo hq9 W9 hv9 hl⟩
    · obtain ⟨x0, x1, x2, x3, rfl⟩ := lit4 e
      refine ⟨_, rfl, _, rfl, l, _, _, v4, rfl, rfl, .inl (.inl el9), atI_nat (j := 4) rfl, 4, L9_4, ?_⟩
      exact ⟨rfl, _, rfl, _, _, 0, x0, rfl, rfl, ha9, atI_nat (j := 0) rfl, _, rfl, _, _, 1, x1, rfl, rfl, ha9, atI_nat (j := 1) rfl, _, rfl, _, _, 2, x2, rfl, rfl, ha9, atI_nat (j := 2) rfl, _, rfl, _, _, 3, x3, rfl, rfl, ha9, atI_nat (j := 3) rfl, askGo hq9 W9 hv9 hl⟩
    · obtain ⟨x0, x1, x2, x3, x4, rfl⟩ := lit5 e
      refine ⟨_, rfl, _, rfl, l, _, _, v5, rfl, rfl, .inl (.inl el9), atI_nat (j := 5) rfl, 5, L9_5, ?_⟩
      exact ⟨rfl, _, rfl, _, _, 0, x0, rfl, rfl, ha9, atI_nat (j := 0) rfl, _, rfl, _, _, 1, x1, rfl, rfl, ha9, atI_nat (j := 1) rfl, _, rfl, _, _, 2, x2, rfl, rfl, ha9, atI_nat (j := 2) rfl, _, rfl, _, _, 3, x3, rfl, rfl, ha9, atI_nat (j := 3) rfl, _, rfl, _, _, 4, x4, rfl, rfl, ha9, atI_nat (j := 4) rfl, askGo hq9 W9 hv9 hl⟩
    · obtain ⟨x0, x1, x2, x3, x4, x5, rfl⟩ := lit6 e
      refine ⟨_, rfl, _, rfl, l, _, _, v6, rfl, rfl, .inl (.inl el9), atI_nat (j := 6) rfl, 6, L9_6, ?_⟩
      exact ⟨rfl, _, rfl, _, _, 0, x0, rfl, rfl, ha9, atI_nat (j := 0) rfl, _, rfl, _, _, 1, x1, rfl, rfl, ha9, atI_nat (j := 1) rfl, _, rfl, _, _, 2, x2, rfl, rfl, ha9, atI_nat (j := 2) rfl, _, rfl, _, _, 3, x3, rfl, rfl, ha9, atI_nat (j := 3) rfl, _, rfl, _, _, 4, x4, rfl, rfl, ha9, atI_nat (j := 4) rfl, _, rfl, _, _, 5, x5, rfl, rfl, ha9, atI_nat (j := 5) rfl, askGo hq9 W9 hv9 hl⟩
    · obtain ⟨x0, x1, x2, x3, x4, x5, x6, rfl⟩ := lit7 e
      refine ⟨_, rfl, _, rfl, l, _, _, v7, rfl, rfl, .inl (.inl el9), atI_nat (j := 7) rfl, 7, L9_7, ?_⟩
      exact ⟨rfl, _, rfl, _, _, 0, x0, rfl, rfl, ha9, atI_nat (j := 0) rfl, _, rfl, _, _, 1, x1, rfl, rfl, ha9, atI_nat (j := 1) rfl, _, rfl, _, _, 2, x2, rfl, rfl, ha9, atI_nat (j := 2) rfl, _, rfl, _, _, 3, x3, rfl, rfl, ha9, atI_nat (j := 3) rfl, _, rfl, _, _, 4, x4, rfl, rfl, ha9, atI_nat (j := 4) rfl, _, rfl, _, _, 5, x5, rfl, rfl, ha9, atI_nat (j := 5) rfl, _, rfl, _, _, 6, x6, rfl, rfl, ha9, atI_nat (j := 6) rfl, askGo hq9 W9 hv9 hl⟩
    · obtain ⟨x0, x1, x2, x3, x4, x5, x6, x7, rfl⟩ := lit8 e
      refine ⟨_, rfl, _, rfl, l, _, _, v8, rfl, rfl, .inl (.inl el9), atI_nat (j := 8) rfl, 8, L9_8, ?_⟩
      exact ⟨rfl, _, rfl, _, _, 0, x0, rfl, rfl, ha9, atI_nat (j := 0) rfl, _, rfl, _, _, 1, x1, rfl, rfl, ha9, atI_nat (j := 1) rfl, _, rfl, _, _, 2, x2, rfl, rfl, ha9, atI_nat (j := 2) rfl, _, rfl, _, _, 3, x3, rfl, rfl, ha9, atI_nat (j := 3) rfl, _, rfl, _, _, 4, x4, rfl, rfl, ha9, atI_nat (j := 4) rfl, _, rfl, _, _, 5, x5, rfl, rfl, ha9, atI_nat (j := 5) rfl, _, rfl, _, _, 6, x6, rfl, rfl, ha9, atI_nat (j := 6) rfl, _, rfl, _, _, 7, x7, rfl, rfl, ha9, atI_nat (j := 7) rfl, askGo hq9 W9 hv9 hl⟩
    · obtain ⟨x0, x1, x2, x3, x4, x5, x6, x7, x8, rfl⟩ := lit9 e
      refine ⟨_, rfl, _, rfl, l, _, _, v9, rfl, rfl, .inl (.inl el9), atI_nat (j := 9) rfl, 9, L9_9, ?_⟩
      exact ⟨rfl, _, rfl, _, _, 0, x0, rfl, rfl, ha9, atI_nat (j := 0) rfl, _, rfl, _, _, 1, x1, rfl, rfl, ha9, atI_nat (j := 1) rfl, _, rfl, _, _, 2, x2, rfl, rfl, ha9, atI_nat (j := 2) rfl, _, rfl, _, _, 3, x3, rfl, rfl, ha9, atI_nat (j := 3) rfl, _, rfl, _, _, 4, x4, rfl, rfl, ha9, atI_nat (j := 4) rfl, _, rfl, _, _, 5, x5, rfl, rfl, ha9, atI_nat (j := 5) rfl, _, rfl, _, _, 6, x6, rfl, rfl, ha9, atI_nat (j := 6) rfl, _, rfl, _, _, 7, x7, rfl, rfl, ha9, atI_nat (j := 7) rfl, _, rfl, _, _, 8, x8, rfl, rfl, ha9, atI_nat (j := 8) rfl, askGo hq9 W9 hv9 hl⟩
end
end Kl

set_option maxRecDepth 100000
set_option maxHeartbeats 4000000
/-! several clauses, some with a name for the error (one name for all), some without -/
namespace Gx
open PySem PySem.Spec PyProof.Rows L2
/-- what the clauses (all of one name, slot i) wish of an error of the body -/
def wMX (K : PySem.W.Frag) (i : Nat) (Wo : WX) (D : Ends) : List (Value × Bool × (Addr → Value → Option Addr → TS)) → WX
  | [] => Wo
  | (c, true, ts) :: r => fun ec ed σ H => ∃ b, PySem.W.exmOne K ec c = some b ∧ (b = true → ∀ ea, H ea = none → ts ea ec ed { nx := fun σ1 H1 => D.nx (σ1.set i none) H1, rt := D.rt, bk := fun σ1 H1 => D.bk (σ1.set i none) H1, ct := fun σ1 H1 => D.ct (σ1.set i none) H1 } (σ.set i (some (.ref ea))) H) ∧ (b = false → wMX K i Wo D r ec ed σ H)
  | (c, false, ts) :: r => fun ec ed σ H => ∃ b, PySem.W.exmOne K ec c = some b ∧ (b = true → ∀ ea, H ea = none → ts ea ec ed D σ H) ∧ (b = false → wMX K i Wo D r ec ed σ H)
inductive HdsX (X : Cx) (n : Str) : List ExceptHandler → List (Value × Bool × (Addr → Value → Option Addr → TS)) → Prop
  | nil : HdsX X n [] []
  | asn {x : Str} {c : Value} {ts : Addr → Value → Option Addr → TS} {b₀ : Stmt} {bs : List Stmt} {np ps : Pos} {hds : List ExceptHandler} {l : List (Value × Bool × (Addr → Value → Option Addr → TS))} (nm : Names X x c)
      (su : ∀ (ea : Addr) (eo : Obj) (ec : Value) (ed : Option Addr) (pn : List (Addr × Obj)), Zc ec ed eo → (∃ vs, eo.data = .fields vs) → PSs (X.suite ea ((ea, eo) :: pn)) (b₀ :: bs) (ts ea ec ed)) (r : HdsX X n hds l) :
      HdsX X n (.ExceptHandler (some (.Name x np)) (some n) (b₀ :: bs) ps :: hds) ((c, true, ts) :: l)
  | bare {x : Str} {c : Value} {ts : Addr → Value → Option Addr → TS} {b₀ : Stmt} {bs : List Stmt} {np ps : Pos} {hds : List ExceptHandler} {l : List (Value × Bool × (Addr → Value → Option Addr → TS))} (nm : Names X x c)
      (su : ∀ (ea : Addr) (eo : Obj) (ec : Value) (ed : Option Addr) (pn : List (Addr × Obj)), Zc ec ed eo → (∃ vs, eo.data = .fields vs) → PSs (X.suite ea ((ea, eo) :: pn)) (b₀ :: bs) (ts ea ec ed)) (r : HdsX X n hds l) :
      HdsX X n (.ExceptHandler (some (.Name x np)) none (b₀ :: bs) ps :: hds) ((c, false, ts) :: l)
section
variable {X : Cx} {n : Str} {i : Nat} {body : List Stmt} {h0 : ExceptHandler} {hds : List ExceptHandler} {l : List (Value × Bool × (Addr → Value → Option Addr → TS))} {pos : Pos} {tb : WX → TS} {Wo : WX}
theorem ps_try_mx (st : X.stack = X.env :: X.outer) (fr : X.env.frame = some X.env.locals) (nd : X.N.Nodup) (at_ : X.N[i]? = some n) (kl : X.env.kindOf n = some .local) (tk : Takes X Wo)
    (hb : ∀ (W : WX) (pn : List (Addr × Obj)) (xe : Value → Shared → Prop), Takes (X.tr pn xe) W → PassesOwn (model X.prog X.w) X.A X.env xe → PSs (X.tr pn xe) body (tb W))
    (hh : HdsX X n (h0 :: hds) l) : PS X (.Try body (h0 :: hds) [] [] pos) (fun D σ H => tb (wMX X.K i Wo D l) D σ H) := by
  refine ⟨fun pn0 s σ H D I0 wish => ?_⟩
  have okX := I0.ok
  have frs0 : X.A.frames = some (X.env :: X.outer) := by rw [okX.frames, st]
  have lc : Loc X.env.scope n := .inl kl
  refine wpAny_Try_except ?_
  refine wpAny_mono ((hb (wMX X.K i Wo D l) (X.pn ++ pn0) (fun e sa => wpAny (model X.prog X.w) X.A (noteFrame e X.env) (fun _ sb => wpAny (model X.prog X.w) X.A (setFlight e none) (fun _ sc =>
    wpAny (model X.prog X.w) X.A (handleBy e X.env (h0 :: hds)) (SP X pn0 D) X.xe sc) X.xe sb) X.xe sa) (fun u sz fly => ?_) PassesOwn.looking).run [] s σ H D (I0.toTry _) wish) (fun fl sz got => ?_) (fun _ _ z => z)
  · obtain ⟨ea, gb, si, pn1, σ1, H1, ec, ed, rfl, J0, nb, up, sky, na, eos, bare, w⟩ := fly
    have J1 : Inv X pn0 σ1 H1 si := J0.ofTry okX
    have sky1 : Sky gb (X.env :: X.outer) ea (Zc ec ed) X.env.locals sz.heap := by rw [← st]; exact sky
    show wpAny (model X.prog X.w) X.A (noteFrame (.ref ea) X.env) _ _ _
    refine Sky.land Zc.steady frs0 fr sky1 fun ha fa upa => ?_
    have Ja : Inv X pn0 σ1 H1 { sz with heap := ha } := J1.landed nb fa.1 (up.trans upa) eos bare
    obtain ⟨eo, ev, there, ze, de⟩ := fa.there
    have noFrame : ∀ {h : Heap} {o : Obj} {vs : Array Value}, h.FunFrames gb (X.env :: X.outer) → h.get? ea = some o → o.data = .fields vs → ea ∉ frs (X.env :: X.outer) := fun {h o vs} ff e dd hm => by
      obtain ⟨_, o1, e1, z⟩ := ff.mem hm
      rw [e] at e1
      cases e1
      exact z _ dd
    have nf := noFrame fa.2.2.1 there de
    have nL : ea ≠ X.env.locals := fun z => nf (List.mem_filterMap.mpr ⟨X.env, List.mem_cons_self, by rw [fr, z]⟩)
    have nF : ea ∉ X.fs := fun hm => by
      obtain ⟨e1, m1, q1⟩ := List.mem_filterMap.mp hm
      exact nf (List.mem_filterMap.mpr ⟨e1, List.mem_cons_of_mem _ m1, q1⟩)
    have Sa := Ja.suite there de na nL nF
    have each : ∀ {hs1 : List ExceptHandler} {l1 : List (Value × Bool × (Addr → Value → Option Addr → TS))}, HdsX X n hs1 l1 → wMX X.K i Wo D l1 ec ed σ1 H1 →
        wpAny (model X.prog X.w) X.A (handleBy (.ref ea) X.env hs1) (SP X pn0 D) X.xe { sz with heap := ha } := by
      intro hs1 l1 hk
      induction hk with
      | nil =>
        intro w1
        refine wpAny_handleBy_nil ?_
        obtain ⟨_, _, _, oe, vs, T, oT, ts1, he, hz, hd, h1, hr⟩ := id fa
        unfold PySem.passOn
        refine wpAny_bind (wpAny_field he hd h1 ?_)
        rw [if_neg (by simp : ¬ ((Value.ref T == Value.none) = true))]
        have on : wpAny (model X.prog X.w) X.A (setFlight (.ref ea) X.env.frame) (fun _ sd => wpAny (model X.prog X.w) X.A (throw (.ref ea) : Sem Flow) (SP X pn0 D) X.xe sd) X.xe { sz with heap := ha } := by
          rw [fr]
          refine HandSPX.setFlight_upZ fa fun hc fc upc => wpAny_throw (tk _ _ ?_)
          exact ⟨ea, gb, si, pn0, σ1, H1, ec, ed, rfl, J1, nb, (up.trans upa).trans upc, .inr (.inr (by rw [st]; exact fc)), na, eos, bare, w1⟩
        first | exact wpAny_bind (wpAny_pure (wpAny_bind on)) | exact wpAny_bind on
      | @asn x c ts b₀ bs np ps hds2 l2 nm su r ih =>
        intro w1
        obtain ⟨b, eb, yes, no⟩ := w1
        refine wpAny_handleBy_cons (codeAny_handlers_test ?_) (by intro q; cases q)
        have ty : PySem.W.Looks (model X.prog X.w) ha (typeOf (.ref ea)) ec := fun A Q E s k q => wpAny_typeOf_ref (k _ _ there) (by rw [ze.1]; exact q)
        have fits := PySem.W.exm_one (M := model X.prog X.w) (Ja.kIn) ty eb
        have named : ∀ {Q : Value → Shared → Prop} {E : Value → Shared → Prop}, Q c { sz with heap := ha } → wpAny (model X.prog X.w) (X.A.mark (some (.ref ea))) (eval (.Name x np) X.env) Q E { sz with heap := ha } := fun {Q E} q => by
          obtain ⟨g1, g2, m1 | ⟨m1, m2, m3⟩⟩ := nm
          · exact ld_glob (X := X.suite ea ((ea, eo) :: (X.pn ++ pn0))) Sa g1 m1 q g2
          · exact ld_blt (X := X.suite ea ((ea, eo) :: (X.pn ++ pn0))) Sa g1 m1 m2 q m3 g2
        refine named (fits.here ?_)
        cases b with
        | false =>
          show wpAny _ X.A (handleBy (.ref ea) X.env hds2) _ _ _
          exact ih (no rfl)
        | true =>
          refine codeAny_handlers_suite_as ?_
          refine HandSPX.lands_againZ fa fun hc fc upc => ?_
          have Jc : Inv X pn0 σ1 H1 { sz with heap := hc } := J1.landed nb fc.1 ((up.trans upa).trans upc) eos bare
          obtain ⟨eo2, ev2, there2, ze2, de2⟩ := fc.there
          have Sc := Jc.suite there2 de2 na nL nF
          refine store_ok (X := X.suite ea ((ea, eo2) :: (X.pn ++ pn0))) (v := .ref ea) Sc nd at_ lc rfl (fun se Se => ?_) (.inr kl)
          refine wpAny_mono ((su ea eo2 ec ed (X.pn ++ pn0) ze2 ⟨_, de2⟩).run [] se _ H1 _ Se (yes rfl ea na)) (fun fl sg got => ?_) (fun _ _ z => False.elim z)
          have gone : ∀ {σ6 : L2.St} {H6 : Hp} {Q : Shared → Prop}, Inv (X.suite ea ((ea, eo2) :: (X.pn ++ pn0))) [] σ6 H6 sg → (∀ s7, Inv X pn0 (σ6.set i none) H6 s7 → Q s7) →
              wpAny (model X.prog X.w) X.A (do bindName X.env n .none; unbindBehindTheSuite X.env n ps) (fun _ s7 => Q s7) X.xe sg := fun {σ6 H6 Q} S6 hq => gone_ok (S6.unsuite okX) nd at_ kl hq
          cases fl with
          | ret u =>
            obtain ⟨v6, σ6, H6, S6, r6, q6⟩ := got
            exact gone S6 fun _ J7 => ⟨_, _, _, J7, r6, q6⟩
          | next =>
            obtain ⟨σ6, H6, S6, q6⟩ := got
            exact gone S6 fun _ J7 => ⟨_, _, J7, q6⟩
          | brk =>
            obtain ⟨σ6, H6, S6, q6⟩ := got
            exact gone S6 fun _ J7 => ⟨_, _, J7, q6⟩
          | cont =>
            obtain ⟨σ6, H6, S6, q6⟩ := got
            exact gone S6 fun _ J7 => ⟨_, _, J7, q6⟩
      | @bare x c ts b₀ bs np ps hds2 l2 nm su r ih =>
        intro w1
        obtain ⟨b, eb, yes, no⟩ := w1
        refine wpAny_handleBy_cons (codeAny_handlers_test ?_) (by intro q; cases q)
        have ty : PySem.W.Looks (model X.prog X.w) ha (typeOf (.ref ea)) ec := fun A Q E s k q => wpAny_typeOf_ref (k _ _ there) (by rw [ze.1]; exact q)
        have fits := PySem.W.exm_one (M := model X.prog X.w) (Ja.kIn) ty eb
        have named : ∀ {Q : Value → Shared → Prop} {E : Value → Shared → Prop}, Q c { sz with heap := ha } → wpAny (model X.prog X.w) (X.A.mark (some (.ref ea))) (eval (.Name x np) X.env) Q E { sz with heap := ha } := fun {Q E} q => by
          obtain ⟨g1, g2, m1 | ⟨m1, m2, m3⟩⟩ := nm
          · exact ld_glob (X := X.suite ea ((ea, eo) :: (X.pn ++ pn0))) Sa g1 m1 q g2
          · exact ld_blt (X := X.suite ea ((ea, eo) :: (X.pn ++ pn0))) Sa g1 m1 m2 q m3 g2
        refine named (fits.here ?_)
        cases b with
        | false =>
          show wpAny _ X.A (handleBy (.ref ea) X.env hds2) _ _ _
          exact ih (no rfl)
        | true =>
          refine codeAny_handlers_suite ?_
          refine HandSPX.lands_againZ fa fun hc fc upc => ?_
          have Jc : Inv X pn0 σ1 H1 { sz with heap := hc } := J1.landed nb fc.1 ((up.trans upa).trans upc) eos bare
          obtain ⟨eo2, ev2, there2, ze2, de2⟩ := fc.there
          have Sc := Jc.suite there2 de2 na nL nF
          refine wpAny_mono ((su ea eo2 ec ed (X.pn ++ pn0) ze2 ⟨_, de2⟩).run [] _ _ H1 _ Sc (yes rfl ea na)) (fun fl sg got => ?_) (fun _ _ z => False.elim z)
          cases fl with
          | ret u =>
            obtain ⟨v6, σ6, H6, S6, r6, q6⟩ := got
            exact ⟨_, _, _, S6.unsuite okX, r6, q6⟩
          | next =>
            obtain ⟨σ6, H6, S6, q6⟩ := got
            exact ⟨_, _, S6.unsuite okX, q6⟩
          | brk =>
            obtain ⟨σ6, H6, S6, q6⟩ := got
            exact ⟨_, _, S6.unsuite okX, q6⟩
          | cont =>
            obtain ⟨σ6, H6, S6, q6⟩ := got
            exact ⟨_, _, S6.unsuite okX, q6⟩
    exact each hh w
  · cases fl with
    | ret u =>
      obtain ⟨v, σ1, H1, J1, r, q⟩ := got
      exact ⟨v, σ1, H1, J1.ofTry okX, r, q⟩
    | next =>
      obtain ⟨σ1, H1, J1, q⟩ := got
      exact wpAny_execs_nil ⟨σ1, H1, J1.ofTry okX, q⟩
    | brk =>
      obtain ⟨σ1, H1, J1, q⟩ := got
      exact ⟨σ1, H1, J1.ofTry okX, q⟩
    | cont =>
      obtain ⟨σ1, H1, J1, q⟩ := got
      exact ⟨σ1, H1, J1.ofTry okX, q⟩
end
end Gx

set_option maxRecDepth 100000
set_option maxHeartbeats 4000000
namespace Kl
open PySem PySem.Spec PyProof.Rows L2 Gx Mx LamX
/-! ### _law_told -/
theorem shown_short : ∀ i, i < 30 → (PyData.int ((i : Nat) : Int)).shown.length ≤ 20 ∧ (PyData.int ((i : Nat) : Int)).showable = true := by decide +kernel
theorem readL_lt : ∀ {os : List (Option Pl)} {qs : List Pl} {i j : Nat}, readL qs i os = .inr j → j < i + os.length
  | [], _, _, _, h => by cases h
  | none :: os, qs, i, j, h => by
    cases h
    show i < i + (os.length + 1)
    omega
  | some p :: os, qs, i, j, h => by
    have h' : (if plK p ∈ qs.map plK then .inr i else readL (qs ++ [p]) (i + 1) os) = (.inr j : List Pl ⊕ Nat) := h
    rw [List.length_cons]
    by_cases c : plK p ∈ qs.map plK
    · rw [if_pos c] at h'
      cases h'
      omega
    · rw [if_neg c] at h'
      have := readL_lt h'
      omega
section
variable {P : Program} {w : World} {K : PySem.W.Frag} {mg : Str → Option Value} {base : Heap}
theorem call_reprK {X : Cx} (hk : X.K = K) (g : Gd X.A) (hu : X.A.units + 64 < cLine) : CallR X (.builtin "repr") (rRepr K) := by
  subst hk
  exact call_reprD g hu
abbrev parseT (i : Nat) : Str := ("parse " : Str) ++ (PyData.int ((i : Nat) : Int)).shown
def spLt (K : PySem.W.Frag) (C : Addr) (Tb : List (Addr × Str)) : Sp := fun vs H Q _ => ∃ (lp : Addr) (xs : List V), vs = [.ref lp] ∧ Tabs Tb H ∧ SqL K H lp xs ∧ xs.length ≤ 9 ∧ (∀ v ∈ xs, LnV K H v) ∧
  (∀ i H', readL [] 0 (xs.map tellV) = .inr i → ExtN H H' → Tabs Tb H' → Q (.str (parseT i)) H') ∧
  (∀ qs H', readL [] 0 (xs.map tellV) = .inl qs → ¬ GoodQ qs → ExtN H H' → Tabs Tb H' → Q (.str "kinds") H') ∧
  ∀ qs leaf x md M' ns H', readL [] 0 (xs.map tellV) = .inl qs → leafOf qs = some leaf → Vld leaf (maksOf qs) → OrdOf (maksOf qs) M' → IsNames leaf (keysOf (maksOf qs)) ns → ExtN H H' → Tabs Tb H' → KindsAt C H' x md leaf M' ns → Q (.ref x) H'
theorem ok_told {C CP Cr fI c1 P1 f : Addr} {fd fdI : FuncData} {Tb : List (Addr × Str)} (F : Fun K "_law_told" "_law_told" s_law_told f fd) (Lx : Lam K mg base Tb "_law_asked" c1 P1) (T : Top K mg) (TC : Cl_Kinds K mg C) (TX : XT_ParseError K mg CP fI) (FX : Fun K "__init__" "ParseError.__init__" s_ParseError_init fI fdI)
    (XO : XIK K mg Cr) (XC : XCls K Cr) (te : PySem.W.exmOne K (.ref Cr) (.ref Cr) = some true) (tn : PySem.W.exmOne K (.ref Cr) (.ref CP) = some false) : FnG P w K mg base CX0 13 f fd ["_law_lines"] (spLt K C Tb) := by
  have ca : CalY P w K mg base 12 "_law_asked" ["_law_lines"] (spAk K C CP Cr Tb) := by
    obtain ⟨f, fd, F, b, g⟩ := T.d_law_asked
    exact ⟨f, fd, ok_ask F (Lx.of g F) Lx T TC TX FX XO XC, F.kp, b, g⟩
  refine okG F sc_law_told (fun vs H Q E h => ?_) (fun cdv A outer s H vs Q E hg hr h => ?_)
  · obtain ⟨lp, xs, rfl, _⟩ := h
    rfl
  · obtain ⟨lp, xs, rfl, hT, hS, hl, hv, q1, q2, q⟩ := h
    refine ⟨_, pss_one (ps_try_mx (X := (cxOf CX0 P w K mg base ["_law_lines", "e"] "_law_told" (defScope s_law_told) f cdv A outer s H E).nox) (i := 1) (n := "e") rfl rfl sc_law_told.nd rfl rfl takes_none5
        (fun W pn xe tk hp => pss_one (ps_ret (pe_calY ca hr (by rfl) (fun σ => passAt tk σ) (pa_cons (pv 0) pa_nil))))
        (.asn ⟨by rfl, by decide, .inl TX.gC⟩ (fun ea eo ec ed pn hz hf => pss_one (ps_ret (pe_op op_add_str pe_str (pe_callB (call_reprK (K := K) (by exact rfl) (by exact hg) (by exact hr.units)) (by rfl) T.b_repr (by decide +kernel) (pa_cons (pe_byX TX hz hf (pv 1)) pa_nil)))))
        (.bare ⟨by rfl, by decide, .inl XO.gC⟩ (fun ea eo ec ed pn hz hf => pss_one (ps_ret pe_str)) .nil))), ?_⟩
    have big : 100000 ≤ sizeLine := by decide
    refine ⟨_, rfl, lp, xs, rfl, hT, hS, hl, hv, fun i dd H' h s t ed => ?_, fun qs H' h n s t => ?_, fun qs leaf x md M' ns H' h h1 h2 h3 h4 s t hx => q qs leaf x md M' ns H' h h1 h2 h3 h4 s t hx⟩
    · refine ⟨true, TX.te, fun _ a na => ?_, fun h => by cases h⟩
      have li := readL_lt h
      rw [List.length_map] at li
      obtain ⟨sh1, sh2⟩ := shown_short i (by omega)
      have l6 : ("parse " : Str).length = 6 := rfl
      exact ⟨_, rfl, rfl, rfl, dd, .int (i : Nat), rfl, ed, .int (i : Nat), .int (i : Nat), rfl, .int _, sh2, rfl, by unfold PyData.depth; decide, by omega, _, _, rfl, rfl, by omega, q1 i H' h s t⟩
    · refine ⟨false, tn, (fun h => by cases h), fun _ => ⟨true, te, fun _ a na => ?_, fun h => by cases h⟩⟩
      exact q2 qs H' h n s t
end
end Kl

set_option maxRecDepth 100000
set_option maxHeartbeats 4000000
namespace Kl
open PySem PySem.Spec PyProof.Rows L2 Gx Mx
abbrev one (c : Nat) : Str := ⟨#[c]⟩
theorem one_asc {c : Nat} (h : c < 128) : AscS (one c) := fun d hd => by
  rw [List.mem_singleton.mp (show d ∈ [c] from hd)]
  exact h
theorem alpha_mem (c : Nat) : decide (c ∈ ("abcdefghijklmnopqrstuvwxyz" : Str).cps.toList) = isLow c := by
  have e : ("abcdefghijklmnopqrstuvwxyz" : Str).cps.toList = (List.range 26).map (· + 97) := by decide +kernel
  unfold isLow
  rw [e, decide_eq_decide, List.mem_map]
  constructor
  · rintro ⟨a, m, rfl⟩
    have := List.mem_range.mp m
    show 97 ≤ a + 97 ∧ a + 97 ≤ 122
    omega
  · rintro ⟨h1, h2⟩
    exact ⟨c - 97, List.mem_range.mpr (by omega), show c - 97 + 97 = c by omega⟩
/-- what is no small letter -/
def oddS (cs : List Nat) : List Str := (cs.filter fun c => !isLow c).map one
theorem odd_nil (cs : List Nat) : decide (oddS cs = []) = cs.all isLow := by
  unfold oddS
  rw [Bool.eq_iff_iff, decide_eq_true_eq, List.map_eq_nil_iff, List.filter_eq_nil_iff, List.all_eq_true]
  constructor
  · intro h c hc
    have := h c hc
    simpa using this
  · intro h c hc
    rw [h c hc]
    decide
section
variable {P : Program} {w : World} {K : PySem.W.Frag} {mg : Str → Option Value} {base : Heap}
/-! ### _law_is_name -/
def spLN : Sp := fun vs H Q _ => ∃ z : Str, vs = [V.str z] ∧ AscS z ∧ z.length ≤ 5000 ∧ ∀ H', Same H H' → Q (.bl (nameB z)) H'
theorem ok_ln {f : Addr} {fd : FuncData} (F : Fun K "_law_is_name" "_law_is_name" s_law_is_name f fd) (T : Top K mg) : FnOk P w K mg base CX0 1 f fd ["_law_word"] spLN := by
  refine F.ok sc_law_is_name (fun vs H Q E h => ?_) (fun cdv A outer s H vs Q E hr h => ?_)
  · obtain ⟨z, rfl, _⟩ := h
    rfl
  · obtain ⟨z, rfl, ha, hz, q⟩ := h
    have big : 100000 ≤ sizeLine := by decide
    have hs : z.length ≤ sizeLine := by omega
    refine ⟨_, pss_one (ps_ret (pe_and (pe_chain op_lt op_lt pe_int (pe_callB call_len_str (by rfl) T.b_len PySem.boot_len (pa_cons (pv 0) pa_nil)) pe_int)
      (pe_one (pe_cmpR (op_eqD hr.units) (pe_lc (own := [("_law_sign", 1)]) (g := gName 1) rfl sc_law_is_name.nd (pi_str (pv 0)) (blkOk_by (N := (["_law_word", "_law_sign"] : List Str)) (sc := defScope s_law_is_name) (by decide +kernel))
        (fun _ _ _ _ _ => pg_name (i := 1) sc_law_is_name.nd rfl (.inl rfl)) (fun _ _ _ _ _ => pts_one (pt_cmpR op_notIn_sign (pv 1) pe_str (by rfl))) (fun _ _ _ _ _ => pv 1)) (pe_lst pa_nil) (by rfl))))), ?_⟩
    have hl : z.length = z.cps.size := rfl
    have hq : ∀ H', Same H H' → Q (.bl ((decide (1 ≤ z.cps.size) && decide (z.cps.size ≤ 8)) && z.cps.toList.all isLow)) H' := fun H' s => q H' s
    clear q
    refine ⟨_, rfl, z, rfl, hs, _, _, rfl, rfl, _, rfl, ite2 (fun e => ?_) (fun e => ?_)⟩
    rotate_left
    · have : ¬ (1 ≤ z.cps.size) := fun h => e (decide_eq_true (by omega))
      rw [decide_eq_false this] at hq
      exact ⟨_, rfl, hq H (Same.refl H)⟩
    · have h1 : 1 ≤ z.length := by have := of_decide_eq_true e; omega
      rw [decide_eq_true (show 1 ≤ z.cps.size from h1), Bool.true_and] at hq
      clear e
      refine ⟨_, _, rfl, rfl, _, rfl, ?_⟩
      have e9 : decide ((z.length : Int) < 9) = decide (z.cps.size ≤ 8) := by
        rw [decide_eq_decide]
        omega
      rw [e9]
      cases hb2 : decide (z.cps.size ≤ 8) with
      | false =>
        rw [hb2, Bool.false_and] at hq
        exact hq H (Same.refl H)
      | true =>
        rw [hb2, Bool.true_and] at hq
        show (if true = true then _ else _)
        rw [if_pos rfl]
        refine ⟨_, rfl, z, rfl, fun D hD => ?_⟩
        refine lc_it (g := gName 1) (vs := [1]) (walk_str (z := z)) (fun j G => G D = some (.lst ((oddS (z.cps.toList.take j)).map V.str)) ∧ Same H G)
          ⟨upd_same, same_new (Same.refl H) hD⟩ (fun j G _ hP => True.intro) (fun j v Gx G hj hP hy => ?_) (fun G hP => ?_)
        · obtain ⟨eD, sm⟩ := hP
          obtain ⟨rfl, c, hc, rfl⟩ := hy
          have hc2 : z.cps.toList[j]? = some c := by rw [Array.getElem?_toList]; exact hc
          have hm : c ∈ z.cps.toList := List.mem_of_getElem? hc2
          have tk : z.cps.toList.take (j + 1) = z.cps.toList.take j ++ [c] := by
            rw [List.take_add_one, hc2]
            rfl
          have et : oddS (z.cps.toList.take (j + 1)) = oddS (z.cps.toList.take j) ++ (if isLow c = true then [] else [one c]) := by
            unfold oddS
            rw [tk, List.filter_append, List.map_append]
            congr 1
            rw [List.filter_cons, List.filter_nil]
            cases isLow c <;> rfl
          have go : ∀ {b : Bool}, b = !isLow c → (if b = true then ∃ acc, G D = some (.lst acc) ∧ acc.length < sizeLine ∧ ((upd G D (.lst (acc ++ [V.str (one c)]))) D = some (.lst ((oddS (z.cps.toList.take (j + 1))).map V.str)) ∧ Same H (upd G D (.lst (acc ++ [V.str (one c)])))) else G D = some (.lst ((oddS (z.cps.toList.take (j + 1))).map V.str)) ∧ Same H G) := fun {b} eb => by
            rw [eb, et]
            cases isLow c with
            | true =>
              rw [if_neg (by decide), if_pos rfl, List.append_nil]
              exact ⟨eD, sm⟩
            | false =>
              rw [if_pos (by decide), if_neg (by decide)]
              refine ⟨_, eD, ?_, ?_, fun b o e => by rw [upd_ne (ne_of_none e hD)]; exact sm b o e⟩
              · rw [List.length_map]
                have : (oddS (z.cps.toList.take j)).length ≤ j := by
                  unfold oddS
                  rw [List.length_map]
                  exact Nat.le_trans (List.length_filter_le _ _) (by rw [List.length_take]; omega)
                have hj' : j < z.cps.size := hj
                omega
              · rw [upd_same, List.map_append]
                rfl
          refine ⟨rfl, _, rfl, c, _, rfl, rfl, _, rfl, ?_⟩
          rw [alpha_mem]
          have g := go (b := !isLow c) rfl
          show if (!isLow c) = true then _ else _
          by_cases h : (!isLow c) = true
          · rw [if_pos h] at g ⊢
            exact ⟨_, rfl, g⟩
          · rw [if_neg h] at g ⊢
            exact g
        · obtain ⟨eD, sm⟩ := hP
          rw [List.take_of_length_le (by rw [Array.length_toList]; exact Nat.le_refl _)] at eD
          refine ⟨Nat.zero_le _, fun l nl => ?_⟩
          have s1 := same_new (o := .lst []) (Same.refl G) nl
          have ok : ∀ y ∈ oddS z.cps.toList, PyData.strOk y = true := fun y hy => by
            unfold oddS at hy
            obtain ⟨c, hc, rfl⟩ := List.mem_map.mp hy
            exact asc_ok (one_asc (ha c (List.mem_filter.mp hc).1))
          refine ⟨.list (tD (oddS z.cps.toList)), .list (tD []), .lst (.inl (.inl (s1 _ _ eD))) (dp_texts _), .lst (.inl (.inl upd_same)) (dp_texts []), shaped_texts ok, shaped_texts nofun, ?_⟩
          rw [PyData.eqv, eqv_texts, odd_nil]
          exact hq _ fun b o e => s1 _ _ (sm b o e)
end
end Kl

set_option maxRecDepth 100000
set_option maxHeartbeats 4000000
/-! ### sorted of a long list of texts -/
namespace Gx
open PySem PySem.Spec PyProof.Rows L2
section
variable {X : Cx}
def rSortedLS (K : PySem.W.Frag) : List V → Hp → VK → Prop := fun vs H Q => ∃ (a : Addr) (xs : List Str), vs = [V.ref a] ∧ SqL K H a (xs.map V.str) ∧ xs.length ≤ 100000 ∧
  ∀ (ys : List Str) (p : Addr), ys.Perm xs → sortedS ys = true → H p = none → Q (.ref p) (upd H p (.lst (ys.map V.str)))
theorem cr_sortedLS : CallR X (.builtin "sorted") (rSortedLS X.K) := by
  intro pins s σ H vs us Q I r h
  obtain ⟨a, xs, rfl, ht, hz, q⟩ := h
  obtain ⟨its, rv, ⟨o, n, ho, hc, _, hd⟩, _⟩ := I.list ht
  rw [Vals.ref1 r]
  have hln : xs.length = its.length := by
    have e := rv.length
    rw [List.length_map] at e
    exact e
  have hS : StrsAre its xs := rv.strs
  have hL : its.length ≤ sizeLine := Nat.le_trans (by omega) (show 100000 ≤ sizeLine by decide)
  refine Calls.call_function_entry kind_sorted plain_sorted entry_sorted (args_sorted1 _) ?_
  unfold Builtin.«sorted»
  refine wpAny_bind (m := checkCount "sorted" 1 1 _) (wpAny_pure ?_)
  refine wpAny_bind (wpAny_collect_seq a (.inl rfl) ho hc hd (fun h' hk => ?_) (by rw [List.size_toArray]; exact hL))
  have I1 : Inv _ pins σ H { s with heap := h' } := I.kept (t' := s.toks) hk
  rw [List.toList_toArray]
  refine wpAny_bind (wpAny_newList ?_ hL)
  have hoL : (h'.push (seqObj "list" its.toArray 0)).get? h'.objs.size = some (seqObj "list" its.toArray 0) := Heap.get?_push_size _ rfl
  show wpAny _ _ _ _ _ { s with heap := h'.push (seqObj "list" its.toArray 0) }
  refine wpAny_bind (wpAny_holding (wpAny_call_entry slot_list_sort ⟨_, hoL, rfl⟩ entry_list_sort
    (list_sort_treeKAny strKind_oneLt (s := { s with heap := h'.push (seqObj "list" its.toArray 0) }) hoL hS.keysOf (fun v₁ v₂ rest e => keyKind_strs (by rw [← e]; exact hS)) hL fun st' hp hs => ⟨_, rfl, ?_⟩) (args_list_sort _)))
  obtain ⟨ys, g1, g2, g3⟩ := sorted_out_str hS hp hs
  obtain ⟨e', he'⟩ := sortedHeap_at (vs := its) (out := (arrOf st').map (·.2)) hoL
  have hlen : (ys.map V.str).length ≤ sizeLine := by
    rw [List.length_map, g2.length_eq, hln]
    exact hL
  refine wpAny_pure ⟨_, rfl, .ref h'.objs.size, upd H h'.objs.size (.lst (ys.map V.str)), I1.laid (t' := s.toks) (fun b u e => ?_) (Nat.le_refl _)
    (show ObjOk X.prog X.w _ _ _ (.lst (ys.map V.str)) from ⟨hlen, ((arrOf st').map (·.2)).toList, e', vals_of_strs g1, by rw [Array.toArray_toList]; exact he'⟩), rfl, q ys _ g2 g3 (I1.hok.fresh (Nat.le_refl _))⟩
  have hb : b < h'.objs.size := Heap.lt_size e
  rw [sortedHeap_old (Nat.ne_of_lt hb) (by rw [size_push']; exact Nat.lt_succ_of_lt hb)]
  exact Heap.get?_push_of_some _ e
end
end Gx

set_option maxRecDepth 100000
set_option maxHeartbeats 4000000
namespace Kl
open PySem PySem.Spec PyProof.Rows L2 Gx Mx
/-! ### _law_making -/
theorem eqv_list04 (xs ys : List Str) : PyData.eqv (.list (tD xs)) (.list (tD ys)) = decide (xs = ys) := by
  rw [PyData.eqv, eqv_texts]
theorem parseM_split (z : Str) : parseM z = if digB (Txt.split z "+") = true ∧ 2 ≤ (Txt.split z "+").length then some (Txt.split z "+") else none := by
  unfold parseM parse3
  by_cases e : z = "0"
  · have h0 : Txt.split ("0" : Str) "+" = [("0" : Str)] := by decide +kernel
    rw [if_pos e, e, h0, if_neg (fun h => absurd h.2 (by decide))]
    rfl
  · rw [if_neg e]
    by_cases c : digB (Txt.split z "+") = true
    · rw [if_pos c]
      by_cases d : 2 ≤ (Txt.split z "+").length
      · rw [if_pos ⟨c, d⟩]
        exact if_pos (decide_eq_true d)
      · rw [if_neg (fun h => d h.2)]
        exact if_neg (fun h => d (of_decide_eq_true h))
    · rw [if_neg c, if_neg (fun h => c h.1)]
      rfl
section
variable {P : Program} {w : World} {K : PySem.W.Frag} {mg : Str → Option Value} {base : Heap}
def spLm : Sp := fun vs H Q _ => ∃ z : Str, vs = [V.str z] ∧ z.length ≤ 200 ∧ AscS z ∧ (∀ p g H', parseM z = some g → Same H H' → H p = none → TupZ H' p (g.map V.str) → Q (.ref p) H') ∧ (∀ H', parseM z = none → Same H H' → Q .non H')
theorem ok_lm {f : Addr} {fd : FuncData} (F : Fun K "_law_making" "_law_making" s_law_making f fd) (T : Top K mg) : FnOk P w K mg base CX0 2 f fd ["_law_word"] spLm := by
  have cn : Cal P w K mg base 1 "_law_is_name" ["_law_word"] spLN := T.d_law_is_name.cal fun f fd F => ok_ln F T
  refine F.ok sc_law_making (fun vs H Q E h => ?_) (fun cdv A outer s H vs Q E hr h => ?_)
  · obtain ⟨z, rfl, _⟩ := h
    rfl
  · obtain ⟨z, rfl, hz, ha, q1, q2⟩ := h
    refine ⟨_, pss_cut (ps_set (i := 1) sc_law_making.nd rfl (.inl rfl) (pe_split (pv 0) pe_str))
      (pss_cut (ps_if (PW.pt (pw_or (pt_not (pt_chain op_le op_le pe_int (pe_callB call_len_seq (by rfl) T.b_len PySem.boot_len (pa_cons (pv 1) pa_nil)) pe_int)) (pw_or1 (pt_cmpR (op_neD hr.units) (pv 1) (pe_callB cr_sortedLS (by rfl) T.b_sorted (by decide +kernel) (pa_cons (pv 1) pa_nil)) (nomark _))))) (pss_one (ps_ret pe_non)) pss_nil)
      (pss_one (ps_ret (pe_ifExp (pt_cmpR (op_eqD hr.units) (pe_lc (own := [("_law_part", 2)]) (g := gName 2) rfl sc_law_making.nd (pi_listK (K := K) rfl (pv 1))
            (blkOk_by (N := ["_law_word", "_law_parts", "_law_part"]) (sc := defScope s_law_making) (by decide +kernel)) (fun _ _ _ _ _ => pg_name (i := 2) sc_law_making.nd rfl (.inl rfl))
            (fun _ _ _ _ _ => pts_one (pt_not (pt_val (pe_cal cn hr (by rfl) (pa_cons (pv 2) pa_nil))))) (fun _ _ _ _ _ => pv 2)) (pe_lst pa_nil) (nomark _)) (pe_callTy call_tupleZ (by rfl) T.b_tuple (by decide +kernel) (pa_cons (pv 1) pa_nil)) pe_non)))), ?_⟩
    have big : 100000 ≤ sizeLine := by decide
    refine ⟨fun σ' G => ∃ l : Addr, σ' = [some (.str z), some (.ref l), none] ∧ G l = some (.lst ((Txt.split z "+").map V.str)) ∧ Same H G, ?_, ?_⟩
    · exact ⟨_, rfl, ⟨_, rfl⟩, z, _, rfl, rfl, rfl, by omega, fun l nl => ⟨l, rfl, upd_same, same_new (Same.refl H) nl⟩⟩
    rintro σ' G1 ⟨l, rfl, el, s1⟩
    have hw : ∀ y ∈ Txt.split z "+", y.length ≤ 200 ∧ AscS y := fun y m => ⟨Nat.le_trans (split_short (by decide +kernel) m) hz, asc_split ha m⟩
    have lw : (Txt.split z "+").length ≤ 201 := by
      have := split_sum (z := z) (y := "+") (by decide +kernel)
      omega
    have pm := parseM_split z
    generalize Txt.split z "+" = ws at *
    have no : ¬ (digB ws = true ∧ 2 ≤ ws.length) → ∀ G, Same H G → Q .non G := fun h G s => q2 G (by rw [pm, if_neg h]) s
    have dg : digB ws = (decide ((ws.length : Int) ≤ 3) && (ws.all nameB && sortedS ws)) := rfl
    refine ⟨fun σ' G => σ' = [some (.str z), some (.ref l), none] ∧ Same G1 G ∧ 2 ≤ ws.length ∧ ws.length ≤ 3 ∧ sortedS ws = true, ?_, ?_⟩
    · refine ⟨_, rfl, l, _, rfl, .inl (.inl (.inl el)), _, _, rfl, rfl, _, rfl, ite2 (fun c2 => ?_) (fun c2 => ?_)⟩
      rotate_left
      · refine ⟨_, rfl, no (fun h => c2 (decide_eq_true ?_)) _ s1⟩
        rw [List.length_map]
        omega
      have h2 : 2 ≤ ws.length := by
        have := of_decide_eq_true c2
        rw [List.length_map] at this
        omega
      refine ⟨_, _, rfl, rfl, _, rfl, ?_⟩
      by_cases h3 : ws.length ≤ 3
      · rw [decide_eq_true (show (((ws.map V.str).length : Nat) : Int) ≤ 3 by rw [List.length_map]; omega)]
        show (if (!true) = true then _ else _)
        rw [if_neg (by decide)]
        refine ⟨_, rfl, _, rfl, l, ws, rfl, .inl (.inl el), by omega, fun ys p2 pm2 srt n2 => ?_⟩
        have s2 := same_new (o := .lst (ys.map V.str)) (Same.refl G1) n2
        have e2 : (upd G1 p2 (.lst (ys.map V.str))) p2 = some (.lst (ys.map V.str)) := upd_same
        generalize upd G1 p2 (.lst (ys.map V.str)) = G2 at *
        have sh1 : SeqAt.shaped (.list (tD ws)) = true := shaped_texts fun y m => asc_ok (hw y m).2
        have sh2 : SeqAt.shaped (.list (tD ys)) = true := shaped_texts fun y m => asc_ok (hw y (pm2.mem_iff.mp m)).2
        refine ⟨.list (tD ws), .list (tD ys), .lst (.inl (.inl (s2 _ _ el))) (dp_texts ws), .lst (.inl (.inl e2)) (dp_texts ys), sh1, sh2, _, rfl, ?_⟩
        rw [eqv_list04]
        refine ite2 (fun c => ?_) (fun c => ?_)
        · refine no (fun h => ?_) _ (s1.trans s2)
          obtain ⟨_, _, hs⟩ := digB_names h.1
          have e : ws = ys := sortedS_unique pm2.symm hs srt
          rw [decide_eq_true e] at c
          cases c
        · have e : ws = ys := Classical.byContradiction fun n => c (by rw [decide_eq_false n]; rfl)
          exact ⟨rfl, s2, h2, h3, by rw [e]; exact srt⟩
      · rw [decide_eq_false (show ¬ (((ws.map V.str).length : Nat) : Int) ≤ 3 by rw [List.length_map]; omega)]
        show (if (!false) = true then _ else _)
        rw [if_pos (by decide)]
        exact no (fun h => h3 (digB_names h.1).1) _ s1
    rintro σ' G2 ⟨rfl, s2, h2, h3, hs⟩
    have el2 := s2 _ _ el
    have s02 := s1.trans s2
    refine ⟨_, rfl, l, rfl, ⟨_, .inl (.inl el2)⟩, fun D nD => ?_⟩
    refine lc_it (walk_list (K := K) (a := l) (xs := ws.map V.str)) (fun j G => G D = some (.lst (((ws.take j).filter fun y => !nameB y).map V.str)) ∧ Same G2 G) ⟨upd_same, same_new (Same.refl _) nD⟩ (fun j G _ h => .inl (.inl (h.2 _ _ el2))) (fun j u Gx G hj h hy => ?_) (fun G h => ?_)
    · obtain ⟨eD, s3⟩ := h
      obtain ⟨rfl, hv⟩ := hy
      rw [List.getElem?_map] at hv
      obtain ⟨y, hy, rfl⟩ := Option.map_eq_some_iff.mp hv
      have hm := hw y (List.mem_of_getElem? hy)
      have etk : (ws.take (j + 1)).filter (fun y => !nameB y) = (ws.take j).filter (fun y => !nameB y) ++ (if (!nameB y) = true then [y] else []) := by
        rw [List.take_add_one, hy, List.filter_append]
        show _ ++ List.filter _ [y] = _
        rw [List.filter_cons, List.filter_nil]
      refine ⟨rfl, _, rfl, y, rfl, hm.2, by omega, fun G4 s4 => ⟨_, rfl, ite2 (fun k => ?_) (fun k => ?_)⟩⟩
      · have eD4 := s4 _ _ eD
        refine ⟨_, rfl, _, eD4, ?_, ?_, fun b u e => by rw [upd_ne (ne_of_none e nD)]; exact s4 _ _ (s3 b u e)⟩
        · rw [List.length_map]
          have := List.length_filter_le (fun y : Str => !nameB y) (ws.take j)
          rw [List.length_take] at this
          omega
        · rw [upd_same, etk, if_pos k, List.map_append]
          rfl
      · refine ⟨?_, s3.trans s4⟩
        rw [etk, if_neg k, List.append_nil]
        exact s4 _ _ eD
    · obtain ⟨eD, s3⟩ := h
      rw [List.length_map, List.take_length] at eD
      refine ⟨Nat.zero_le _, fun e ne => ?_⟩
      have s4 := same_new (o := .lst []) s3 ne
      have eDe : (upd G e (.lst [])) D = some (.lst ((ws.filter fun y => !nameB y).map V.str)) := by rw [upd_ne (ne_of_none eD ne)]; exact eD
      have ee : (upd G e (.lst [])) e = some (.lst (([] : List Str).map V.str)) := upd_same
      generalize upd G e (.lst []) = G5 at *
      refine ⟨.list (tD (ws.filter fun y => !nameB y)), .list (tD ([] : List Str)), .lst (.inl (.inl eDe)) (dp_texts _), .lst (.inl (.inl ee)) .nil, shaped_texts fun y m => asc_ok (hw y (List.mem_filter.mp m).1).2, by decide, _, rfl, ?_⟩
      have eA : decide ((ws.filter fun y => !nameB y) = []) = ws.all nameB := by
        rw [Bool.eq_iff_iff, decide_eq_true_eq, List.filter_eq_nil_iff, List.all_eq_true]
        refine ⟨fun h y m => ?_, fun h y m => by rw [h y m]; decide⟩
        have := h y m
        simpa using this
      rw [eqv_list04, eA]
      refine ite2 (fun c => ?_) (fun c => ?_)
      · have good : digB ws = true := by
          rw [dg, c, hs, decide_eq_true (show (ws.length : Int) ≤ 3 by omega)]
          rfl
        refine ⟨_, rfl, l, _, rfl, .inl (.inl (s4 _ _ el2)), fun p H' hz np sm => ?_⟩
        exact q1 p ws H' (by rw [pm, if_pos ⟨good, h2⟩]) (fun b o e => by rw [sm b (fun z => by have := s02.trans s4 _ _ e; rw [z, np] at this; cases this)]; exact (s02.trans s4) _ _ e) ((s02.trans s4).free np) hz
      · exact no (fun h => c (List.all_eq_true.mpr (digB_names h.1).2.1)) _ (s02.trans s4)
end
end Kl

set_option maxRecDepth 100000
set_option maxHeartbeats 4000000
namespace Gx
open PySem PySem.Spec PyProof.Rows L2 PpSet
/-! ### {text for x in xs}, and its length -/
section
variable {P : Program} {w : World} {A : Around} {E : Value → Shared → Prop} {s : Shared} {a : Addr} {L : List Str}
theorem SetX.typeIs (R : SetX P w s.heap a L) : s.TypeIs (.ref a) "set" := by
  obtain ⟨ob, _, _, _, here, ex, _⟩ := R
  exact ⟨ob, here, ex.1⟩
theorem text_add {z : Str} {tk : Tok} {Q : Value → Shared → Prop} (R : SetX P w s.heap a L) (room : L.length + 1 < scanBound)
    (done : ∀ h2 t2, Heap.SameBut a s.heap h2 → SetX P w h2 a (L ++ [z]) → Q .none { s with heap := h2, toks := t2 }) : wpAny (model P w) A (call (.builtin "set.add") [.ref a, .str z tk]) Q E s := by
  refine wpAny_call_entry PySem.F.slot_set_add R.typeIs PySem.F.entry_set_add ?_ (PySem.F.args_set_add_2 (.ref a) (.str z tk))
  unfold Builtin.«set.add» Builtin.Frozenset.oneOther Builtin.Frozenset.addrOf setAdd
  simp only [List.isEmpty_nil, bind_assoc]
  refine wpAny_bind (m := pure _) (wpAny_pure ?_)
  refine wpAny_bind (m := pure _) (wpAny_pure ?_)
  dsimp only
  refine wpAny_bind (wpAny_holding (wpAny_bind ((PySem.strKind P w).pyHash (strKind_is P w z tk) ?_)))
  refine setX_add (s := { s with toks := s.toks + 1 }) R room fun h2 b2 keep new => ?_
  exact wpAny_pure ⟨Value.none, rfl, done h2 _ keep new⟩
end
section
variable {X : Cx}
theorem setO_ok {P : Program} {w : World} {G : Hp} {h : Heap} {D : Addr} {L : List Str} (R : SetX P w h D L) : ObjOk P w G h D (SetO' P w D L) := by
  obtain ⟨ob, e⟩ : ∃ ob, h.get? D = some ob := by
    obtain ⟨ob, _, _, _, e, _⟩ := id R
    exact ⟨ob, e⟩
  exact ⟨R, ⟨ob, e⟩, fun _ _ p k => SetX.at p k⟩
/-- .add of a text, in the description of the heap -/
theorem add_text {pins : List (Addr × Obj)} {σ : L2.St} {G : Hp} {s : Shared} {E : Value → Shared → Prop} {D : Addr} {L : List Str} {z : Str} {tk : Tok} {Q : Value → Shared → Prop} (J : Inv X pins σ G s) (hD : G D = some (SetO' X.prog X.w D L)) (room : L.length + 1 < scanBound)
    (done : ∀ s2, Inv X pins σ (upd G D (SetO' X.prog X.w D (L ++ [z]))) s2 → Q .none s2) : wpAny (model X.prog X.w) X.A (call (.builtin "set.add") [.ref D, .str z tk]) Q E s := by
  have R : SetX X.prog X.w s.heap D L := (J.hok D _ hD).1
  refine text_add R room fun h2 t2 keep new => done _ ?_
  obtain ⟨ob, _, _, _, e, _⟩ := id new
  exact J.write (e := D) (t' := t2) (by rw [hD]; trivial) (.inl rfl) (fun b u nb eb => (keep.2 b nb).trans eb) ⟨ob, e⟩ (setO_ok new)
/-- {elt for target in iter if ..}, elt a text: D the new set, L what was put in, in this order -/
def tScX (P : Program) (w : World) (wi : TI) (g : TG) (tt : TT) (te : TE) (vs : List Nat) : TE := fun σ G Q => wi σ G fun J G1 => ∀ D, G1 D = none → ∃ V : Nat → Nat → Hp → Prop, (∃ m, V 0 m (upd G1 D (SetO' P w D []))) ∧ ∀ i m G, V i m G →
  (J.stop i G ∧ Q (.ref D) G) ∨ (J.go i G ∧ ∃ Nx : Hp → Prop, (∀ G', Nx G' → ∃ m', m' < m ∧ V (i + 1) m' G') ∧ ∀ x G', J.yld i G x G' → g x (wipe σ vs) G' fun σ2 G2 => wipe σ2 vs = wipe σ vs ∧ tt σ2 G2 fun b G3 =>
    if b = true then te σ2 G3 fun y G4 => ∃ (z : Str) (L : List Str), y = .str z ∧ G4 D = some (SetO' P w D L) ∧ L.length + 1 < scanBound ∧ Nx (upd G4 D (SetO' P w D (L ++ [z]))) else Nx G3)
theorem scX_core {pins : List (Addr × Obj)} {s : Shared} {σ : L2.St} {G : Hp} {Q : VK} {elt tg iter : Expr} {ifs : List Expr} {scope : Scope} {own : List (Str × Nat)} {pos pos' : Pos} {wi : TI} {g : TG} {tt : TT} {te : TE} {use : Option (Value → Sem Unit)} {Qf : Value → Shared → Prop}
    (hc : X.calm = true) (nd : X.N.Nodup) (inv : Inv X pins σ G s) (hi : PI X tg iter wi) (ok : BlkOk X.N X.env.scope scope own)
    (hg : ∀ (s : Shared) (G : Hp) (C : Addr) (cl : List (Str × Addr)) (fp : List Addr), PG (X.blk s G scope (compEnvC scope cl C X.env) fp) tg g) (ht : ∀ (s : Shared) (G : Hp) (C : Addr) (cl : List (Str × Addr)) (fp : List Addr), PTs (X.blk s G scope (compEnvC scope cl C X.env) fp) ifs tt)
    (he : ∀ (s : Shared) (G : Hp) (C : Addr) (cl : List (Str × Addr)) (fp : List Addr), PE (X.blk s G scope (compEnvC scope cl C X.env) fp) elt te) (hs : ∀ x, foldedSetIterable iter X.env x = pure x)
    (want : tScX X.prog X.w wi g tt te (own.map (·.2)) σ G Q)
    (after : ∀ D C s' m G', Inv X pins σ G' s' → Q (.ref D) G' → s'.heap.Ns C m → FpOk X pins G' C → compPost (model X.prog X.w) X.A X.xe use Qf (.ref D) C (.ok .next) s') :
    wpAny (model X.prog X.w) X.A (comprehension (.SetComp elt [⟨tg, iter, ifs, 0⟩] scope pos) scope X.env pos' (newSet (.type "set")) false (eval iter X.env) use) Qf X.xe s := by
  have cells : ∀ y ∈ scope.names, y.2 = .free → ∃ c, X.env.cells.lookup y.1 = some c := by
    intro y hy e
    rcases ok.free y hy e with k | k
    · exact inv.ok.has _ (.inl k)
    · exact inv.ok.has _ (.inr k)
  have uniq : ∀ y ∈ scope.names, y.2 = .local → scope.names.lookup y.1 = some .local := fun y hy e => by
    have k := ok.uniq y hy
    rw [e] at k
    exact k
  refine wpAny_comprehension_free (use := use) rfl hs (closure_ok cells) ok.kind uniq (thn (hi.run pins s σ G _ inv want) fun xv s1 hx => thn hx fun itv s2 h2 => ?_)
  obtain ⟨it, fp, tn, J, G2, rfl, inv2, turns, at2, free2, rest⟩ := h2
  refine newSet_ok (newEnv_comp ?_)
  generalize eD : s2.heap.objs.size = D
  have noD : G2 D = none := inv2.hok.fresh (Nat.le_of_eq eD)
  obtain ⟨V, ⟨m0, v0⟩, turn⟩ := rest D noD
  -- the set is laid
  generalize es3 : ({ s2 with heap := s2.heap.push { cls := .type "set", dict := none, data := .set #[] 0 (.fresh 0 0 (!X.w.params.followText "set-order")) } } : Shared) = s3
  have hp3 : s3.heap = s2.heap.push { cls := .type "set", dict := none, data := .set #[] 0 (.fresh 0 0 (!X.w.params.followText "set-order")) } := by rw [← es3]
  have inv3 : Inv X pins σ (upd G2 D (SetO' X.prog X.w D [])) s3 := by
    rw [← es3]
    refine inv2.laid (t' := s2.toks) (fun b o e => Heap.get?_push_of_some _ e) (Nat.le_of_eq eD) ?_
    rw [← eD]
    exact setO_ok setX_fresh
  have low : ∀ b ∈ fp, b < s2.heap.objs.size := by
    intro b hb
    obtain ⟨o, e, _⟩ := turns.obj _ _ at2 b hb
    exact Heap.lt_size e
  have free3 : ∀ b ∈ fp, FpOk X pins (upd G2 D (SetO' X.prog X.w D [])) b ∧ b < s3.heap.objs.size := by
    intro b hb
    have lt := low b hb
    have ne : b ≠ D := by
      rw [← eD]
      exact Nat.ne_of_lt lt
    refine ⟨⟨by rw [upd_ne ne]; exact (free2 b hb).1, (free2 b hb).2⟩, ?_⟩
    rw [hp3, Heap.size_push]
    exact Nat.lt_succ_of_lt lt
  have at3 : tn 0 s3.heap := turns.keep _ _ _ at2 fun b _ o e => by
    rw [hp3]
    exact Heap.get?_push_of_some _ e
  have inv4 := block_start inv3 ok nd free3
  have pg := hg s3 (upd G2 D (SetO' X.prog X.w D [])) s3.heap.objs.size (cellsFrom (s3.heap.objs.size + 1) scope.names (cloFrom X.env.cells scope.names [])) fp
  have pt := ht s3 (upd G2 D (SetO' X.prog X.w D [])) s3.heap.objs.size (cellsFrom (s3.heap.objs.size + 1) scope.names (cloFrom X.env.cells scope.names [])) fp
  have pe := he s3 (upd G2 D (SetO' X.prog X.w D [])) s3.heap.objs.size (cellsFrom (s3.heap.objs.size + 1) scope.names (cloFrom X.env.cells scope.names [])) fp
  have none3 : ∀ b ∈ fp, (upd G2 D (SetO' X.prog X.w D [])) b = none := fun b hb => (free3 b hb).1.1
  show codeAny _ _ (.compStart (.SetComp elt [⟨tg, iter, ifs, 0⟩] scope pos) 0 (.ref it) (.ref D) (compEnvC scope (cellsFrom (s3.heap.objs.size + 1) scope.names (cloFrom X.env.cells scope.names [])) s3.heap.objs.size X.env))
    (compPost (model X.prog X.w) X.A X.xe use Qf (.ref D) s3.heap.objs.size) { s3 with heap := pushCells (s3.heap.push { cls := .type "dict", data := .dict #[] }) scope.names }
  generalize en : compEnvC scope (cellsFrom (s3.heap.objs.size + 1) scope.names (cloFrom X.env.cells scope.names [])) s3.heap.objs.size X.env = inner at inv4 pg pt pe ⊢
  have own1 : inner.locals = s3.heap.objs.size := by
    subst en
    rfl
  generalize eG3 : upd G2 D (SetO' X.prog X.w D []) = G3 at inv3 inv4 pg pt pe v0 none3 free3
  generalize es4 : ({ s3 with heap := pushCells (s3.heap.push { cls := .type "dict", data := .dict #[] }) scope.names } : Shared) = s4 at inv4 ⊢
  have at4 : tn 0 s4.heap := turns.keep _ _ _ at3 fun b _ o e => by
    rw [← es4]
    exact pushCells_keeps _ _ _ _ (Heap.get?_push_of_some _ e)
  have quiet : ∀ {σ' : L2.St} {G' : Hp} {s' : Shared}, Inv (X.blk s3 G3 scope inner fp) [] σ' G' s' → (∀ b ∈ fp, G' b = none) → ∀ b ∈ fp, FpOk (X.blk s3 G3 scope inner fp) [] G' b := by
    intro σ' G' s' J' hn b hb
    refine ⟨hn b hb, (J'.ok.exf b hb).1, J'.ok.exfs b hb, .inl hb, fun x c e => (J'.ok.exf b hb).2 x c e, fun p hp => ?_⟩
    exact absurd (show p ∈ ([] : List (Addr × Obj)) ++ [] from hp) (by simp)
  refine (fun loop => codeAny_compStart_set loop (turns.self X.A 0 _ _ _ at4 loop)) ?_
  refine compLoopS_any (fun n s' => ∃ i G', Inv (X.blk s3 G3 scope inner fp) [] (wipe σ (own.map (·.2))) G' s' ∧ tn i s'.heap ∧ (∀ b ∈ fp, G' b = none) ∧ V i n G') ?_ m0 ⟨0, G3, inv4, at4, none3, v0⟩
  rintro n s5 ⟨i, G5, inv5, at5, none5, v5⟩
  rcases turn i n G5 v5 with ⟨stop, qq⟩ | ⟨go, Nx, small, step⟩
  · -- no item is left
    refine thnF (turns.done (X.blk s3 G3 scope inner fp) rfl rfl rfl hc i [] s5 _ G5 (fun _ _ => False) inv5 (quiet inv5 none5) at5 stop) fun r s6 ⟨hr, inv6⟩ => ?_
    subst hr
    have back : Inv X pins σ G5 s6 := inv3.call' (ch := fp) inv6.os inv6.base inv6.hok inv6.bare fun b hb => ⟨(free3 b hb).1.2.2.2.1, (free3 b hb).1.2.1, (free3 b hb).1.2.2.2.2.1, (free3 b hb).1.2.2.2.2.2⟩
    have noC : G5 s3.heap.objs.size = none := by
      have k : G5 inner.locals = none := inv6.free
      rwa [own1] at k
    obtain ⟨m, ns, _⟩ := inv6.loc
    have ns' : s6.heap.Ns inner.locals m := ns
    rw [own1] at ns'
    exact after D s3.heap.objs.size s6 m G5 back qq ns' (inv3.fpOk (Nat.le_refl _) noC)
  · -- one item more
    refine thnF (turns.item (X.blk s3 G3 scope inner fp) rfl rfl rfl hc i [] s5 _ G5 (fun _ _ => False) inv5 (quiet inv5 none5) at5 go) fun r s6 ⟨u, hr, h6⟩ => ?_
    subst hr
    refine thnF h6 fun _ s7 ⟨x, G7, inv7, rel7, y7, at7, none7⟩ => ?_
    have pinned := inv7.pinned (quiet inv7 none7) (turns.obj _ _ at7)
    refine thnF (pg.run _ s7 _ G7 x u _ pinned rel7 (step x G7 y7)) fun _ s8 ⟨σ8, G8, inv8, same8, q8⟩ => ?_
    refine thnF (pt.run _ s8 σ8 G8 _ inv8 q8) fun b s9 ⟨G9, inv9, q9⟩ => ?_
    have over : ∀ {s' : Shared} {G' : Hp}, Inv (X.blk s3 G3 scope inner fp) ([] ++ pinsAt fp s7.heap) σ8 G' s' → Nx G' → ∃ m, m < n ∧ ∃ i G', Inv (X.blk s3 G3 scope inner fp) [] (wipe σ (own.map (·.2))) G' s' ∧ tn i s'.heap ∧ (∀ b ∈ fp, G' b = none) ∧ V i m G' := by
      intro s' G' J' nx
      obtain ⟨m', lt, v'⟩ := small G' nx
      have held : ∀ b ∈ fp, ∀ o, s7.heap.get? b = some o → s'.heap.get? b = some o ∧ G' b = none := by
        intro b hb o e
        have k := J'.pin (b, o) (List.mem_append_right _ (List.mem_append_right _ (mem_pinsAt hb e)))
        exact ⟨k.1, k.2.1⟩
      have len : (wipe σ (own.map (·.2))).length = σ8.length := by
        rw [← same8]
        exact wipe_length ..
      refine ⟨m', lt, i + 1, G', (J'.unpinned (pins := [])).weak len (fun j v e => ?_), turns.keep _ _ _ at7 fun b hb o e => (held b hb o e).1, fun b hb => ?_, v'⟩
      · rw [← same8] at e
        exact (wipe_some e).1
      · obtain ⟨o, e, _⟩ := turns.obj _ _ at7 b hb
        exact (held b hb o e).2
    cases b with
    | false =>
      rw [if_neg (by decide)] at q9
      rw [if_neg (by decide)]
      exact over inv9 q9
    | true =>
      rw [if_pos rfl] at q9
      rw [if_pos rfl]
      refine thnF (pe.run _ s9 σ8 G9 _ inv9 q9) fun val s10 ⟨y, G10, inv10, rel10, z, L, ey, atD, few, nx⟩ => ?_
      subst ey
      obtain ⟨tk, rfl⟩ := rel10
      exact add_text (X := X.blk s3 G3 scope inner fp) inv10 atD few fun s11 inv11 => over inv11 nx
/-- .. as a value -/
theorem pe_scX {elt tg iter : Expr} {ifs : List Expr} {scope : Scope} {own : List (Str × Nat)} {pos : Pos} {wi : TI} {g : TG} {tt : TT} {te : TE} (hc : X.calm = true) (nd : X.N.Nodup) (hi : PI X tg iter wi) (ok : BlkOk X.N X.env.scope scope own)
    (hg : ∀ (s : Shared) (G : Hp) (C : Addr) (cl : List (Str × Addr)) (fp : List Addr), PG (X.blk s G scope (compEnvC scope cl C X.env) fp) tg g) (ht : ∀ (s : Shared) (G : Hp) (C : Addr) (cl : List (Str × Addr)) (fp : List Addr), PTs (X.blk s G scope (compEnvC scope cl C X.env) fp) ifs tt)
    (he : ∀ (s : Shared) (G : Hp) (C : Addr) (cl : List (Str × Addr)) (fp : List Addr), PE (X.blk s G scope (compEnvC scope cl C X.env) fp) elt te) (hs : ∀ x, foldedSetIterable iter X.env x = pure x := by intro _; rfl) :
    PE X (.SetComp elt [⟨tg, iter, ifs, 0⟩] scope pos) (tScX X.prog X.w wi g tt te (own.map (·.2))) := by
  refine ⟨fun pins s σ G Q inv want => ?_⟩
  rw [eval_SetComp]
  refine scX_core hc nd inv hi ok hg ht he hs want fun D C s' m G' inv' q ns f => ⟨m, ns, fun h2 sb => ?_⟩
  obtain ⟨f0, f1, _, f3, f4, f5⟩ := f
  exact ⟨.ref D, G', inv'.turned (t' := s'.toks) (fun b o hb e => (sb.2 b hb).trans e) f0 f1 f3 f4 f5, rfl, q⟩
/-- len of a set of texts that came once each -/
theorem cr_lenX : CallR X (.builtin "len") (fun xs G Q => ∃ (a : Addr) (L : List Str), xs = [.ref a] ∧ G a = some (SetO' X.prog X.w a L) ∧ L.Nodup ∧ L.length ≤ 1000 ∧ Q (.int (L.length : Nat)) G) := by
  intro pins s σ G xs us Q inv r want
  obtain ⟨a, L, rfl, ea, nd, few, q⟩ := want
  rw [Vals.ref1 r]
  obtain ⟨ob, ms, ep, tb, here, ex, dt, _, nd2, mem, _, ft, _⟩ : SetX X.prog X.w s.heap a L := (inv.hok a _ ea).1
  have size : ms.size = L.length := by
    have p := ((List.perm_ext_iff_of_nodup nd nd2).mpr mem).length_eq
    rw [List.length_map, Array.length_toList] at p
    exact p.symm
  refine call_len_set here ex dt ft (by rw [size]; omega) ⟨.int (L.length : Nat), G, inv.tok _, ⟨_, by rw [size]⟩, q⟩
/-- over any walk -/
theorem sc_it {P : Program} {w : World} {J : It} {n : Nat} {C : Hp → Prop} {Y : Nat → Hp → V → Hp → Prop} (k : Walk J n C Y) {g : TG} {tt : TT} {te : TE} {vs : List Nat} {σ : L2.St} {G1 : Hp} {D : Addr} {Qd : Hp → Prop} (Pv : Nat → Hp → Prop) (h0 : Pv 0 (upd G1 D (SetO' P w D [])))
    (hC : ∀ i G, i ≤ n → Pv i G → C G)
    (hs : ∀ i x G G', i < n → Pv i G → Y i G x G' → g x (wipe σ vs) G' fun σ2 G2 => wipe σ2 vs = wipe σ vs ∧ tt σ2 G2 fun b G3 =>
      if b = true then te σ2 G3 fun y G4 => ∃ (z : Str) (L : List Str), y = .str z ∧ G4 D = some (SetO' P w D L) ∧ L.length + 1 < scanBound ∧ Pv (i + 1) (upd G4 D (SetO' P w D (L ++ [z]))) else Pv (i + 1) G3) (hd : ∀ G, Pv n G → Qd G) :
    ∃ V : Nat → Nat → Hp → Prop, (∃ m, V 0 m (upd G1 D (SetO' P w D []))) ∧ ∀ i m G, V i m G →
      (J.stop i G ∧ Qd G) ∨ (J.go i G ∧ ∃ Nx : Hp → Prop, (∀ G', Nx G' → ∃ m', m' < m ∧ V (i + 1) m' G') ∧ ∀ x G', J.yld i G x G' → g x (wipe σ vs) G' fun σ2 G2 => wipe σ2 vs = wipe σ vs ∧ tt σ2 G2 fun b G3 =>
        if b = true then te σ2 G3 fun y G4 => ∃ (z : Str) (L : List Str), y = .str z ∧ G4 D = some (SetO' P w D L) ∧ L.length + 1 < scanBound ∧ Nx (upd G4 D (SetO' P w D (L ++ [z]))) else Nx G3) := by
  refine ⟨fun i m G => m = n - i ∧ i ≤ n ∧ Pv i G, ⟨n, rfl, Nat.zero_le n, h0⟩, ?_⟩
  rintro i m G ⟨rfl, le, p⟩
  have c := hC i G le p
  rcases Nat.lt_or_eq_of_le le with lt | rfl
  · exact .inr ⟨k.goes i G lt c, Pv (i + 1), fun G' p' => ⟨n - (i + 1), by omega, rfl, lt, p'⟩, fun x G' y => hs i x G G' lt p (k.yields i G x G' lt c y)⟩
  · exact .inl ⟨k.stops G c, hd G p⟩
end
end Gx

set_option maxRecDepth 100000
set_option maxHeartbeats 4000000
namespace Gx
open PySem PySem.Spec PyProof.Rows L2
/-! ### len of a set of texts, some of them alike -/
theorem nodup_le : ∀ {ms L : List Str}, ms.Nodup → (∀ z ∈ ms, z ∈ L) → ms.length ≤ L.length
  | [], _, _, _ => Nat.zero_le _
  | x :: ms, L, nd, h => by
    obtain ⟨n1, n2⟩ := List.nodup_cons.mp nd
    have hx := h x List.mem_cons_self
    have ih := nodup_le (L := L.erase x) n2 fun z hz => (List.mem_erase_of_ne fun e => n1 (by rw [← e]; exact hz)).mpr (h z (List.mem_cons_of_mem _ hz))
    rw [List.length_erase_of_mem hx] at ih
    have := List.length_pos_of_mem hx
    rw [List.length_cons]
    omega
theorem nodup_back : ∀ {L ms : List Str}, ms.Nodup → (∀ z, z ∈ ms ↔ z ∈ L) → ms.length = L.length → L.Nodup
  | [], _, _, _, _ => List.nodup_nil
  | x :: L, ms, nd, e, hl => by
    rw [List.length_cons] at hl
    have hx : x ∈ ms := (e x).mpr List.mem_cons_self
    by_cases c : x ∈ L
    · have := nodup_le nd fun z hz => by
        rcases List.mem_cons.mp ((e z).mp hz) with rfl | h
        · exact c
        · exact h
      omega
    · refine List.nodup_cons.mpr ⟨c, nodup_back (ms := ms.erase x) (nd.erase x) (fun z => ?_) (by rw [List.length_erase_of_mem hx]; omega)⟩
      rw [nd.mem_erase_iff, e, List.mem_cons]
      constructor
      · rintro ⟨h1, h2⟩
        exact h2.resolve_left h1
      · intro h
        exact ⟨fun q => c (by rw [← q]; exact h), .inr h⟩
theorem cr_lenX2 {X : Cx} : CallR X (.builtin "len") (fun xs G Q => ∃ (a : Addr) (L : List Str), xs = [.ref a] ∧ G a = some (SetO' X.prog X.w a L) ∧ L.length ≤ 1000 ∧ ∀ m : Nat, m ≤ L.length → (m = L.length ↔ L.Nodup) → Q (.int (m : Nat)) G) := by
  intro pins s σ G xs us Q inv r want
  obtain ⟨a, L, rfl, ea, few, q⟩ := want
  rw [Vals.ref1 r]
  obtain ⟨ob, ms, ep, tb, here, ex, dt, _, nd2, mem, _, ft, _⟩ : SetX X.prog X.w s.heap a L := (inv.hok a _ ea).1
  have sz : (ms.toList.map txE).length = ms.size := by rw [List.length_map, Array.length_toList]
  have mem2 : ∀ z, z ∈ ms.toList.map txE ↔ z ∈ L := fun z => (mem z).symm
  have le : ms.size ≤ L.length := by
    rw [← sz]
    exact nodup_le nd2 fun z hz => (mem2 z).mp hz
  refine call_len_set here ex dt ft (by omega) ⟨.int (ms.size : Nat), G, inv.tok _, ⟨_, rfl⟩, q ms.size le ⟨fun h => nodup_back nd2 mem2 (by rw [sz]; exact h), fun h => ?_⟩⟩
  have p := ((List.perm_ext_iff_of_nodup h nd2).mpr mem).length_eq
  rw [sz] at p
  exact p.symm
end Gx

set_option maxRecDepth 100000
set_option maxHeartbeats 4000000
namespace Gx
open PySem PySem.Spec PyProof.Rows L2
/-- len of a set of texts: of any list without doubles that has the same texts -/
theorem cr_lenX3 {X : Cx} : CallR X (.builtin "len") (fun xs G Q => ∃ (a : Addr) (L : List Str), xs = [.ref a] ∧ G a = some (SetO' X.prog X.w a L) ∧ L.length ≤ 1000 ∧ ∀ m : Nat, (∀ ns : List Str, ns.Nodup → (∀ z, z ∈ ns ↔ z ∈ L) → m = ns.length) → Q (.int (m : Nat)) G) := by
  intro pins s σ G xs us Q inv r want
  obtain ⟨a, L, rfl, ea, few, q⟩ := want
  rw [Vals.ref1 r]
  obtain ⟨ob, ms, ep, tb, here, ex, dt, _, nd2, mem, _, ft, _⟩ : SetX X.prog X.w s.heap a L := (inv.hok a _ ea).1
  have sz : (ms.toList.map txE).length = ms.size := by rw [List.length_map, Array.length_toList]
  have mem2 : ∀ z, z ∈ ms.toList.map txE ↔ z ∈ L := fun z => (mem z).symm
  have le : ms.size ≤ L.length := by
    rw [← sz]
    exact nodup_le nd2 fun z hz => (mem2 z).mp hz
  refine call_len_set here ex dt ft (by omega) ⟨.int (ms.size : Nat), G, inv.tok _, ⟨_, rfl⟩, q ms.size fun ns n1 n2 => ?_⟩
  have p := ((List.perm_ext_iff_of_nodup nd2 n1).mpr fun z => (mem2 z).trans (n2 z).symm).length_eq
  rw [sz] at p
  exact p
end Gx

set_option maxRecDepth 100000
set_option maxHeartbeats 4000000
namespace Kl
open PySem PySem.Spec PyProof.Rows L2 Gx Mx
/-! ### _law_read -/
theorem op_notInSeqK {X : Cx} {K : PySem.W.Frag} (hk : X.K = K) : OpR X (compareOp .NotIn) (rIn K true) := by
  subst hk
  exact op_notIn_seq
theorem sqL_same04 {K : PySem.W.Frag} {H H' : Hp} {a : Addr} {xs : List V} (s : Same H H') (h : SqL K H a xs) : SqL K H' a xs := by
  rcases h with (h | ⟨o, h⟩) | h
  · exact .inl (.inl (s _ _ h))
  · exact .inl (.inr ⟨o, s _ _ h⟩)
  · exact .inr h
/-- the leaf told so far -/
def leafV (qs : List Pl) : V := match leafOf qs with | some z => .str z | none => .non
theorem leafV_non {qs : List Pl} : leafV qs = .non ↔ leafOf qs = none := by
  unfold leafV
  cases leafOf qs with
  | none => exact ⟨fun _ => rfl, fun _ => rfl⟩
  | some z => exact ⟨(fun h => by cases h), (fun h => by cases h)⟩
theorem leafOf_app (qs : List Pl) (p : Pl) : leafOf (qs ++ [p]) = (leafOf qs).or (leafOf [p]) := List.findSome?_append
theorem maksOf_app (qs : List Pl) (p : Pl) : maksOf (qs ++ [p]) = maksOf qs ++ maksOf [p] := List.filterMap_append
theorem place_l {qs : List Pl} {z : Str} : plK (.l z) ∈ qs.map plK ↔ leafOf qs ≠ none := by
  induction qs with
  | nil => exact ⟨fun h => (nomatch h), fun h => absurd rfl h⟩
  | cons p qs ih =>
    rw [List.map_cons, List.mem_cons]
    cases p with
    | l y => exact ⟨fun _ h => (nomatch h), fun _ => .inl rfl⟩
    | k n g => exact ⟨fun h => h.elim (fun h => absurd h plK_lk) ih.mp, fun h => .inr (ih.mpr h)⟩
theorem place_k {qs : List Pl} {n : Str} {g : List Str} : plK (.k n g) ∈ qs.map plK ↔ n ∈ keysOf (maksOf qs) := by
  constructor
  · intro h
    obtain ⟨p, m, e⟩ := List.mem_map.mp h
    cases p with
    | l y => exact absurd e plK_lk
    | k n' g' => exact List.mem_map.mpr ⟨(n', g'), maksOf_mem.mpr m, plK_k e⟩
  · intro h
    obtain ⟨x, m, e⟩ := List.mem_map.mp h
    refine List.mem_map.mpr ⟨_, maksOf_mem.mp m, ?_⟩
    show keyT ["kind", x.1] = keyT ["kind", n]
    rw [e]
theorem name_sok {z : Str} (h : nameB z = true) : PyData.strOk z = true := by
  unfold nameB at h
  rw [Bool.and_eq_true] at h
  show z.cps.all _ = true
  rw [Array.all_eq_true']
  intro c hc
  have l := List.all_eq_true.mp h.2 c (Array.mem_toList_iff.mpr hc)
  have := isLow_lt l
  exact decide_eq_true (by omega)
/-- the same texts, each once -/
theorem nd_ex : ∀ L : List Str, ∃ ns : List Str, ns.Nodup ∧ ∀ z, z ∈ ns ↔ z ∈ L
  | [] => ⟨[], List.nodup_nil, fun _ => Iff.rfl⟩
  | x :: L => by
    obtain ⟨ns, h1, h2⟩ := nd_ex L
    by_cases c : x ∈ ns
    · exact ⟨ns, h1, fun z => by
        rw [List.mem_cons, ← h2]
        exact ⟨.inr, fun h => h.elim (fun e => by rw [e]; exact c) id⟩⟩
    · exact ⟨x :: ns, List.nodup_cons.mpr ⟨c, h1⟩, fun z => by rw [List.mem_cons, List.mem_cons, h2]⟩
section
variable {P : Program} {w : World} {K : PySem.W.Frag} {mg : Str → Option Value} {base : Heap}
abbrev NRD : List Str := ["_law_lines", "_law_leaf", "_law_makings", "_law_at", "_law_line", "_law_words", "_law_tells_leaf", "_law_tells_kind", "_law_known", "_law_parts", "_law_name", "_law_part"]
def spRr (K : PySem.W.Frag) : Sp := fun vs H Q _ => ∃ (lp : Addr) (xs : List V), vs = [.ref lp] ∧ SqL K H lp xs ∧ (∀ v ∈ xs, LnV K H v) ∧ xs.length ≤ 20 ∧
  (∀ i H', readL [] 0 (xs.map tellV) = .inr i → Same H H' → Q (.str (parseT i)) H') ∧
  (∀ qs H', readL [] 0 (xs.map tellV) = .inl qs → ¬ GoodQ qs → Same H H' → Q (.str "kinds") H') ∧
  ∀ qs leaf t md kvs H', readL [] 0 (xs.map tellV) = .inl qs → leafOf qs = some leaf → Vld leaf (maksOf qs) → Same H H' → SqT K H' t [.str leaf, .ref md] → H' md = some (.dK kvs) → MakAt H' kvs (maksOf qs) → Q (.ref t) H'
theorem ok_rr {f : Addr} {fd : FuncData} (F : Fun K "_law_read" "_law_read" s_law_read f fd) (T : Top K mg) : FnG P w K mg base CX0 3 f fd ["_law_lines"] (spRr K) := by
  have cn : Cal P w K mg base 2 "_law_is_name" ["_law_word"] spLN := (T.d_law_is_name.cal fun f fd F => ok_ln F T).mono (by decide)
  have cm : Cal P w K mg base 2 "_law_making" ["_law_word"] spLm := T.d_law_making.cal fun f fd F => ok_lm F T
  refine okG F sc_law_read (fun vs H Q E h => ?_) (fun cdv A outer s H vs Q E hg hr h => ?_)
  · obtain ⟨lp, xs, rfl, _⟩ := h
    rfl
  · obtain ⟨lp, xs, rfl, hS, hv, lx, q1, q2, q⟩ := h
    have hu := hu_of hr
    refine ⟨_, pss_cut (ps_par (i := 1) (j := 2) rfl sc_law_read.nd rfl rfl (by decide) rfl rfl (pa_cons pe_non (pa_cons pe_dnewK pa_nil)) rfl)
      (pss_cut (ps_for PassesOwn.never rfl (pi_enum (by rfl) T.b_enumerate (pa_cons (pv 0) pa_nil)) (pg_tup (n := 2) rfl (pgs_cons (pg_name (i := 3) sc_law_read.nd rfl (.inl rfl)) (pgs_cons (pg_name (i := 4) sc_law_read.nd rfl (.inl rfl)) pgs_nil)))
        (pss_cut (ps_set (i := 5) sc_law_read.nd rfl (.inl rfl) (pe_ifExp (pt_val (pe_callB call_isi (by rfl) T.b_isinstance (by decide +kernel) (pa_cons (pv 4) (pa_cons (pe_bltn (v := .ty "str") (by rfl) T.b_str (by decide +kernel) rfl) pa_nil)))) (pe_split (pv 4) pe_str) (pe_lst (pa_cons pe_str pa_nil))))
        (pss_cut (ps_set (i := 6) sc_law_read.nd rfl (.inl rfl) (pe_and (pe_cmpR op_eq (pe_ix ix_list (pv 5) pe_int (fun _ _ => rfl)) pe_str (nomark _)) (pe_and (pe_cmpR op_eq (pe_callB call_len_seq (by rfl) T.b_len PySem.boot_len (pa_cons (pv 5) pa_nil)) pe_int (nomark _)) (pe_and (pe_cal cn hr (by rfl) (pa_cons (pe_ix ix_list (pv 5) pe_int (fun _ _ => rfl)) pa_nil)) (pe_one (pe_cmpR op_isN (pv 1) pe_non (nomark _)))))))
        (pss_cut (ps_set (i := 7) sc_law_read.nd rfl (.inl rfl) (pe_and (pe_cmpR op_eq (pe_ix ix_list (pv 5) pe_int (fun _ _ => rfl)) pe_str (nomark _)) (pe_and (pe_cmpR op_eq (pe_callB call_len_seq (by rfl) T.b_len PySem.boot_len (pa_cons (pv 5) pa_nil)) pe_int (nomark _)) (pe_and (pe_cal cn hr (by rfl) (pa_cons (pe_ix ix_list (pv 5) pe_int (fun _ _ => rfl)) pa_nil)) (pe_one (pe_cmp (pc_dnotin hu (pe_ix ix_list (pv 5) pe_int (fun _ _ => rfl)) (pv 2))))))))
        (pss_one (ps_if (pt_val (pv 6)) (pss_one (ps_set (i := 1) sc_law_read.nd rfl (.inl rfl) (pe_ix ix_list (pv 5) pe_int (fun _ _ => rfl)))) (pss_one (ps_if (PW.pt (pw_and (pt_val (pv 7)) (pw_and1 (pt_cmpR op_notN (pe_cal cm hr (by rfl) (pa_cons (pe_ix ix_list (pv 5) pe_int (fun _ _ => rfl)) pa_nil)) pe_non (nomark _))))) (pss_one (ps_asg (pe_cal cm hr (by rfl) (pa_cons (pe_ix ix_list (pv 5) pe_int (fun _ _ => rfl)) pa_nil)) (pg_sub (pv 2) (pe_ix ix_list (pv 5) pe_int (fun _ _ => rfl)) (set_dict hu)))) (pss_one (ps_ret (pe_op op_add_str pe_str (pe_callB (call_reprK (K := K) (by exact rfl) (by exact hg) (by exact hr.units)) (by rfl) T.b_repr (by decide +kernel) (pa_cons (pv 3) pa_nil)))))))))))))
      (pss_cut (ps_set (i := 8) sc_law_read.nd rfl (.inr rfl) (pe_op op_cat (pe_lst (pa_cons (pv 1) pa_nil)) (pe_callTy (call_listD rfl) (by rfl) T.b_list (by decide +kernel) (pa_cons (pv 2) pa_nil))))
      (pss_cut (ps_set (i := 9) sc_law_read.nd rfl (.inl rfl) (pe_lst pa_nil))
      (pss_cut (ps_lock (ps_for PassesOwn.never rfl (pi_keys (pv 2)) (pg_name (i := 10) sc_law_read.nd rfl (.inl rfl)) (pss_one (ps_expr (pe_bm PySem.F.plainAttrs_list PySem.F.slot_list_extend PySem.F.type_list_extend mt_extend (pv 9) (pa_cons (pe_lc (own := [("_law_part", 11)]) (g := gName 11) rfl sc_law_read.nd (pi_tupK (K := K) (by exact rfl) (pe_dget hu (pv 2) (pv 10) (fun _ _ => rfl))) (blkOk_by (N := NRD) (sc := defScope s_law_read) (by decide +kernel)) (fun _ _ _ _ _ => pg_name (i := 11) sc_law_read.nd rfl (.inl rfl)) (fun _ _ _ _ _ => pts_one (pt_cmpR (op_notInSeqK (K := K) (by exact rfl)) (pv 11) (pv 8) (by rfl))) (fun _ _ _ _ _ => pv 11)) pa_nil))))))
      (pss_one (ps_ret (pe_ifExp (PW.pt (pw_or (pt_cmpR op_isN (pv 1) pe_non (nomark _)) (pw_or (pt_cmpR (op_neD hr.units) (pv 9) (pe_lst pa_nil) (nomark _)) (pw_or1 (pt_cmpR op_gt (pe_callB cr_lenX3 (by rfl) T.b_len PySem.boot_len (pa_cons (pe_callTy (cr_setX rfl) (by rfl) T.b_set (by decide +kernel) (pa_cons (pv 8) pa_nil)) pa_nil)) pe_int (nomark _)))))) pe_str (pe_tup (pa_cons (pv 1) (pa_cons (pv 2) pa_nil)))))))))), ?_⟩
    have big : 100000 ≤ sizeLine := by decide
    -- nothing told
    refine ⟨fun σ' G => ∃ md : Addr, σ' = [some (.ref lp), some .non, some (.ref md), none, none, none, none, none, none, none, none, none] ∧ H md = none ∧ G md = some (.dK []) ∧ (∀ b u, H b = some u → G b = some u), ?_, ?_⟩
    · refine fun md nm => ⟨_, _, rfl, md, rfl, nm, upd_same, same_new (Same.refl H) nm⟩
    rintro σ' G0 ⟨md, rfl, nm, em, s0⟩
    -- the lines
    refine ⟨fun σ' G => ∃ (qs : List Pl) (kvs : List (Key × V)) (t3 t4 t5 t6 t7 : Option V), σ' = [some (.ref lp), some (leafV qs), some (.ref md), t3, t4, t5, t6, t7, none, none, none, none] ∧ readL [] 0 (xs.map tellV) = .inl qs ∧ G md = some (.dK kvs) ∧ MakAt G kvs (maksOf qs) ∧ Same H G, ?_, ?_⟩
    · refine ⟨_, rfl, lp, xs, rfl, sqL_same04 s0 hS, ?_⟩
      refine for_it (walk_enum (K := K) (a := lp) (xs := xs)) (fun j σ' G => ∃ (qs : List Pl) (kvs : List (Key × V)) (t3 t4 t5 t6 t7 : Option V), σ' = [some (.ref lp), some (leafV qs), some (.ref md), t3, t4, t5, t6, t7, none, none, none, none] ∧ readL [] 0 ((xs.take j).map tellV) = .inl qs ∧ G md = some (.dK kvs) ∧ MakAt G kvs (maksOf qs) ∧ Same H G)
        ⟨[], [], none, none, none, none, none, rfl, rfl, em, .nil, s0⟩ (fun j σ' G _ h => by obtain ⟨_, _, _, _, _, _, _, _, _, _, _, sm⟩ := h; exact sqL_same04 sm hS) (fun j v σ' G G2 hj h hy => ?_) (fun σ' G h => ?_)
      rotate_left
      · obtain ⟨qs, kvs, t3, t4, t5, t6, t7, rfl, h1, h2, h3, sm⟩ := h
        rw [List.take_length] at h1
        exact ⟨qs, kvs, t3, t4, t5, t6, t7, rfl, h1, h2, h3, sm⟩
      obtain ⟨qs, kvs, t3, t4, t5, t6, t7, rfl, h1, h2, hM, sm⟩ := h
      obtain ⟨u, x, y, rfl, nu, rfl, hx, hy2⟩ := hy
      cases hx
      have hy2 : xs[j]? = some y := hy2
      have my := List.mem_of_getElem? hy2
      have s2 := same_new (o := .tup [V.int (j : Nat), y]) (Same.refl G) nu
      have eu : (upd G u (.tup [V.int (j : Nat), y])) u = some (.tup [V.int (j : Nat), y]) := upd_same
      generalize upd G u (.tup [V.int (j : Nat), y]) = G2 at *
      refine ⟨u, _, rfl, SqT.of eu, rfl, _, _, rfl, _, _, rfl, rfl, ?_⟩
      have sm2 := sm.trans s2
      -- its words
      refine ⟨fun σ' G => ∃ (l : Addr) (ws : List Str), σ' = [some (.ref lp), some (leafV qs), some (.ref md), some (.int (j : Nat)), some y, some (.ref l), t6, t7, none, none, none, none] ∧ Same G2 G ∧ G l = some (.lst (ws.map V.str)) ∧ tellV y = tellW ws ∧ ws ≠ [] ∧ ∀ z ∈ ws, z.length ≤ 99 ∧ AscS z, ?_, ?_⟩
      · rcases hv y my with ⟨z, rfl, hz, ha⟩ | o
        · refine ⟨_, rfl, _, .ty "str", .type "str", .type "str", true, rfl, .ty _, .base (.str z), kit_ty (by decide +kernel), true, rfl, ?_⟩
          show (if true = true then _ else _)
          rw [if_pos rfl]
          refine ⟨_, rfl, ⟨_, rfl⟩, z, _, rfl, rfl, rfl, by omega, fun l nl => ⟨l, Txt.split z " ", rfl, same_new (Same.refl G2) nl, upd_same, rfl, ?_, fun y m => ⟨Nat.le_trans (split_short (by decide +kernel) m) hz, asc_split ha m⟩⟩⟩
          intro e
          have := split_pos z " "
          rw [e] at this
          cases this
        · obtain ⟨ns, t, ty, k⟩ := (o.same sm2).ty
          refine ⟨_, rfl, _, .ty "str", t, .type "str", false, rfl, .ty _, ty, k, false, rfl, ?_⟩
          show (if false = true then _ else _)
          rw [if_neg (by decide)]
          refine ⟨by show 1 ≤ sizeLine; omega, fun l nl => ⟨l, [""], rfl, same_new (Same.refl G2) nl, upd_same, ?_, by simp, fun z m => ?_⟩⟩
          · unfold tellV
            rw [wordsV_odd ns]
            rfl
          · rw [List.mem_singleton.mp m]
            exact ⟨by decide +kernel, fun c hc => by cases hc⟩
      rintro σ' G3 ⟨l, ws, rfl, s3, el, eT, nw, hw⟩
      have s23 := s2.trans s3
      have s03 := sm.trans s23
      obtain ⟨w0, wr, ews⟩ : ∃ w0 wr, ws = w0 :: wr := by
        cases ws with
        | nil => exact absurd rfl nw
        | cons a r => exact ⟨a, r, rfl⟩
      -- does it tell the leaf?
      refine ⟨fun σ' G => ∃ b : Bool, σ' = [some (.ref lp), some (leafV qs), some (.ref md), some (.int (j : Nat)), some y, some (.ref l), some (.bl b), t7, none, none, none, none] ∧ Same G3 G ∧ (b = true ↔ (∃ z, ws = [("leaf" : Str), z] ∧ nameB z = true) ∧ leafOf qs = none), ?_, ?_⟩
      · have no : (¬ ∃ z, ws = [("leaf" : Str), z] ∧ nameB z = true) → ∀ G, Same G3 G → ∃ b : Bool, [some (V.ref lp), some (leafV qs), some (.ref md), some (.int (j : Nat)), some y, some (.ref l), some (.bl false), t7, none, none, none, none] = [some (V.ref lp), some (leafV qs), some (.ref md), some (.int (j : Nat)), some y, some (.ref l), some (.bl b), t7, none, none, none, none] ∧ Same G3 G ∧ (b = true ↔ (∃ z, ws = [("leaf" : Str), z] ∧ nameB z = true) ∧ leafOf qs = none) := fun h G s => ⟨false, rfl, s, (fun h => by cases h), fun ⟨a, _⟩ => absurd a h⟩
        have a0 : atI (ws.map V.str) 0 = some (.str w0) := by rw [ews]; exact atI_nat (j := 0) rfl
        refine ⟨_, rfl, l, _, 0, _, rfl, rfl, .inl (.inl el), a0, rfl, _, rfl, ite2 (fun c => ?_) (fun c => ?_)⟩
        rotate_left
        · refine no (fun ⟨z, e, _⟩ => c ?_) _ (Same.refl _)
          rw [ews] at e
          injection e with e _
          rw [e]
          exact decide_eq_true rfl
        have e0 : w0 = "leaf" := V.str.inj (of_decide_eq_true c)
        refine ⟨_, rfl, l, _, rfl, .inl (.inl (.inl el)), rfl, _, rfl, ite2 (fun c2 => ?_) (fun c2 => ?_)⟩
        rotate_left
        · refine no (fun ⟨z, e, _⟩ => c2 ?_) _ (Same.refl _)
          rw [e]
          exact decide_eq_true rfl
        obtain ⟨z, ez⟩ : ∃ z, wr = [z] := by
          have := of_decide_eq_true c2
          injection this with this
          rw [List.length_map, ews, List.length_cons] at this
          match wr, this with
          | [z], _ => exact ⟨z, rfl⟩
          | [], h => exact absurd h (by decide)
          | _ :: _ :: _, h => simp only [List.length_cons] at h; omega
        have ew : ws = [("leaf" : Str), z] := by rw [ews, e0, ez]
        have hz := hw z (by rw [ew]; simp)
        refine ⟨_, rfl, l, _, 1, .str z, rfl, rfl, .inl (.inl el), by rw [ew]; rfl, z, rfl, hz.2, by omega, fun G4 s4 => ⟨_, rfl, ite2 (fun c3 => ?_) (fun c3 => ?_)⟩⟩
        · refine ⟨_, rfl, rfl, decide (leafV qs = .non), rfl, s4, ?_⟩
          rw [decide_eq_true_eq, leafV_non]
          exact ⟨fun h => ⟨⟨z, ew, c3⟩, h⟩, fun h => h.2⟩
        · refine no (fun ⟨z', e, h⟩ => c3 ?_) _ s4
          rw [ew] at e
          injection e with _ e
          injection e with e _
          rw [e]
          exact h
      rintro σ' G4 ⟨b1, rfl, s4, hb1⟩
      have el4 := s4 _ _ el
      have h24 := s4 _ _ (s23 _ _ h2)
      have s24 := s23.trans s4
      have s04 := sm.trans s24
      have hM4 : MakAt G4 kvs (maksOf qs) := hM.same fun _ _ z => z.mono s24
      -- .. or a kind?
      refine ⟨fun σ' G => ∃ b : Bool, σ' = [some (.ref lp), some (leafV qs), some (.ref md), some (.int (j : Nat)), some y, some (.ref l), some (.bl b1), some (.bl b), none, none, none, none] ∧ Same G4 G ∧ (b = true ↔ ∃ n c, ws = [("kind" : Str), n, c] ∧ nameB n = true ∧ n ∉ keysOf (maksOf qs)), ?_, ?_⟩
      · have no : (¬ ∃ n c, ws = [("kind" : Str), n, c] ∧ nameB n = true ∧ n ∉ keysOf (maksOf qs)) → ∀ G, Same G4 G → ∃ b : Bool, [some (V.ref lp), some (leafV qs), some (.ref md), some (.int (j : Nat)), some y, some (.ref l), some (.bl b1), some (.bl false), none, none, none, none] = [some (V.ref lp), some (leafV qs), some (.ref md), some (.int (j : Nat)), some y, some (.ref l), some (.bl b1), some (.bl b), none, none, none, none] ∧ Same G4 G ∧ (b = true ↔ ∃ n c, ws = [("kind" : Str), n, c] ∧ nameB n = true ∧ n ∉ keysOf (maksOf qs)) := fun h G s => ⟨false, rfl, s, (fun h => by cases h), fun a => absurd a h⟩
        have a0 : atI (ws.map V.str) 0 = some (.str w0) := by rw [ews]; exact atI_nat (j := 0) rfl
        refine ⟨_, rfl, l, _, 0, _, rfl, rfl, .inl (.inl el4), a0, rfl, _, rfl, ite2 (fun c => ?_) (fun c => ?_)⟩
        rotate_left
        · refine no (fun ⟨n, c', e, _⟩ => c ?_) _ (Same.refl _)
          rw [ews] at e
          injection e with e _
          rw [e]
          exact decide_eq_true rfl
        have e0 : w0 = "kind" := V.str.inj (of_decide_eq_true c)
        refine ⟨_, rfl, l, _, rfl, .inl (.inl (.inl el4)), rfl, _, rfl, ite2 (fun c2 => ?_) (fun c2 => ?_)⟩
        rotate_left
        · refine no (fun ⟨n, c', e, _⟩ => c2 ?_) _ (Same.refl _)
          rw [e]
          exact decide_eq_true rfl
        obtain ⟨n, c', ez⟩ : ∃ n c', wr = [n, c'] := by
          have := of_decide_eq_true c2
          injection this with this
          rw [List.length_map, ews, List.length_cons] at this
          match wr, this with
          | [n, c'], _ => exact ⟨n, c', rfl⟩
          | [], h => exact absurd h (by decide)
          | [_], h => simp only [List.length_cons, List.length_nil] at h; omega
          | _ :: _ :: _ :: _, h => simp only [List.length_cons] at h; omega
        have ew : ws = [("kind" : Str), n, c'] := by rw [ews, e0, ez]
        have hz := hw n (by rw [ew]; simp)
        refine ⟨_, rfl, l, _, 1, .str n, rfl, rfl, .inl (.inl el4), by rw [ew]; rfl, n, rfl, hz.2, by omega, fun G5 s5 => ⟨_, rfl, ite2 (fun c3 => ?_) (fun c3 => ?_)⟩⟩
        · refine ⟨_, rfl, l, _, 1, .str n, rfl, rfl, .inl (.inl (s5 _ _ el4)), by rw [ew]; rfl, _, rfl, md, _, rfl, DGet.k (k := Sum.inr n) (s5 _ _ h24), !(valV kvs (Sum.inr n)).isSome, rfl, s5, ?_⟩
          have e : (valV kvs (Sum.inr n)).isSome = true ↔ n ∈ keysOf (maksOf qs) := by
            rcases hM4.get n with ⟨e1, e2⟩ | ⟨ps, a, e1, e2, _⟩
            · rw [e2]
              exact ⟨(fun h => by cases h), fun h => absurd h (lookM_none.mp e1)⟩
            · rw [e2]
              exact ⟨fun _ => Classical.byContradiction (fun h => by rw [lookM_none.mpr h] at e1; cases e1), fun _ => rfl⟩
          constructor
          · intro h
            refine ⟨n, c', ew, c3, fun m => ?_⟩
            rw [e.mpr m] at h
            cases h
          · rintro ⟨n', c'', e1, _, h⟩
            rw [ew] at e1
            injection e1 with _ e1
            injection e1 with e1 _
            cases hh : (valV kvs (Sum.inr n)).isSome with
            | false => rfl
            | true => exact absurd (by rw [← e1]; exact e.mp hh) h
        · refine no (fun ⟨n', c'', e, h, _⟩ => c3 ?_) _ s5
          rw [ew] at e
          injection e with _ e
          injection e with e _
          rw [e]
          exact h
      rintro σ' G5 ⟨b2, rfl, s5, hb2⟩
      have el5 := s5 _ _ el4
      have s25 := s24.trans s5
      have s05 := sm.trans s25
      have h25 := s5 _ _ h24
      have hM5 : MakAt G5 kvs (maksOf qs) := hM4.same fun _ _ z => z.mono s5
      have all := take_snocO hy2
      have ltk : ((xs.take j).map tellV).length = j := by
        rw [List.length_map, List.length_take]
        have := (List.getElem?_eq_some_iff.mp hy2).1
        omega
      have hj20 : j < 20 := by
        have := (List.getElem?_eq_some_iff.mp hy2).1
        omega
      have tk1 : (xs.take (j + 1)).map tellV = (xs.take j).map tellV ++ [tellV y] := by
        rw [List.take_add_one, hy2, List.map_append]
        rfl
      have step : ∀ pl, tellW ws = some pl → plK pl ∉ qs.map plK → readL [] 0 ((xs.take (j + 1)).map tellV) = .inl (qs ++ [pl]) := fun pl h n => by
        rw [tk1, readL_app h1, eT, h]
        show (if plK pl ∈ qs.map plK then _ else _) = _
        rw [if_neg n]
        rfl
      have err : (∀ pl, tellW ws = some pl → plK pl ∈ qs.map plK) → ∀ G, Same H G → Q (.str (parseT j)) G := fun h G s => by
        refine q1 j G ?_ s
        rw [all, readL_app h1, ltk, Nat.zero_add, eT]
        cases e : tellW ws with
        | none => rfl
        | some pl =>
          show (if plK pl ∈ qs.map plK then _ else _) = _
          rw [if_pos (h pl e)]
      refine ⟨_, rfl, b1, rfl, ite2 (fun c1 => ?_) (fun c1 => ?_)⟩
      · obtain ⟨⟨z, ew, nz⟩, nl⟩ := hb1.mp c1
        refine ⟨_, rfl, l, _, 1, .str z, rfl, rfl, .inl (.inl el5), by rw [ew]; rfl, ?_⟩
        have ml : maksOf (qs ++ [.l z]) = maksOf qs := by
          unfold maksOf
          rw [List.filterMap_append]
          exact List.append_nil _
        have ll : leafV (qs ++ [.l z]) = .str z := by
          unfold leafV
          rw [leafOf_app, nl]
          rfl
        refine ⟨qs ++ [.l z], kvs, _, _, _, _, _, by rw [ll]; rfl, step _ (by rw [ew]; exact if_pos ⟨rfl, nz⟩) (fun m => place_l.mp m nl), h25, by rw [ml]; exact hM5, s05⟩
      have nl1 : ∀ z, tellW ws = some (.l z) → leafOf qs ≠ none := fun z h e => by
        obtain ⟨a, b⟩ := tellW_l h
        exact c1 (hb1.mpr ⟨⟨z, a, b⟩, e⟩)
      have bad : (∀ n g, tellW ws = some (.k n g) → n ∈ keysOf (maksOf qs)) → ∀ G, Same H G → Q (.str (parseT j)) G := fun h => err fun pl e => by
        cases pl with
        | l z => exact place_l.mpr (nl1 z e)
        | k n g => exact place_k.mpr (h n g e)
      have ret : (∀ n g, tellW ws = some (.k n g) → n ∈ keysOf (maksOf qs)) → ∀ G, Same H G → ∃ (x : V) (d : PyData), [V.int ((j : Nat) : Int)] = [x] ∧ Dp K G x d ∧ d.showable = true ∧ d.hasDict = false ∧ d.depth ≤ 60 ∧ d.shown.length ≤ sizeLine ∧ ∃ i' j', V.str "parse " = .str i' ∧ V.str d.shown = .str j' ∧ i'.length + j'.length ≤ sizeLine ∧ Q (.str (i' ++ j')) G := fun h G s => by
        obtain ⟨sh1, sh2⟩ := shown_short j (by omega)
        have l6 : ("parse " : Str).length = 6 := rfl
        exact ⟨_, .int ((j : Nat) : Int), rfl, .int _, sh2, rfl, by unfold PyData.depth; decide, by omega, _, _, rfl, rfl, by omega, bad h G s⟩
      refine ⟨_, rfl, b2, rfl, ite2 (fun c2 => ?_) (fun c2 => ?_)⟩
      · obtain ⟨n, c, ew, nn, nk⟩ := hb2.mp c2
        have hc := hw c (by rw [ew]; simp)
        refine ⟨_, rfl, l, _, 2, .str c, rfl, rfl, .inl (.inl el5), by rw [ew]; rfl, c, rfl, by omega, hc.2, fun p g G6 pm s6 np hz => ⟨rfl, _, rfl, ite2 (fun _ => ?_) (fun k => ?_)⟩, fun G6 pm s6 => ⟨rfl, _, rfl, ite2 (fun k => ?_) (fun _ => ?_)⟩⟩
        · have el6 := s6 _ _ el5
          have h26 := s6 _ _ h25
          refine ⟨_, rfl, l, _, 2, .str c, rfl, rfl, .inl (.inl el6), by rw [ew]; rfl, c, rfl, by omega, hc.2, fun p2 g2 G7 pm2 s7 np2 hz2 => ?_, fun G7 pm2 _ => by rw [pm] at pm2; cases pm2⟩
          have h27 := s7 _ _ h26
          have el7 := s7 _ _ el6
          have s07 := s05.trans (s6.trans s7)
          have lk : kvs.length ≤ 20 := by
            have h3 := hM.len
            have h4 := maksOf_len qs
            have h5 := (readL_ok (PP := fun _ => True) h1 (fun _ _ => trivial) (fun _ _ _ _ => trivial) List.nodup_nil).2.2
            rw [ltk] at h5
            have h5 : qs.length = 0 + j := h5
            omega
          refine ⟨_, rfl, _, rfl, l, _, 1, .str n, rfl, rfl, .inl (.inl el7), by rw [ew]; rfl, md, _, rfl, DPut.k (k := Sum.inr n) h27 (by omega), ?_⟩
          have nv : valV kvs (Sum.inr n) = none := by
            rcases hM.get n with ⟨_, e⟩ | ⟨ps, b, e, _⟩
            · exact e
            · exact absurd (Classical.byContradiction fun h => by rw [lookM_none.mpr h] at e; cases e) nk
          rw [putK_new _ nv]
          have tz : ∀ b ys, TupZ G7 b ys → TupZ (upd G7 md (.dK (kvs ++ [(Sum.inr n, .ref p2)]))) b ys := fun b ys h => h.at fun o e => by
            rw [upd_ne (fun z => by obtain ⟨ob, _, e'⟩ := h; rw [z, h27] at e'; cases e')]
            exact e
          have ml : maksOf (qs ++ [.k n g2]) = maksOf qs ++ [(n, g2)] := maksOf_app _ _
          have ll : leafV (qs ++ [.k n g2]) = leafV qs := by
            unfold leafV
            rw [leafOf_app, show leafOf [Pl.k n g2] = none from rfl, Option.or_none]
          refine ⟨qs ++ [.k n g2], _, _, _, _, _, _, by rw [ll], step _ (by rw [ew]; exact tellW_mk nn pm2) (fun m => nk (place_k.mp m)), upd_same, ?_, fun b u e => by rw [upd_ne (ne_of_none e nm)]; exact s07 _ _ e⟩
          rw [ml]
          exact MakAt.snoc ((hM5.same fun _ _ z => z.mono (s6.trans s7)).same tz) (tz _ _ hz2)
        · exact absurd (by show (!decide (V.ref p = V.non)) = true; rw [decide_eq_false (fun h => by cases h)]; rfl) k
        · exact absurd k (by show ¬ (!decide (V.non = V.non)) = true; rw [decide_eq_true rfl]; decide)
        · refine ⟨_, rfl, ret (fun n' g' e => ?_) _ (s05.trans s6)⟩
          obtain ⟨c', e1, _, e3⟩ := tellW_k e
          rw [ew] at e1
          injection e1 with _ e1
          injection e1 with _ e1
          injection e1 with e1 _
          rw [← e1, pm] at e3
          cases e3
      · refine ⟨_, rfl, ret (fun n' g' e => ?_) _ s05⟩
        obtain ⟨c', e1, e2, _⟩ := tellW_k e
        exact Classical.byContradiction fun h => c2 (hb2.mpr ⟨n', c', e1, e2, h⟩)
    rintro σ' G1 ⟨qs, kvs, t3, t4, t5, t6, t7, rfl, h1, h2, hM, sm⟩
    obtain ⟨okq, ndq, lq⟩ := readL_ok (PP := PlOk) h1 (fun p m => (nomatch m)) (fun o m p e => by
      obtain ⟨v, mv, rfl⟩ := List.mem_map.mp m
      exact tellW_ok e) List.nodup_nil
    have lq20 : qs.length ≤ 20 := by
      rw [lq, List.length_map]
      show 0 + _ ≤ _
      omega
    have lM20 : (maksOf qs).length ≤ 20 := Nat.le_trans (maksOf_len qs) lq20
    have lk := hM.len
    have mne : md ≠ lp ∨ True := .inr True.intro
    generalize eM : maksOf qs = M at *
    have pts3 : ∀ m ∈ M, m.2.length ≤ 3 := fun m mm => by
      obtain ⟨_, a, _⟩ := okq _ (maksOf_mem.mp (by rw [eM]; exact mm))
      exact (digB_names a).1
    have ndM : (keysOf M).Nodup := by rw [← eM]; exact maksOf_nd ndq
    let KN : List V := leafV qs :: (keysOf M).map V.str
    have lKN : KN.length = M.length + 1 := by
      show ((keysOf M).map V.str).length + 1 = _
      unfold keysOf
      rw [List.length_map, List.length_map]
    have eK : (kvs.map fun kv => kV kv.1) = (keysOf M).map V.str := by
      have e1 := hM.keys
      have e2 : (kvs.map fun kv => kV kv.1) = (kvs.map (·.1)).map kV := by rw [List.map_map]; rfl
      rw [e2, e1, List.map_map]
      rfl
    have fKN : KN.all flatV = true := by
      have h1 : flatV (leafV qs) = true := by unfold leafV; split <;> rfl
      show (flatV (leafV qs) && ((keysOf M).map V.str).all flatV) = true
      rw [h1, flat_strs']
      rfl
    -- what is known
    refine ⟨fun σ' G => ∃ kp : Addr, σ' = [some (.ref lp), some (leafV qs), some (.ref md), t3, t4, t5, t6, t7, some (.ref kp), none, none, none] ∧ G kp = some (.lst KN) ∧ kp ≠ md ∧ Same G1 G, ?_, ?_⟩
    · refine ⟨_, rfl, by show 1 ≤ sizeLine; omega, fun k1 n1 => ?_⟩
      have s2 := same_new (o := .lst [leafV qs]) (Same.refl G1) n1
      have e1 : (upd G1 k1 (.lst [leafV qs])) k1 = some (.lst [leafV qs]) := upd_same
      generalize upd G1 k1 (.lst [leafV qs]) = G2 at *
      refine ⟨_, rfl, md, kvs, rfl, .inl (s2 _ _ h2), fun k2 n2 => ?_⟩
      rw [eK]
      have s3 := same_new (o := .lst ((keysOf M).map V.str)) s2 n2
      have e2 : (upd G2 k2 (.lst ((keysOf M).map V.str))) k2 = some (.lst ((keysOf M).map V.str)) := upd_same
      have e13 : (upd G2 k2 (.lst ((keysOf M).map V.str))) k1 = some (.lst [leafV qs]) := by rw [upd_ne (ne_of_none e1 n2)]; exact e1
      generalize upd G2 k2 (.lst ((keysOf M).map V.str)) = G3 at *
      refine ⟨k1, k2, _, _, rfl, rfl, e13, e2, ?_, fun k3 n3 => ?_⟩
      · show 1 + _ ≤ _
        have : ((keysOf M).map V.str).length = M.length := by unfold keysOf; rw [List.length_map, List.length_map]
        omega
      · refine ⟨k3, rfl, upd_same, fun z => ?_, same_new s3 n3⟩
        rw [z] at n3
        rw [s3 _ _ h2] at n3
        cases n3
    rintro σ' G2 ⟨kp, rfl, ekp, nkm, s2⟩
    have h22 := s2 _ _ h2
    have hM2 : MakAt G2 kvs M := hM.same fun _ _ z => z.mono s2
    refine ⟨fun σ' G => ∃ pp : Addr, σ' = [some (.ref lp), some (leafV qs), some (.ref md), t3, t4, t5, t6, t7, some (.ref kp), some (.ref pp), none, none] ∧ G pp = some (.lst []) ∧ G2 pp = none ∧ Same G2 G, ?_, ?_⟩
    · exact ⟨by show 0 ≤ sizeLine; omega, fun pp np => ⟨pp, rfl, upd_same, np, same_new (Same.refl G2) np⟩⟩
    rintro σ' G3 ⟨pp, rfl, epp, npp, s3⟩
    have npk : pp ≠ kp := fun z => by rw [z, ekp] at npp; cases npp
    have npm : pp ≠ md := fun z => by rw [z, h22] at npp; cases npp
    have h23 := s3 _ _ h22
    have ekp3 := s3 _ _ ekp
    have hM3 : MakAt G3 kvs M := hM2.same fun _ _ z => z.mono s3
    let un : List (Str × List Str) → List Str := fun L => L.flatMap fun m => m.2.filter fun z => !inV (V.str z) KN
    -- the parts that are not known
    refine ⟨fun σ' G => ∃ t10 t11 : Option V, σ' = [some (.ref lp), some (leafV qs), some (.ref md), t3, t4, t5, t6, t7, some (.ref kp), some (.ref pp), t10, t11] ∧ G pp = some (.lst ((un M).map V.str)) ∧ Same G2 G, ?_, ?_⟩
    · refine ⟨md, _, h23, True.intro, fun od => ?_⟩
      refine ⟨_, rfl, md, od, rfl, .inl ⟨kvs, upd_same, ?_⟩⟩
      refine for_it walk_keys (fun j σ' G => ∃ t10 t11 : Option V, σ' = [some (.ref lp), some (leafV qs), some (.ref md), t3, t4, t5, t6, t7, some (.ref kp), some (.ref pp), t10, t11] ∧ G pp = some (.lst ((un (M.take j)).map V.str)) ∧ G md = some (.frz od (.dK kvs)) ∧ ∀ b u, b ≠ md → G2 b = some u → G b = some u)
        ⟨_, _, rfl, by rw [upd_ne npm]; exact epp, upd_same, fun b u n e => by rw [upd_ne n]; exact s3 _ _ e⟩ (fun j σ' G _ h => by obtain ⟨_, _, _, _, h, _⟩ := h; exact h) (fun j x σ' Gx G hj h hy => ?_) (fun σ' G h => ?_)
      · obtain ⟨t10, t11, rfl, eP, eD, sx⟩ := h
        obtain ⟨rfl, k, v, hkv, rfl⟩ := hy
        obtain ⟨m, a, hm, rfl, rfl, ha⟩ := hM2.at hkv
        have mM := List.mem_of_getElem? hm
        have na : a ≠ md := ha.ne h22 (fun _ => nofun)
        have haG : TupZ G a (m.2.map V.str) := ha.at fun o e => sx _ _ na e
        have hv : valV kvs (Sum.inr m.1) = some (.ref a) := by
          have e4 : (kvs.map (·.1)).Nodup := by
            rw [hM2.keys]
            exact List.Pairwise.map Sum.inr (fun a b h q => h (Sum.inr.inj q)) ndM
          exact val_nodup e4 (Sum.inr m.1, .ref a) (List.mem_of_getElem? hkv)
        have et : un (M.take (j + 1)) = un (M.take j) ++ m.2.filter fun z => !inV (V.str z) KN := by
          show (M.take (j + 1)).flatMap _ = _
          rw [List.take_add_one, hm, List.flatMap_append]
          show _ ++ List.flatMap _ [m] = _
          rw [List.flatMap_singleton]
        have lun : (un (M.take j)).length ≤ 60 := by
          have aux : ∀ L : List (Str × List Str), (∀ m ∈ L, m ∈ M) → (un L).length ≤ 3 * L.length := by
            intro L
            induction L with
            | nil => intro _; exact Nat.zero_le _
            | cons m r ih =>
              intro hm
              have h1 := pts3 m (hm m List.mem_cons_self)
              have h2 := ih fun x mx => hm x (List.mem_cons_of_mem _ mx)
              show ((m.2.filter fun z => !inV (V.str z) KN) ++ un r).length ≤ _
              have h3 := List.length_filter_le (fun z => !inV (V.str z) KN) m.2
              rw [List.length_append, List.length_cons]
              omega
          have h1 := aux (M.take j) fun m mm => List.mem_of_mem_take mm
          have h2 : (M.take j).length ≤ M.length := by rw [List.length_take]; exact Nat.min_le_right _ _
          omega
        refine ⟨_, rfl, ⟨.inl ⟨rfl, _, .inl (.inl eP)⟩, ?_⟩⟩
        refine ⟨_, rfl, _, rfl, md, .ref a, rfl, .inl ⟨kvs, Sum.inr m.1, .inr ⟨od, eD⟩, rfl, hv.symm⟩, a, rfl, ⟨_, haG.sq⟩, fun D nD => ?_⟩
        have nDp : pp ≠ D := fun z => by rw [← z, eP] at nD; cases nD
        have nDm : md ≠ D := fun z => by rw [← z, eD] at nD; cases nD
        refine lc_it (walk_tup (K := K) (a := a) (xs := m.2.map V.str)) (fun i G' => G' D = some (.lst (((m.2.take i).filter fun z => !inV (V.str z) KN).map V.str)) ∧ Same G G') ⟨upd_same, same_new (Same.refl _) nD⟩ (fun i G' _ h => (haG.mono h.2).sq) (fun i x Gx G' hi h hy => ?_) (fun G' h => ?_)
        · obtain ⟨eDD, sG⟩ := h
          obtain ⟨rfl, hx⟩ := hy
          rw [List.getElem?_map] at hx
          obtain ⟨z, hz, rfl⟩ := Option.map_eq_some_iff.mp hx
          have etk : (m.2.take (i + 1)).filter (fun z => !inV (V.str z) KN) = (m.2.take i).filter (fun z => !inV (V.str z) KN) ++ (if (!inV (V.str z) KN) = true then [z] else []) := by
            rw [List.take_add_one, hz, List.filter_append]
            show _ ++ List.filter _ [z] = _
            rw [List.filter_cons, List.filter_nil]
          refine ⟨rfl, _, rfl, _, rfl, kp, _, rfl, .inl (.inl (.inl (sG _ _ (sx _ _ nkm ekp)))), rfl, fKN, _, rfl, ite2 (fun c => ?_) (fun c => ?_)⟩
          · refine ⟨_, rfl, _, eDD, ?_, ?_, fun b u e => by rw [upd_ne (ne_of_none e nD)]; exact sG _ _ e⟩
            · rw [List.length_map]
              have h1 := List.length_filter_le (fun z => !inV (V.str z) KN) (m.2.take i)
              have h2 := pts3 m mM
              rw [List.length_take] at h1
              omega
            · have c : (!inV (V.str z) KN) = true := c
              rw [upd_same, etk, if_pos c, List.map_append]
              rfl
          · refine ⟨?_, sG⟩
            have c : ¬ (!inV (V.str z) KN) = true := c
            rw [etk, if_neg c, List.append_nil]
            exact eDD
        · obtain ⟨eDD, sG⟩ := h
          rw [List.length_map, List.take_length] at eDD
          have eP2 := sG _ _ eP
          refine ⟨pp, D, _, _, rfl, rfl, eP2, eDD, ?_, ?_⟩
          · rw [List.length_map, List.length_map]
            have h1 := List.length_filter_le (fun z => !inV (V.str z) KN) m.2
            have h2 := pts3 m mM
            omega
          · refine ⟨_, _, rfl, ?_, by rw [upd_ne (Ne.symm npm)]; exact sG _ _ eD, fun b u n e => ?_⟩
            · rw [upd_same, et, List.map_append]
            · rw [upd_ne (ne_of_none e npp)]
              exact sG _ _ (sx _ _ n e)
      · obtain ⟨t10, t11, rfl, eP, eD, sx⟩ := h
        rw [lk, List.take_length] at eP
        refine ⟨eD, _, _, rfl, by rw [upd_ne npm]; exact eP, fun b u e => ?_⟩
        by_cases n : b = md
        · rw [n, upd_same, ← h22, ← n]
          exact e
        · rw [upd_ne n]
          exact sx _ _ n e
    rintro σ' G4 ⟨t10, t11, rfl, eP, s4⟩
    have s04 : Same H G4 := sm.trans (s2.trans s4)
    cases hl : leafOf qs with
    | none =>
      have ev : leafV qs = .non := leafV_non.mpr hl
      refine ⟨_, rfl, rfl, _, rfl, ite2 (fun c => ?_) (fun c => ?_)⟩
      · exact q2 qs G4 h1 (fun ⟨_, h, _⟩ => by rw [hl] at h; cases h) s04
      · exact absurd (decide_eq_true ev) c
    | some leaf =>
      have ev : leafV qs = .str leaf := by unfold leafV; rw [hl]
      have pre := pre_of okq ndq lq20 hl
      rw [eM] at pre
      have kn : ∀ z, inV (V.str z) KN = decide (z = leaf ∨ z ∈ keysOf M) := fun z => by
        have e : KN = (leaf :: keysOf M).map V.str := by show leafV qs :: _ = _; rw [ev]; rfl
        rw [e, inV_strs]
        congr 1
        rw [List.mem_cons]
      have hun : un M = [] ↔ ∀ m ∈ M, ∀ p ∈ m.2, p = leaf ∨ p ∈ keysOf M := by
        show M.flatMap (fun m => m.2.filter fun z => !inV (V.str z) KN) = [] ↔ _
        rw [List.flatMap_eq_nil_iff]
        refine forall_congr' fun m => forall_congr' fun _ => ?_
        rw [List.filter_eq_nil_iff]
        refine forall_congr' fun z => forall_congr' fun _ => ?_
        rw [kn, Bool.not_eq_true', decide_eq_false_iff_not, Classical.not_not]
      have hV : Vld leaf M ↔ (∀ m ∈ M, ∀ p ∈ m.2, p = leaf ∨ p ∈ keysOf M) ∧ ∀ ns : List Str, ns.Nodup → (∀ z, z ∈ ns ↔ z ∈ leaf :: keysOf M) → ns.length ≤ 6 := by
        constructor
        · intro v
          exact ⟨fun m mm => (v.parts m mm).2.2.2, fun ns nd h => v.few ns nd fun z m => List.mem_cons.mp ((h z).mp m)⟩
        · rintro ⟨a, b⟩
          refine ⟨pre.lf, pre.keys, pre.nd, fun m mm => ⟨(pre.parts m mm).1, (pre.parts m mm).2.1, (pre.parts m mm).2.2.1, a m mm⟩, fun ns nd h => ?_⟩
          obtain ⟨ms, n1, n2⟩ := nd_ex (leaf :: keysOf M)
          exact Nat.le_trans (List.Nodup.length_le_of_subset nd fun z m => (n2 z).mpr (List.mem_cons.mpr (h z m))) (b ms n1 n2)
      have bad : ¬ Vld leaf M → Q (.str "kinds") G4 ∧ ∀ G5, Same G4 G5 → Q (.str "kinds") G5 := fun n => by
        have ng : ¬ GoodQ qs := fun ⟨l', h, v⟩ => by
          rw [hl] at h
          cases h
          rw [eM] at v
          exact n v
        exact ⟨q2 qs G4 h1 ng s04, fun G5 s => q2 qs G5 h1 ng (s04.trans s)⟩
      refine ⟨_, rfl, rfl, _, rfl, ite2 (fun c => ?_) (fun c => ?_)⟩
      · have := of_decide_eq_true c
        rw [ev] at this
        cases this
      refine ⟨_, rfl, by show 0 ≤ sizeLine; omega, fun k1 n1 => ?_⟩
      have s5 := same_new (o := .lst []) (Same.refl G4) n1
      have e1 : (upd G4 k1 (.lst [])) k1 = some (.lst []) := upd_same
      generalize upd G4 k1 (.lst []) = G5 at *
      have shU : SeqAt.shaped (.list (tD (un M))) = true := shaped_texts fun z m => by
        obtain ⟨x, mx, m⟩ := List.mem_flatMap.mp m
        exact name_sok ((pre.parts x mx).2.2.2 z (List.mem_filter.mp m).1)
      refine ⟨.list (tD (un M)), .list (tD []), .lst (.inl (.inl (s5 _ _ eP))) (dp_texts _), .lst (.inl (.inl e1)) (dp_texts []), shU, by decide +kernel, ?_⟩
      rw [eqv_list04 (un M) []]
      refine ⟨_, rfl, ?_⟩
      show (if (!decide (un M = [])) = true then _ else _)
      refine ite2 (fun c2 => ?_) (fun c2 => ?_)
      · refine (bad fun v => ?_).2 _ s5
        rw [hun.mpr (hV.mp v).1] at c2
        exact absurd c2 (by decide)
      have hun1 : ∀ m ∈ M, ∀ p ∈ m.2, p = leaf ∨ p ∈ keysOf M := by
        refine hun.mp (Classical.byContradiction fun n => c2 ?_)
        rw [decide_eq_false n]
        rfl
      have ekn : KN = (leaf :: keysOf M).map V.str := by show leafV qs :: _ = _; rw [ev]; rfl
      have lkn : (leaf :: keysOf M).length ≤ 1000 := by
        rw [List.length_cons]
        unfold keysOf
        rw [List.length_map]
        omega
      refine ⟨_, rfl, kp, leaf :: keysOf M, rfl, .inl (.inl (by rw [← ekn]; exact s5 _ _ (s4 _ _ ekp))), lkn, fun k2 n2 => ⟨k2, _, rfl, upd_same, lkn, fun cnt hc => ?_⟩⟩
      have s6 := same_new (o := SetO' P w k2 (leaf :: keysOf M)) s5 n2
      refine ⟨_, _, rfl, rfl, _, rfl, ite2 (fun c3 => ?_) (fun c3 => ?_)⟩
      · refine (bad fun v => ?_).2 _ s6
        obtain ⟨ms, m1, m2⟩ := nd_ex (leaf :: keysOf M)
        have := (hV.mp v).2 ms m1 m2
        have c3 := of_decide_eq_true c3
        rw [hc ms m1 m2] at c3
        omega
      have vl : Vld leaf M := hV.mpr ⟨hun1, fun ns n1 n2 => by
        rw [← hc ns n1 n2]
        have : ¬ ((6 : Int) < (cnt : Int)) := fun z => c3 (decide_eq_true z)
        omega⟩
      rw [← eM] at vl hM
      have e6 : (upd G5 k2 (SetO' P w k2 (leaf :: keysOf (maksOf qs)))) md = some (.dK kvs) := by
        rw [eM]
        exact s6 _ _ (s4 _ _ h22)
      refine ⟨_, rfl, _, rfl, by show 2 ≤ sizeLine; omega, fun t nt => ?_⟩
      rw [ev]
      rw [eM] at e6
      have s7 := same_new (o := .tup [V.str leaf, V.ref md]) s6 nt
      exact q qs leaf t md kvs _ h1 hl vl (s04.trans s7) (SqT.of upd_same) (by rw [upd_ne (ne_of_none e6 nt)]; exact e6) (hM.same fun _ _ z => z.mono (s2.trans (s4.trans s7)))
end
end Kl

set_option maxRecDepth 100000
set_option maxHeartbeats 4000000
namespace Kl
open PySem PySem.Spec PyProof.Rows L2 Gx Mx
/-! ### weights of joined texts -/
def wt (zs : List Str) : Nat := (zs.map fun z => z.length + 1).sum
theorem wt_app (a b : List Str) : wt (a ++ b) = wt a + wt b := by
  unfold wt
  rw [List.map_append, List.sum_append]
theorem wt_cons (a : Str) (b : List Str) : wt (a :: b) = a.length + 1 + wt b := by
  unfold wt
  rw [List.map_cons, List.sum_cons]
theorem wt_nil : wt [] = 0 := rfl
theorem wt_join {e : Str} (he : e.length = 1) : ∀ {zs : List Str}, zs ≠ [] → (Txt.join e zs).length + 1 = wt zs
  | [], h => absurd rfl h
  | [z], _ => by
    rw [TL.join_eq, wt_cons, wt_nil]
    rfl
  | a :: b :: r, _ => by
    have ih := wt_join he (zs := b :: r) (by simp)
    rw [TL.join_eq] at ih ⊢
    rw [wt_cons, ← ih]
    show (a ++ e ++ Str.join e (b :: r)).length + 1 = _
    rw [len_app, len_app, he]
    omega
theorem wt_join_le {e : Str} (he : e.length = 1) {zs : List Str} {n : Nat} (h : wt zs ≤ n + 1) : (Txt.join e zs).length ≤ n := by
  cases zs with
  | nil =>
    rw [TL.join_eq]
    exact Nat.zero_le _
  | cons a r =>
    have := wt_join he (zs := a :: r) (by simp)
    omega
theorem wt_sum (zs : List Str) : wt zs = (zs.map (·.length)).sum + zs.length := by
  induction zs with
  | nil => rfl
  | cons a r ih =>
    rw [wt_cons, ih, List.map_cons, List.sum_cons, List.length_cons]
    omega
theorem wt_split (z : Str) : wt (Txt.split z " ") ≤ z.length + 1 := by
  rw [wt_sum]
  exact split_sum (by decide +kernel)
theorem wt_cut (zs : List Str) (a : Nat) : wt (zs.take a) + wt (zs.drop a) = wt zs := by
  rw [← wt_app, List.take_append_drop]
theorem wt_drop (zs : List Str) (a : Nat) : wt (zs.drop (a + 1)) ≤ wt (zs.drop a) := by
  by_cases h : a < zs.length
  · rw [List.drop_eq_getElem_cons h, wt_cons]
    omega
  · rw [List.drop_of_length_le (by omega), List.drop_of_length_le (by omega)]
    exact Nat.le_refl _
theorem wt_take {zs : List Str} {a : Nat} {z : Str} (h : zs[a]? = some z) : wt (zs.take (a + 1)) = wt (zs.take a) + (z.length + 1) := by
  rw [List.take_add_one, h, wt_app]
  show _ + wt [z] = _
  rw [wt_cons, wt_nil]
theorem asc_app {a b : Str} (ha : AscS a) (hb : AscS b) : AscS (a ++ b) := fun c hc => by
  rw [cps_app18] at hc
  exact (List.mem_append.mp hc).elim (ha c) (hb c)
theorem asc_join {e : Str} (he : AscS e) : ∀ {zs : List Str}, (∀ z ∈ zs, AscS z) → AscS (Txt.join e zs)
  | [], _ => by
    rw [TL.join_eq]
    intro c hc
    cases hc
  | [z], h => by
    rw [TL.join_eq]
    exact h z List.mem_cons_self
  | a :: b :: r, h => by
    have ih := asc_join he (zs := b :: r) fun z m => h z (List.mem_cons_of_mem _ m)
    rw [TL.join_eq] at ih ⊢
    exact asc_app (asc_app (h a List.mem_cons_self) he) ih
theorem asc_lit {z : Str} (h : z.cps.toList.all (fun c => decide (c < 128)) = true) : AscS z := fun c hc => of_decide_eq_true (List.all_eq_true.mp h c hc)
theorem asc_name {z : Str} (h : nameB z = true) : AscS z := fun c hc => by
  unfold nameB at h
  rw [Bool.and_eq_true, List.all_eq_true] at h
  exact isLow_lt (h.2 c hc)
/-- lines as readers tell them: short, and of plain signs -/
def BaseL (z : Str) : Prop := z.length ≤ 49 ∧ AscS z
theorem base_split {z : Str} (h : BaseL z) : ∀ x ∈ Txt.split z " ", BaseL x := fun x m => ⟨Nat.le_trans (split_short (by decide +kernel) m) h.1, asc_split h.2 m⟩
theorem cut_n18 {xs : List V} (n : Nat) (h : n ≤ xs.length) : cutV xs (some ((n : Nat) : Int)) none = xs.drop n := by
  unfold cutV
  rw [HT.sIx_nat, HT.sIx_none, Nat.min_eq_left h, List.take_of_length_le (by rw [List.length_drop]; omega)]
theorem cut_to0 {xs : List V} (n : Nat) : cutV xs none (some ((n : Nat) : Int)) = xs.take n := by
  unfold cutV
  rw [HT.sIx_nat, HT.sIx_none, List.drop_zero, Nat.sub_zero]
  by_cases h : n ≤ xs.length
  · rw [Nat.min_eq_left h]
  · rw [Nat.min_eq_right (by omega), List.take_length, List.take_of_length_le (by omega)]
theorem cut_to (z : Str) (r : Nat) : (cutS z none (some ((r : Nat) : Int))).cps.toList = z.cps.toList.take r := by
  unfold cutS
  rw [HT.sIx_nat, HT.sIx_none, List.drop_zero, Nat.sub_zero]
  show List.take (min r z.length) z.cps.toList = _
  have hl : z.length = z.cps.toList.length := (Array.length_toList ..).symm
  rw [hl]
  by_cases h : r ≤ z.cps.toList.length
  · rw [Nat.min_eq_left h]
  · rw [Nat.min_eq_right (by omega), List.take_length, List.take_of_length_le (by omega)]
theorem cut_from (z : Str) (r : Nat) : (cutS z (some ((r : Nat) : Int)) none).cps.toList = z.cps.toList.drop r := by
  unfold cutS
  rw [HT.sIx_nat, HT.sIx_none]
  show List.take (z.length - min r z.length) (z.cps.toList.drop (min r z.length)) = _
  have hl : z.length = z.cps.toList.length := (Array.length_toList ..).symm
  rw [hl]
  by_cases h : r ≤ z.cps.toList.length
  · rw [Nat.min_eq_left h, List.take_of_length_le (by rw [List.length_drop]; exact Nat.le_refl _)]
  · rw [Nat.min_eq_right (by omega), List.drop_of_length_le (Nat.le_refl _), List.drop_of_length_le (by omega), List.take_nil]
theorem base_cut_to {z : Str} (h : BaseL z) (r : Nat) : BaseL (cutS z none (some ((r : Nat) : Int))) := by
  have e := cut_to z r
  refine ⟨?_, fun c hc => ?_⟩
  · have l : (cutS z none (some ((r : Nat) : Int))).length = (cutS z none (some ((r : Nat) : Int))).cps.toList.length := (Array.length_toList ..).symm
    have hl : z.length = z.cps.toList.length := (Array.length_toList ..).symm
    have := h.1
    rw [l, e, List.length_take]
    omega
  · rw [e] at hc
    exact h.2 c (List.mem_of_mem_take hc)
theorem base_cut_from {z : Str} (h : BaseL z) (r : Nat) : BaseL (cutS z (some ((r : Nat) : Int)) none) := by
  have e := cut_from z r
  refine ⟨?_, fun c hc => ?_⟩
  · have l : (cutS z (some ((r : Nat) : Int)) none).length = (cutS z (some ((r : Nat) : Int)) none).cps.toList.length := (Array.length_toList ..).symm
    have hl : z.length = z.cps.toList.length := (Array.length_toList ..).symm
    have := h.1
    rw [l, e, List.length_drop]
    omega
  · rw [e] at hc
    exact h.2 c (List.mem_of_mem_drop hc)
end Kl

set_option maxRecDepth 100000
set_option maxHeartbeats 4000000
namespace Gx
open PySem PySem.Spec PyProof.Rows L2
/-! data stay while nothing is changed -/
theorem sqT_st {K : PySem.W.Frag} {H H' : Hp} {a : Addr} {xs : List V} (s : ∀ b o, H b = some o → H' b = some o) (h : SqT K H a xs) : SqT K H' a xs := by
  rcases h with (h | ⟨o, h⟩) | h
  · exact .inl (.inl (s _ _ h))
  · exact .inl (.inr ⟨o, s _ _ h⟩)
  · exact .inr h
theorem sqL_st {K : PySem.W.Frag} {H H' : Hp} {a : Addr} {xs : List V} (s : ∀ b o, H b = some o → H' b = some o) (h : SqL K H a xs) : SqL K H' a xs := by
  rcases h with (h | ⟨o, h⟩) | h
  · exact .inl (.inl (s _ _ h))
  · exact .inl (.inr ⟨o, s _ _ h⟩)
  · exact .inr h
mutual
theorem dp_st {K : PySem.W.Frag} {H H' : Hp} (s : ∀ b o, H b = some o → H' b = some o) : ∀ (d : PyData) (v : V), Dp K H v d → Dp K H' v d
  | .none, _, h => by cases h; exact .non
  | .bool _, _, h => by cases h; exact .bl _
  | .int _, _, h => by cases h; exact .int _
  | .str _, _, h => by cases h; exact .str _
  | .list ds, _, h => by
    cases h with
    | lst e r => exact .lst (sqL_st s e) (dpAll_st s ds _ r)
  | .tuple ds, _, h => by
    cases h with
    | tup e r => exact .tup (sqT_st s e) (dpAll_st s ds _ r)
  | .dict _, _, h => by cases h
theorem dpAll_st {K : PySem.W.Frag} {H H' : Hp} (s : ∀ b o, H b = some o → H' b = some o) : ∀ (ds : List PyData) (vs : List V), DpAll K H vs ds → DpAll K H' vs ds
  | [], _, h => by cases h; exact .nil
  | d :: ds, _, h => by
    cases h with
    | cons a r => exact .cons (dp_st s d _ a) (dpAll_st s ds _ r)
end
theorem _root_.L2.Dp.st {K : PySem.W.Frag} {H H' : Hp} {v : V} {d : PyData} (h : Dp K H v d) (s : ∀ b o, H b = some o → H' b = some o) : Dp K H' v d := dp_st s d v h
theorem _root_.L2.DpAll.st {K : PySem.W.Frag} {H H' : Hp} {vs : List V} {ds : List PyData} (h : DpAll K H vs ds) (s : ∀ b o, H b = some o → H' b = some o) : DpAll K H' vs ds := dpAll_st s ds vs h
end Gx

set_option maxRecDepth 100000
set_option maxHeartbeats 4000000
namespace Kl
open PySem PySem.Spec PyProof.Rows L2 Gx Mx
/-! ### data that are small -/
theorem ok_app (a b : Str) : PyData.strOk (a ++ b) = (PyData.strOk a && PyData.strOk b) := by
  show (a.cps ++ b.cps).all _ = (a.cps.all _ && b.cps.all _)
  rw [Array.all_append]
structure Sm (B k : Nat) (d : PyData) : Prop where
  lay : d.canLay0 = true
  dp : d.depth ≤ k
  wt : d.weight ≤ B
  sh : d.showable = true
  is : d.intsShort 13 = true
theorem Sm.str {B k : Nat} {s : Str} (h : PyData.strOk s = true) (hl : s.length ≤ B) : Sm B k (.str s) := ⟨h, Nat.zero_le _, hl, rfl, rfl⟩
theorem Sm.up {B B' k k' : Nat} {d : PyData} (h : Sm B k d) (hB : B ≤ B') (hk : k ≤ k') : Sm B' k' d := ⟨h.lay, Nat.le_trans h.dp hk, Nat.le_trans h.wt hB, h.sh, h.is⟩
theorem Sm.all {B k : Nat} : ∀ {ds : List PyData}, (∀ d ∈ ds, Sm B k d) → PyData.canLayAll0 ds = true ∧ PyData.depthAll ds ≤ k ∧ PyData.weightAll ds ≤ ds.length * (B + 1) ∧ PyData.showableAll ds = true ∧ PyData.intsShortAll 13 ds = true
  | [], _ => ⟨rfl, Nat.zero_le _, Nat.zero_le _, rfl, rfl⟩
  | d :: ds, h => by
    obtain ⟨h1, h2, h3, h4, h5⟩ := h d List.mem_cons_self
    obtain ⟨i1, i2, i3, i4, i5⟩ := Sm.all (ds := ds) fun x hx => h x (List.mem_cons_of_mem _ hx)
    refine ⟨?_, ?_, ?_, ?_, ?_⟩
    · rw [PyData.canLayAll0, h1, i1]; rfl
    · rw [PyData.depthAll]; exact Nat.max_le.mpr ⟨h2, i2⟩
    · rw [PyData.weightAll, List.length_cons, Nat.succ_mul]
      omega
    · rw [PyData.showableAll, h4, i4]; rfl
    · rw [PyData.intsShortAll, h5, i5]; rfl
theorem Sm.tup {B k n B' k' : Nat} {ds : List PyData} (h : ∀ d ∈ ds, Sm B k d) (hn : ds.length ≤ n) (hB : n * (B + 1) ≤ B') (hk : k + 1 ≤ k') : Sm B' k' (.tuple ds) := by
  obtain ⟨i1, i2, i3, i4, i5⟩ := Sm.all h
  have hm : ds.length * (B + 1) ≤ n * (B + 1) := Nat.mul_le_mul_right _ hn
  exact ⟨i1, by rw [PyData.depth]; omega, by rw [PyData.weight]; omega, i4, i5⟩
theorem Sm.lst {B k n B' k' : Nat} {ds : List PyData} (h : ∀ d ∈ ds, Sm B k d) (hn : ds.length ≤ n) (hB : n * (B + 1) ≤ B') (hk : k + 1 ≤ k') : Sm B' k' (.list ds) := by
  obtain ⟨i1, i2, i3, i4, i5⟩ := Sm.all h
  have hm : ds.length * (B + 1) ≤ n * (B + 1) := Nat.mul_le_mul_right _ hn
  exact ⟨i1, by rw [PyData.depth]; omega, by rw [PyData.weight]; omega, i4, i5⟩
theorem Sm.int {B k n : Nat} (h : n ≤ 6) (hB : 3 ≤ B) : Sm B k (.int (n : Int)) := by
  have e : (List.range 7).all (fun n => decide (PyData.weight (.int (n : Int)) ≤ 3) && PyData.showable (.int (n : Int)) && PyData.intsShort 13 (.int (n : Int))) = true := by decide +kernel
  have e2 := List.all_eq_true.mp e n (List.mem_range.mpr (by omega))
  rw [Bool.and_eq_true, Bool.and_eq_true] at e2
  exact ⟨rfl, Nat.zero_le _, Nat.le_trans (of_decide_eq_true e2.1.1) hB, e2.1.2, e2.2⟩
/-- what repr asks of data -/
theorem Sm.repr {B k : Nat} {d : PyData} (h : Sm B k d) (hB : B ≤ 1000000) (hk : k ≤ 60) : d.showable = true ∧ d.hasDict = false ∧ d.depth ≤ 60 ∧ d.shown.length ≤ sizeLine := by
  have hl : PyData.layable0 d = true := by
    show (PyData.canLay0 d && decide (PyData.depth d ≤ 64) && decide (PyData.weight d ≤ 2 ^ 20)) = true
    rw [h.lay, decide_eq_true (show d.depth ≤ 64 from Nat.le_trans h.dp (by omega)), decide_eq_true (show d.weight ≤ 2 ^ 20 from Nat.le_trans h.wt (Nat.le_trans hB (by decide)))]
    rfl
  refine ⟨h.sh, PyData.hasDict_of_layable hl, Nat.le_trans h.dp hk, Nat.le_trans (shown_le13 hl h.is) (by decide)⟩
/-- texts -/
theorem sm_texts {B n : Nat} {zs : List Str} (h : ∀ z ∈ zs, PyData.strOk z = true ∧ z.length ≤ B) (hn : zs.length ≤ n) : Sm (n * (B + 1)) 1 (.tuple (tD zs)) := by
  refine Sm.tup (k := 0) (n := n) (fun d hd => ?_) (by unfold tD; rw [List.length_map]; exact hn) (Nat.le_refl _) (Nat.le_refl _)
  obtain ⟨z, hz, rfl⟩ := List.mem_map.mp hd
  exact Sm.str (h z hz).1 (h z hz).2
theorem Sm.intB {B k : Nat} {i : Int} (h : i.natAbs < 10 ^ 12) (hB : 41 ≤ B) : Sm B k (.int i) := by
  have hl : i.natAbs.log2 < 40 := PySem.Flt.log2_lt_of (by decide) (Nat.lt_trans h (by decide))
  refine ⟨rfl, Nat.zero_le _, ?_, decide_eq_true (Nat.lt_trans hl (by decide)), decide_eq_true (PyData.shown_int_le h)⟩
  rw [PyData.weight]
  split
  · exact Nat.zero_le _
  · omega
theorem Sm.bool {B k : Nat} (b : Bool) : Sm B k (.bool b) := ⟨rfl, Nat.zero_le _, Nat.zero_le _, rfl, rfl⟩
theorem Sm.non {B k : Nat} : Sm B k .none := ⟨rfl, Nat.zero_le _, Nat.zero_le _, rfl, rfl⟩
theorem Sm.shaped {B k : Nat} {d : PyData} (h : Sm B k d) (hk : k ≤ 64) : SeqAt.shaped d = true := by
  unfold SeqAt.shaped
  rw [Bool.and_eq_true]
  exact ⟨h.lay, decide_eq_true (Nat.le_trans h.dp hk)⟩
theorem sm_cons {B k : Nat} {d : PyData} {ds : List PyData} (h : Sm B k d) (r : ∀ e ∈ ds, Sm B k e) : ∀ e ∈ d :: ds, Sm B k e := fun e he => by
  rcases List.mem_cons.mp he with rfl | he
  · exact h
  · exact r e he
theorem sm_nil {B k : Nat} : ∀ e ∈ ([] : List PyData), Sm B k e := fun e he => nomatch he
/-! ### what stays while the dice are thrown -/
theorem sqT_sx {K : PySem.W.Frag} {G G' : Hp} {d a : Addr} {xs : List V} (hd : DiceAt G d) (s : SameX d G G') (h : SqT K G a xs) : SqT K G' a xs := by
  obtain ⟨p, q, r, e⟩ := hd
  rcases h with (h | ⟨o, h⟩) | h
  · exact .inl (.inl (s _ _ (fun z => by rw [z, e] at h; cases h) h))
  · exact .inl (.inr ⟨o, s _ _ (fun z => by rw [z, e] at h; cases h) h⟩)
  · exact .inr h
theorem ins_sx {G G' : Hp} {d a C dx : Addr} {fs : List (Str × V)} (hd : DiceAt G d) (s : SameX d G G') (h : G a = some (.ins C dx fs)) : G' a = some (.ins C dx fs) := by
  obtain ⟨p, q, r, e⟩ := hd
  exact s _ _ (fun z => by rw [z, e] at h; cases h) h
theorem dice_sm {H H' : Hp} {d : Addr} (s : ∀ b o, H b = some o → H' b = some o) (q : DiceAt H d) : DiceAt H' d := by
  obtain ⟨x, b, c, h⟩ := q
  exact ⟨x, b, c, s _ _ h⟩
end Kl

set_option maxRecDepth 100000
set_option maxHeartbeats 4000000
namespace Kl
open PySem PySem.Spec PyProof.Rows L2 Gx Mx
/-! ### _law_other_line -/
theorem OddV.sx {K : PySem.W.Frag} {d : Addr} {H H' : Hp} {v : V} (hd : DiceAt H d) (hd' : DiceAt H' d) (s : SameX d H H') (h : OddV K H v) : OddV K H' v := by
  cases h with
  | non => exact .non
  | int i => exact .int i
  | bl b => exact .bl b
  | @lst a xs e =>
    by_cases c : a = d
    · obtain ⟨x, b, c', e'⟩ := hd'
      rw [c]
      exact .lst e'
    · exact .lst (s _ _ c e)
  | tup e => exact .tup (sqT_sx hd s e)
  | @dic a kvs e =>
    have c : a ≠ d := fun z => by obtain ⟨x, b, c', e'⟩ := hd; rw [z, e'] at e; cases e
    exact .dic (s _ _ c e)
theorem LnV.sx {K : PySem.W.Frag} {d : Addr} {H H' : Hp} {v : V} (hd : DiceAt H d) (hd' : DiceAt H' d) (s : SameX d H H') (h : LnV K H v) : LnV K H' v := h.imp id fun o => o.sx hd hd' s
abbrev SOME04 : List Str := ["a", "b", "leaf", "kind", "a+a", "b+a", "a+a+b+c", ""]
abbrev NEW04 : List Str := ["new", "a", "b"]
abbrev MAK04 : List Str := ["a+b", "a+a", "b+b+b", "new+new"]
theorem lits_base {L : List Str} (h : L.all (fun z => decide (z.length ≤ 8) && z.cps.toList.all (fun c => decide (c < 128))) = true) : ∀ z ∈ L, z.length ≤ 8 ∧ AscS z := by
  intro z m
  have := List.all_eq_true.mp h z m
  rw [Bool.and_eq_true, decide_eq_true_eq] at this
  exact ⟨this.1, asc_lit this.2⟩
section
variable {P : Program} {w : World} {K : PySem.W.Frag} {mg : Str → Option Value} {base : Heap}
def spOl (K : PySem.W.Frag) : Sp := fun vs H Q _ => ∃ (d : Addr) (z : Str), vs = [.ref d, .str z] ∧ DiceAt H d ∧ BaseL z ∧ 1 ≤ z.length ∧ ∀ v H', SameX d H H' → DiceAt H' d → LnV K H' v → Q v H'
theorem ok_ol {f : Addr} {fd : FuncData} (F : Fun K "_law_other_line" "_law_other_line" s_law_other_line f fd) (T : Top K mg) : FnOk P w K mg base CX0 3 f fd ["_law_dice_here", "_law_line"] (spOl K) := by
  have cr : Cal P w K mg base 2 "_law_roll" ["_law_dice_here", "_law_total"] spRoll := (T.d_law_roll.cal fun f fd F => ok_roll F T).mono (by decide)
  have cp : Cal P w K mg base 2 "_law_pick" ["_law_dice_here", "_law_items"] (spPick K) := T.d_law_pick.cal fun f fd F => ok_pick F T
  refine F.ok sc_law_other_line (fun vs H Q E h => ?_) (fun cdv A outer s H vs Q E hr h => ?_)
  · obtain ⟨d, z, rfl, _⟩ := h
    rfl
  · obtain ⟨d, z, rfl, hd, bz, z1, q⟩ := h
    refine ⟨_, (pss_cut (ps_par (i := 2) (j := 3) rfl sc_law_other_line.nd rfl rfl (by decide) rfl rfl (pa_cons (pe_split (pv 1) pe_str) (pa_cons (pe_cal cr hr (by rfl) (pa_cons (pv 0) (pa_cons pe_int pa_nil))) pa_nil)) (by kernel_rfl))
      (pss_cut (ps_par (i := 4) (j := 5) rfl sc_law_other_line.nd rfl rfl (by decide) rfl rfl (pa_cons (pe_cal cr hr (by rfl) (pa_cons (pv 0) (pa_cons (pe_callB call_len_seq (by rfl) T.b_len PySem.boot_len (pa_cons (pv 2) pa_nil)) pa_nil))) (pa_cons (pe_cal cr hr (by rfl) (pa_cons (pv 0) (pa_cons (pe_callB call_len_str (by rfl) T.b_len PySem.boot_len (pa_cons (pv 1) pa_nil)) pa_nil))) pa_nil)) (by kernel_rfl))
      (pss_cut (ps_par (i := 6) (j := 7) rfl sc_law_other_line.nd rfl rfl (by decide) rfl rfl (pa_cons (pe_cal cp hr (by rfl) (pa_cons (pv 0) (pa_cons (pe_lst (pa_cons pe_str (pa_cons pe_str (pa_cons pe_str (pa_cons pe_str (pa_cons pe_str (pa_cons pe_str (pa_cons pe_str (pa_cons pe_str pa_nil))))))))) pa_nil))) (pa_cons (pe_cal cp hr (by rfl) (pa_cons (pv 0) (pa_cons pe_str pa_nil))) pa_nil)) (by kernel_rfl))
      (pss_cons (ps_if (pt_cmpR op_eq (pv 3) pe_int (nomark _)) (pss_one (ps_ret (pe_join pe_str (pe_op op_cat (pe_op op_cat (pe_slice sl_list (pv 2) po_none (po_some (pv 4))) (pe_lst (pa_cons (pv 6) pa_nil))) (pe_slice sl_list (pv 2) (po_some (pe_op op_add (pv 4) pe_int)) po_none))))) pss_nil)
      (pss_cons (ps_if (pt_cmpR op_eq (pv 3) pe_int (nomark _)) (pss_one (ps_ret (pe_join pe_str (pe_op op_cat (pe_slice sl_list (pv 2) po_none (po_some (pv 4))) (pe_slice sl_list (pv 2) (po_some (pe_op op_add (pv 4) pe_int)) po_none))))) pss_nil)
      (pss_cons (ps_if (pt_cmpR op_eq (pv 3) pe_int (nomark _)) (pss_one (ps_ret (pe_join pe_str (pe_op op_cat (pe_slice sl_list (pv 2) po_none (po_some (pe_op op_add (pv 4) pe_int))) (pe_slice sl_list (pv 2) (po_some (pv 4)) po_none))))) pss_nil)
      (pss_cons (ps_if (pt_cmpR op_eq (pv 3) pe_int (nomark _)) (pss_one (ps_ret (pe_op op_add_str (pe_op op_add_str (pe_slice sl_str (pv 1) po_none (po_some (pv 5))) (pv 7)) (pe_slice sl_str (pv 1) (po_some (pv 5)) po_none)))) pss_nil)
      (pss_cons (ps_if (pt_cmpR op_eq (pv 3) pe_int (nomark _)) (pss_one (ps_ret (pe_op op_add_str (pe_op op_add_str (pe_slice sl_str (pv 1) po_none (po_some (pv 5))) (pv 7)) (pe_slice sl_str (pv 1) (po_some (pe_op op_add (pv 5) pe_int)) po_none)))) pss_nil)
      (pss_cons (ps_if (pt_cmpR op_eq (pv 3) pe_int (nomark _)) (pss_one (ps_ret (pe_op op_add_str (pe_op op_add_str (pe_op op_add_str pe_str (pe_cal cp hr (by rfl) (pa_cons (pv 0) (pa_cons (pe_lst (pa_cons pe_str (pa_cons pe_str (pa_cons pe_str pa_nil)))) pa_nil)))) pe_str) (pe_cal cp hr (by rfl) (pa_cons (pv 0) (pa_cons (pe_lst (pa_cons pe_str (pa_cons pe_str (pa_cons pe_str (pa_cons pe_str pa_nil))))) pa_nil)))))) pss_nil)
      (pss_cut (ps_set (i := 8) sc_law_other_line.nd rfl (.inl rfl) (pe_lst (pa_cons pe_non (pa_cons pe_int (pa_cons (pe_tup (pa_cons (pv 1) pa_nil)) (pa_cons (pe_lst (pa_cons (pv 1) pa_nil)) (pa_cons pe_bl (pa_cons (pe_disp (pps_cons (pv 1) (pv 1) pps_nil) rfl rfl (by decide) (by decide)) (pa_cons (pe_tup pa_nil) pa_nil)))))))))
      (pss_one (ps_ret (pe_ifExp (pt_cmpR op_eq (pv 3) pe_int (nomark _)) (pv 1) (pe_cal cp hr (by rfl) (pa_cons (pv 0) (pa_cons (pv 8) pa_nil)))))))))))))))), ?_⟩
    have big : 100000 ≤ sizeLine := by decide
    have bz1 := bz.1
    -- the words, the way
    refine ⟨fun σ' G => ∃ (l : Addr) (way : Nat), σ' = [some (.ref d), some (.str z), some (.ref l), some (.int (way : Nat)), none, none, none, none, none] ∧ G l = some (.lst ((Txt.split z " ").map V.str)) ∧ l ≠ d ∧ SameX d H G ∧ DiceAt G d, ?_, ?_⟩
    · refine ⟨_, rfl, ⟨_, rfl⟩, z, _, rfl, rfl, rfl, by omega, fun l nl => ?_⟩
      have nl1 := dice_ne hd nl
      have sx2 := (SameX.refl d H).new (o := .lst ((Txt.split z " ").map V.str)) nl
      have hd2 : DiceAt (upd H l (.lst ((Txt.split z " ").map V.str))) d := dice_upd hd nl1
      have el : (upd H l (.lst ((Txt.split z " ").map V.str))) l = some (.lst ((Txt.split z " ").map V.str)) := upd_same
      generalize upd H l (.lst ((Txt.split z " ").map V.str)) = G2 at *
      refine ⟨_, rfl, d, 8, rfl, hd2, by decide, by decide, fun r x b c r0 r1 => ?_⟩
      obtain ⟨k, rfl⟩ := Int.eq_ofNat_of_zero_le r0
      exact ⟨_, _, rfl, l, k, rfl, by rw [upd_ne nl1]; exact el, nl1, sx2.atd, ⟨_, _, _, upd_same⟩⟩
    rintro σ' G1 ⟨l, way, rfl, el, nld1, sx1, hd1⟩
    have pos := split_pos z " "
    have w50 := wt_split z
    have lw : (Txt.split z " ").length ≤ 50 := by
      have := wt_sum (Txt.split z " ")
      omega
    have bw := base_split bz
    generalize ews : Txt.split z " " = ws at *
    -- the places
    refine ⟨fun σ' G => ∃ at_ spt : Nat, σ' = [some (.ref d), some (.str z), some (.ref l), some (.int (way : Nat)), some (.int (at_ : Nat)), some (.int (spt : Nat)), none, none, none] ∧ at_ < ws.length ∧ G l = some (.lst (ws.map V.str)) ∧ SameX d H G ∧ DiceAt G d, ?_, ?_⟩
    · refine ⟨_, rfl, _, rfl, l, _, rfl, .inl (.inl (.inl el)), d, ((ws.map V.str).length : Nat), rfl, hd1, by rw [List.length_map]; omega, log2_small (by rw [List.length_map]; omega), fun r x b c r0 r1 => ?_⟩
      obtain ⟨k, rfl⟩ := Int.eq_ofNat_of_zero_le r0
      rw [List.length_map] at r1
      refine ⟨_, rfl, _, rfl, z, rfl, by omega, d, (z.length : Nat), rfl, dice_new x b c, by omega, log2_small (by omega), fun r x b c r0 r2 => ?_⟩
      obtain ⟨k2, rfl⟩ := Int.eq_ofNat_of_zero_le r0
      exact ⟨_, _, rfl, k, k2, rfl, by omega, by rw [upd_ne nld1, upd_ne nld1]; exact el, sx1.atd.atd, dice_new x b c⟩
    rintro σ' G2 ⟨at_, spt, rfl, la, el2, sx2, hd2⟩
    -- a word, a sign
    refine ⟨fun σ' G => ∃ word sign : Str, σ' = [some (.ref d), some (.str z), some (.ref l), some (.int (way : Nat)), some (.int (at_ : Nat)), some (.int (spt : Nat)), some (.str word), some (.str sign), none] ∧ (word.length ≤ 8 ∧ AscS word) ∧ (sign.length = 1 ∧ AscS sign) ∧ G l = some (.lst (ws.map V.str)) ∧ SameX d H G ∧ DiceAt G d, ?_, ?_⟩
    · refine ⟨_, rfl, by show 8 ≤ sizeLine; omega, fun k nk => ?_⟩
      have nkd := dice_ne hd2 nk
      have sx3 := sx2.new (o := .lst (SOME04.map V.str)) nk
      have hd3 : DiceAt (upd G2 k (.lst (SOME04.map V.str))) d := dice_upd hd2 nkd
      have el3 : (upd G2 k (.lst (SOME04.map V.str))) l = some (.lst (ws.map V.str)) := by rw [upd_ne (ne_of_none el2 nk)]; exact el2
      have ek : (upd G2 k (.lst (SOME04.map V.str))) k = some (.lst (SOME04.map V.str)) := upd_same
      refine ⟨d, .ref k, SOME04.map V.str, rfl, hd3, .inl ⟨k, rfl, nkd, .inl (.inl (.inl ek))⟩, nofun, by decide, fun v x b c mv => ?_⟩
      obtain ⟨word, mw, rfl⟩ := List.mem_map.mp mv
      refine ⟨_, rfl, d, _, signV " +aZ0", rfl, dice_new x b c, .inr ⟨_, rfl, rfl, by decide⟩, by decide +kernel, by decide +kernel, fun v x b c mv => ?_⟩
      obtain ⟨cc, mc, rfl⟩ := List.mem_map.mp mv
      have hcc : cc < 128 := by
        have h : (" +aZ0" : Str).cps.toList.all (fun c => decide (c < 128)) = true := by decide +kernel
        exact of_decide_eq_true (List.all_eq_true.mp h cc mc)
      exact ⟨_, _, rfl, word, one cc, rfl, lits_base (by decide +kernel) word mw, ⟨rfl, one_asc hcc⟩, by rw [upd_ne nld1, upd_ne nld1]; exact el3, sx3.atd.atd, dice_new x b c⟩
    rintro σ' G4 ⟨word, sign, rfl, bword, bsign, el4, sx4, hd4⟩
    have cut := wt_cut ws at_
    have drp := wt_drop ws at_
    have wl := bword.1
    have fin : ∀ (x : Str) G, Same G4 G → x.length ≤ 99 → AscS x → Q (.str x) G := fun x G s a b => q _ G (sx4.trans (SameX.of s)) (by obtain ⟨x, b, c, e⟩ := hd4; exact ⟨x, b, c, s _ _ e⟩) (.inl ⟨x, rfl, a, b⟩)
    have sp : AscS (" " : Str) := asc_lit (by decide +kernel)
    refine ⟨_, rfl, rfl, _, rfl, ite2 (fun c => ?_) (fun c4 => ?_)⟩
    · refine ⟨⟨_, rfl⟩, _, rfl, _, rfl, _, rfl, l, _, rfl, .inl (.inl el4), fun k1 n1 => ?_⟩
      rw [cut_to0, ← List.map_take]
      have s1 := same_new (o := .lst ((ws.take at_).map V.str)) (Same.refl G4) n1
      have e1 : (upd G4 k1 (.lst ((ws.take at_).map V.str))) k1 = some (.lst ((ws.take at_).map V.str)) := upd_same
      generalize upd G4 k1 (.lst ((ws.take at_).map V.str)) = G5 at *
      refine ⟨_, rfl, by show 1 ≤ sizeLine; omega, fun k2 n2 => ?_⟩
      have s2 := same_new (o := .lst [V.str word]) (Same.refl G5) n2
      have e2 : (upd G5 k2 (.lst [V.str word])) k2 = some (.lst [V.str word]) := upd_same
      generalize upd G5 k2 (.lst [V.str word]) = G6 at *
      refine ⟨k1, k2, _, _, rfl, rfl, s2 _ _ e1, e2, by rw [List.length_map, List.length_take]; show _ + 1 ≤ _; omega, fun k3 n3 => ?_⟩
      rw [show (ws.take at_).map V.str ++ [V.str word] = (ws.take at_ ++ [word]).map V.str by rw [List.map_append]; rfl]
      have s3 := same_new (o := .lst ((ws.take at_ ++ [word]).map V.str)) (Same.refl G6) n3
      have e3 : (upd G6 k3 (.lst ((ws.take at_ ++ [word]).map V.str))) k3 = some (.lst ((ws.take at_ ++ [word]).map V.str)) := upd_same
      generalize upd G6 k3 (.lst ((ws.take at_ ++ [word]).map V.str)) = G7 at *
      have s07 := s1.trans (s2.trans s3)
      refine ⟨_, rfl, _, rfl, _, _, rfl, rfl, _, rfl, l, _, rfl, .inl (.inl (s07 _ _ el4)), fun k4 n4 => ?_⟩
      rw [show ((at_ : Nat) : Int) + 1 = ((at_ + 1 : Nat) : Int) by omega, cut_n18 (at_ + 1) (by rw [List.length_map]; omega), ← List.map_drop]
      have s4 := same_new (o := .lst ((ws.drop (at_ + 1)).map V.str)) (Same.refl G7) n4
      have e4 : (upd G7 k4 (.lst ((ws.drop (at_ + 1)).map V.str))) k4 = some (.lst ((ws.drop (at_ + 1)).map V.str)) := upd_same
      generalize upd G7 k4 (.lst ((ws.drop (at_ + 1)).map V.str)) = G8 at *
      refine ⟨k3, k4, _, _, rfl, rfl, s4 _ _ e3, e4, by rw [List.length_map, List.length_map, List.length_append, List.length_take, List.length_drop]; show _ + 1 + _ ≤ _; omega, fun k5 n5 => ?_⟩
      rw [← List.map_append]
      have s5 := same_new (o := .lst ((ws.take at_ ++ [word] ++ ws.drop (at_ + 1)).map V.str)) (Same.refl G8) n5
      have hw : wt (ws.take at_ ++ [word] ++ ws.drop (at_ + 1)) ≤ 99 + 1 := by
        rw [wt_app, wt_app, wt_cons, wt_nil]
        omega
      refine ⟨" ", k5, _, rfl, rfl, .inl (.inl (.inl upd_same)), ?_, fin _ _ (s07.trans (s4.trans s5)) (wt_join_le rfl hw) (asc_join sp fun y m => ?_)⟩
      · have := wt_sum (ws.take at_ ++ [word] ++ ws.drop (at_ + 1))
        have e1 : (" " : Str).length = 1 := rfl
        rw [e1]
        omega
      · rcases List.mem_append.mp m with m | m
        · rcases List.mem_append.mp m with m | m
          · exact (bw y (List.mem_of_mem_take m)).2
          · rw [List.mem_singleton.mp m]; exact bword.2
        · exact (bw y (List.mem_of_mem_drop m)).2
    refine ⟨_, rfl, rfl, _, rfl, ite2 (fun c => ?_) (fun c6 => ?_)⟩
    · refine ⟨⟨_, rfl⟩, _, rfl, _, rfl, _, rfl, l, _, rfl, .inl (.inl el4), fun k1 n1 => ?_⟩
      rw [cut_to0, ← List.map_take]
      have s1 := same_new (o := .lst ((ws.take at_).map V.str)) (Same.refl G4) n1
      have e1 : (upd G4 k1 (.lst ((ws.take at_).map V.str))) k1 = some (.lst ((ws.take at_).map V.str)) := upd_same
      generalize upd G4 k1 (.lst ((ws.take at_).map V.str)) = G5 at *
      refine ⟨_, rfl, _, rfl, _, _, rfl, rfl, _, rfl, l, _, rfl, .inl (.inl (s1 _ _ el4)), fun k4 n4 => ?_⟩
      rw [show ((at_ : Nat) : Int) + 1 = ((at_ + 1 : Nat) : Int) by omega, cut_n18 (at_ + 1) (by rw [List.length_map]; omega), ← List.map_drop]
      have s4 := same_new (o := .lst ((ws.drop (at_ + 1)).map V.str)) (Same.refl G5) n4
      have e4 : (upd G5 k4 (.lst ((ws.drop (at_ + 1)).map V.str))) k4 = some (.lst ((ws.drop (at_ + 1)).map V.str)) := upd_same
      generalize upd G5 k4 (.lst ((ws.drop (at_ + 1)).map V.str)) = G8 at *
      refine ⟨k1, k4, _, _, rfl, rfl, s4 _ _ e1, e4, by rw [List.length_map, List.length_map, List.length_take, List.length_drop]; omega, fun k5 n5 => ?_⟩
      rw [← List.map_append]
      have s5 := same_new (o := .lst ((ws.take at_ ++ ws.drop (at_ + 1)).map V.str)) (Same.refl G8) n5
      have hw : wt (ws.take at_ ++ ws.drop (at_ + 1)) ≤ 99 + 1 := by
        rw [wt_app]
        omega
      refine ⟨" ", k5, _, rfl, rfl, .inl (.inl (.inl upd_same)), ?_, fin _ _ (s1.trans (s4.trans s5)) (wt_join_le rfl hw) (asc_join sp fun y m => ?_)⟩
      · have := wt_sum (ws.take at_ ++ ws.drop (at_ + 1))
        have e1 : (" " : Str).length = 1 := rfl
        rw [e1]
        omega
      · rcases List.mem_append.mp m with m | m
        · exact (bw y (List.mem_of_mem_take m)).2
        · exact (bw y (List.mem_of_mem_drop m)).2
    refine ⟨_, rfl, rfl, _, rfl, ite2 (fun c => ?_) (fun c7 => ?_)⟩
    · refine ⟨⟨_, rfl⟩, _, rfl, _, rfl, _, _, rfl, rfl, _, rfl, l, _, rfl, .inl (.inl el4), fun k1 n1 => ?_⟩
      rw [show ((at_ : Nat) : Int) + 1 = ((at_ + 1 : Nat) : Int) by omega, cut_to0, ← List.map_take]
      have s1 := same_new (o := .lst ((ws.take (at_ + 1)).map V.str)) (Same.refl G4) n1
      have e1 : (upd G4 k1 (.lst ((ws.take (at_ + 1)).map V.str))) k1 = some (.lst ((ws.take (at_ + 1)).map V.str)) := upd_same
      generalize upd G4 k1 (.lst ((ws.take (at_ + 1)).map V.str)) = G5 at *
      refine ⟨_, rfl, _, rfl, _, rfl, l, _, rfl, .inl (.inl (s1 _ _ el4)), fun k4 n4 => ?_⟩
      rw [cut_n18 at_ (by rw [List.length_map]; omega), ← List.map_drop]
      have s4 := same_new (o := .lst ((ws.drop at_).map V.str)) (Same.refl G5) n4
      have e4 : (upd G5 k4 (.lst ((ws.drop at_).map V.str))) k4 = some (.lst ((ws.drop at_).map V.str)) := upd_same
      generalize upd G5 k4 (.lst ((ws.drop at_).map V.str)) = G8 at *
      refine ⟨k1, k4, _, _, rfl, rfl, s4 _ _ e1, e4, by rw [List.length_map, List.length_map, List.length_take, List.length_drop]; omega, fun k5 n5 => ?_⟩
      rw [← List.map_append]
      have s5 := same_new (o := .lst ((ws.take (at_ + 1) ++ ws.drop at_).map V.str)) (Same.refl G8) n5
      have hx : ws[at_]? = some ws[at_] := List.getElem?_eq_getElem la
      have lx := (bw _ (List.getElem_mem la)).1
      have tk := wt_take hx
      have hw : wt (ws.take (at_ + 1) ++ ws.drop at_) ≤ 99 + 1 := by
        rw [wt_app, tk]
        omega
      refine ⟨" ", k5, _, rfl, rfl, .inl (.inl (.inl upd_same)), ?_, fin _ _ (s1.trans (s4.trans s5)) (wt_join_le rfl hw) (asc_join sp fun y m => ?_)⟩
      · have := wt_sum (ws.take (at_ + 1) ++ ws.drop at_)
        have e1 : (" " : Str).length = 1 := rfl
        rw [e1]
        omega
      · rcases List.mem_append.mp m with m | m
        · exact (bw y (List.mem_of_mem_take m)).2
        · exact (bw y (List.mem_of_mem_drop m)).2
    have hzs : z.length ≤ sizeLine := by omega
    have sg1 := bsign.1
    have bt := base_cut_to bz spt
    have bt1 := bt.1
    refine ⟨_, rfl, rfl, _, rfl, ite2 (fun c => ?_) (fun c8 => ?_)⟩
    · have bf := base_cut_from bz spt
      have bf1 := bf.1
      refine ⟨_, rfl, _, rfl, _, rfl, z, rfl, hzs, _, rfl, _, _, rfl, rfl, by omega, _, rfl, _, rfl, _, rfl, z, rfl, hzs, _, _, rfl, rfl, by rw [len_app]; omega, fin _ _ (Same.refl _) (by rw [len_app, len_app]; omega) (asc_app (asc_app bt.2 bsign.2) bf.2)⟩
    refine ⟨_, rfl, rfl, _, rfl, ite2 (fun c => ?_) (fun c9 => ?_)⟩
    · have bf := base_cut_from bz (spt + 1)
      have bf1 := bf.1
      have r1 : ((spt : Nat) : Int) + 1 = ((spt + 1 : Nat) : Int) := by omega
      have o := fin (cutS z none (some ((spt : Nat) : Int)) ++ sign ++ cutS z (some ((spt + 1 : Nat) : Int)) none) _ (Same.refl _) (by rw [len_app, len_app]; omega) (asc_app (asc_app bt.2 bsign.2) bf.2)
      rw [← r1] at o bf1
      refine ⟨_, rfl, _, rfl, _, rfl, z, rfl, hzs, _, rfl, _, _, rfl, rfl, by omega, _, rfl, _, rfl, _, _, rfl, rfl, _, rfl, z, rfl, hzs, _, _, rfl, rfl, by rw [len_app]; omega, o⟩
    refine ⟨_, rfl, rfl, _, rfl, ite2 (fun c => ?_) (fun c9 => ?_)⟩
    · refine ⟨_, rfl, by show 3 ≤ sizeLine; omega, fun k nk => ?_⟩
      have nkd := dice_ne hd4 nk
      have sx5 := sx4.new (o := .lst (NEW04.map V.str)) nk
      have hd5 : DiceAt (upd G4 k (.lst (NEW04.map V.str))) d := dice_upd hd4 nkd
      have ek : (upd G4 k (.lst (NEW04.map V.str))) k = some (.lst (NEW04.map V.str)) := upd_same
      refine ⟨d, .ref k, NEW04.map V.str, rfl, hd5, .inl ⟨k, rfl, nkd, .inl (.inl (.inl ek))⟩, nofun, by decide, fun v x b c mv => ?_⟩
      obtain ⟨y1, m1, rfl⟩ := List.mem_map.mp mv
      obtain ⟨l1, a1⟩ := lits_base (L := NEW04) (by decide +kernel) y1 m1
      have sx6 : SameX d H (upd (upd G4 k (.lst (NEW04.map V.str))) d (.lst [V.int x, V.int b, V.int c])) := sx5.atd
      have hd6 : DiceAt (upd (upd G4 k (.lst (NEW04.map V.str))) d (.lst [V.int x, V.int b, V.int c])) d := dice_new x b c
      let G6 : Hp := upd (upd G4 k (.lst (NEW04.map V.str))) d (.lst [V.int x, V.int b, V.int c])
      have sx6 : SameX d H G6 := sx6
      have hd6 : DiceAt G6 d := hd6
      have k5 : ("kind " : Str).length = 5 := rfl
      have k1 : (" " : Str).length = 1 := rfl
      refine ⟨_, _, rfl, rfl, by omega, _, _, rfl, rfl, by rw [len_app]; omega, _, rfl, by show 4 ≤ sizeLine; omega, fun k' nk' => ?_⟩
      have nk' : G6 k' = none := nk'
      have nkd' := dice_ne hd6 nk'
      have sx7 := sx6.new (o := .lst (MAK04.map V.str)) nk'
      have hd7 : DiceAt (upd G6 k' (.lst (MAK04.map V.str))) d := dice_upd hd6 nkd'
      have ek' : (upd G6 k' (.lst (MAK04.map V.str))) k' = some (.lst (MAK04.map V.str)) := upd_same
      refine ⟨d, .ref k', MAK04.map V.str, rfl, hd7, .inl ⟨k', rfl, nkd', .inl (.inl (.inl ek'))⟩, nofun, by decide, fun v x b c mv => ?_⟩
      obtain ⟨y2, m2, rfl⟩ := List.mem_map.mp mv
      obtain ⟨l2, a2⟩ := lits_base (L := MAK04) (by decide +kernel) y2 m2
      refine ⟨_, _, rfl, rfl, by rw [len_app, len_app]; omega, q _ _ sx7.atd (dice_new x b c) (.inl ⟨_, rfl, by rw [len_app, len_app, len_app]; omega, asc_app (asc_app (asc_app (asc_lit (by decide +kernel)) a1) sp) a2⟩)⟩
    -- the odd ones
    refine ⟨fun σ' G => ∃ (o t1 t2 t3 t4 : Addr), σ' = [some (.ref d), some (.str z), some (.ref l), some (.int (way : Nat)), some (.int (at_ : Nat)), some (.int (spt : Nat)), some (.str word), some (.str sign), some (.ref o)] ∧ o ≠ d ∧ Same G4 G ∧ G t1 = some (.tup [.str z]) ∧ G t2 = some (.lst [.str z]) ∧ G t3 = some (.dK (mergeK [] [(Sum.inr z, .str z)])) ∧ G t4 = some (.tup []) ∧
        G o = some (.lst [.non, .int 7, .ref t1, .ref t2, .bl true, .ref t3, .ref t4]), ?_, ?_⟩
    · refine ⟨_, rfl, by show 1 ≤ sizeLine; omega, fun t1 n1 => ?_⟩
      have s1 := same_new (o := .tup [V.str z]) (Same.refl G4) n1
      have e1 : (upd G4 t1 (.tup [V.str z])) t1 = some (.tup [V.str z]) := upd_same
      generalize upd G4 t1 (.tup [V.str z]) = G5 at *
      refine ⟨_, rfl, by show 1 ≤ sizeLine; omega, fun t2 n2 => ?_⟩
      have s2 := same_new (o := .lst [V.str z]) (Same.refl G5) n2
      have e2 : (upd G5 t2 (.lst [V.str z])) t2 = some (.lst [V.str z]) := upd_same
      generalize upd G5 t2 (.lst [V.str z]) = G6 at *
      refine fun t3 n3 => ?_
      refine ⟨_, rfl, _, rfl, upd_same, [(Sum.inr z, .str z)], rfl, by show 1 ≤ 15; omega, ?_⟩
      have s3 : Same G6 (upd (upd G6 t3 (.dK [])) t3 (.dK (mergeK [] [(Sum.inr z, .str z)]))) := fun b u e => by rw [upd_ne (ne_of_none e n3), upd_ne (ne_of_none e n3)]; exact e
      have e3 : (upd (upd G6 t3 (.dK [])) t3 (.dK (mergeK [] [(Sum.inr z, .str z)]))) t3 = some (.dK (mergeK [] [(Sum.inr z, .str z)])) := upd_same
      generalize upd (upd G6 t3 (.dK [])) t3 (.dK (mergeK [] [(Sum.inr z, .str z)])) = G7 at *
      refine ⟨Nat.zero_le _, fun t4 n4 => ?_⟩
      have s4 := same_new (o := .tup []) (Same.refl G7) n4
      have e4 : (upd G7 t4 (.tup [])) t4 = some (.tup []) := upd_same
      generalize upd G7 t4 (.tup []) = G8 at *
      refine ⟨by show 7 ≤ sizeLine; omega, fun o no => ?_⟩
      have s08 := s1.trans (s2.trans (s3.trans s4))
      have nod : o ≠ d := dice_ne (by obtain ⟨x, b, c, e⟩ := hd4; exact ⟨x, b, c, s08 _ _ e⟩) no
      have s9 := same_new (o := .lst [V.non, V.int 7, V.ref t1, V.ref t2, V.bl true, V.ref t3, V.ref t4]) (Same.refl G8) no
      exact ⟨o, t1, t2, t3, t4, rfl, nod, s08.trans s9, s9 _ _ (s4 _ _ (s3 _ _ (s2 _ _ e1))), s9 _ _ (s4 _ _ (s3 _ _ e2)), s9 _ _ (s4 _ _ e3), s9 _ _ e4, upd_same⟩
    rintro σ' G5 ⟨o, t1, t2, t3, t4, rfl, nod, s5, e1, e2, e3, e4, eo⟩
    refine ⟨_, rfl, rfl, _, rfl, ite2 (fun c => ?_) (fun c => ?_)⟩
    · exact ⟨_, rfl, fin _ _ s5 (by omega) bz.2⟩
    have hd5 : DiceAt G5 d := by obtain ⟨x, b, c, e⟩ := hd4; exact ⟨x, b, c, s5 _ _ e⟩
    refine ⟨_, rfl, _, rfl, d, _, _, rfl, hd5, .inl ⟨o, rfl, nod, .inl (.inl (.inl eo))⟩, nofun, by show 7 ≤ 100000; omega, fun v x b c mv => ?_⟩
    have sx6 : SameX d G5 (upd G5 d (.lst [V.int x, V.int b, V.int c])) := (SameX.refl d G5).atd
    have hd6 : DiceAt (upd G5 d (.lst [V.int x, V.int b, V.int c])) d := ⟨_, _, _, upd_same⟩
    refine q v _ ((sx4.trans (SameX.of s5)).trans sx6) hd6 (LnV.sx hd5 hd6 sx6 ?_)
    simp only [List.mem_cons, List.not_mem_nil, or_false] at mv
    rcases mv with rfl | rfl | rfl | rfl | rfl | rfl | rfl
    · exact .inr .non
    · exact .inr (.int _)
    · exact .inr (.tup (SqT.of e1))
    · exact .inr (.lst e2)
    · exact .inr (.bl _)
    · exact .inr (.dic e3)
    · exact .inr (.tup (SqT.of e4))
end
end Kl

set_option maxRecDepth 100000
set_option maxHeartbeats 4000000
namespace Kl
open PySem PySem.Spec PyProof.Rows L2 Gx Mx
/-! ### _law_bent -/
section
variable {P : Program} {w : World} {K : PySem.W.Frag} {mg : Str → Option Value} {base : Heap}
def spBe (K : PySem.W.Frag) : Sp := fun vs H Q _ => ∃ (d lp : Addr) (zs : List Str), vs = [.ref d, .ref lp] ∧ DiceAt H d ∧ lp ≠ d ∧ H lp = some (.lst (zs.map V.str)) ∧ zs ≠ [] ∧ zs.length ≤ 7 ∧ (∀ z ∈ zs, BaseL z ∧ 1 ≤ z.length) ∧
  ∀ l xs H', SameX d H H' → DiceAt H' d → H' l = some (.lst xs) → l ≠ d → xs.length ≤ 9 → (∀ v ∈ xs, LnV K H' v) → Q (.ref l) H'
theorem ok_be {f : Addr} {fd : FuncData} (F : Fun K "_law_bent" "_law_bent" s_law_bent f fd) (T : Top K mg) : FnOk P w K mg base CX0 4 f fd ["_law_dice_here", "_law_lines"] (spBe K) := by
  have cr : Cal P w K mg base 3 "_law_roll" ["_law_dice_here", "_law_total"] spRoll := (T.d_law_roll.cal fun f fd F => ok_roll F T).mono (by decide)
  have cp : Cal P w K mg base 3 "_law_pick" ["_law_dice_here", "_law_items"] (spPick K) := (T.d_law_pick.cal fun f fd F => ok_pick F T).mono (by decide)
  have co : Cal P w K mg base 3 "_law_other_line" ["_law_dice_here", "_law_line"] (spOl K) := T.d_law_other_line.cal fun f fd F => ok_ol F T
  refine F.ok sc_law_bent (fun vs H Q E h => ?_) (fun cdv A outer s H vs Q E hr h => ?_)
  · obtain ⟨d, lp, zs, rfl, _⟩ := h
    rfl
  · obtain ⟨d, lp, zs, rfl, hd, nld, hS, ne, l7, hb, q⟩ := h
    refine ⟨_, pss_cut (ps_set (i := 2) sc_law_bent.nd rfl (.inl rfl) (pe_callTy call_list_of (by rfl) T.b_list (by decide +kernel) (pa_cons (pv 1) pa_nil)))
      (pss_cut (ps_for PassesOwn.never rfl (pi_range1 (by rfl) T.b_range (pa_cons (pe_op op_add pe_int (pe_cal cr hr (by rfl) (pa_cons (pv 0) (pa_cons pe_int pa_nil)))) pa_nil)) (pg_name (i := 3) sc_law_bent.nd rfl (.inl rfl))
        (pss_cut (ps_par (i := 4) (j := 5) rfl sc_law_bent.nd rfl rfl (by decide) rfl rfl (pa_cons (pe_cal cr hr (by rfl) (pa_cons (pv 0) (pa_cons (pe_callB call_len_seq (by rfl) T.b_len PySem.boot_len (pa_cons (pv 2) pa_nil)) pa_nil))) (pa_cons (pe_cal cr hr (by rfl) (pa_cons (pv 0) (pa_cons pe_int pa_nil))) pa_nil)) rfl)
        (pss_cut (ps_set (i := 6) sc_law_bent.nd rfl (.inl rfl) (pe_cal co hr (by rfl) (pa_cons (pv 0) (pa_cons (pe_cal cp hr (by rfl) (pa_cons (pv 0) (pa_cons (pv 1) pa_nil))) pa_nil))))
        (pss_one (ps_if (PW.pt (pw_and (pt_cmpR op_eq (pv 5) pe_int (nomark _)) (pw_and1 (pt_cmpR op_gt (pe_callB call_len_seq (by rfl) T.b_len PySem.boot_len (pa_cons (pv 2) pa_nil)) pe_int (nomark _)))))
          (pss_one (ps_set (i := 2) sc_law_bent.nd rfl (.inl rfl) (pe_op op_cat (pe_slice sl_list (pv 2) po_none (po_some (pv 4))) (pe_slice sl_list (pv 2) (po_some (pe_op op_add (pv 4) pe_int)) po_none))))
          (pss_one (ps_set (i := 2) sc_law_bent.nd rfl (.inl rfl) (pe_op op_cat (pe_op op_cat (pe_slice sl_list (pv 2) po_none (po_some (pv 4))) (pe_lst (pa_cons (pv 6) pa_nil)))
            (pe_slice sl_list (pv 2) (po_some (pe_op op_add (pv 4) (pe_callTy call_int1 (by rfl) T.b_int (by decide +kernel) (pa_cons (pe_cmpR op_eq (pv 5) pe_int (nomark _)) pa_nil)))) po_none)))))))))
      (pss_one (ps_ret (pv 2)))), ?_⟩
    have big : 100000 ≤ sizeLine := by decide
    refine ⟨fun σ' G => ∃ l : Addr, σ' = [some (.ref d), some (.ref lp), some (.ref l), none, none, none, none] ∧ G l = some (.lst (zs.map V.str)) ∧ l ≠ d ∧ SameX d H G ∧ DiceAt G d, ?_, ?_⟩
    · refine ⟨_, rfl, lp, _, rfl, .inl (.inl (.inl hS)), fun l nl => ?_⟩
      have nl1 := dice_ne hd nl
      exact ⟨l, rfl, upd_same, nl1, (SameX.refl d H).new nl, dice_upd hd nl1⟩
    rintro σ' G1 ⟨l, rfl, el, nl1, sx1, hd1⟩
    refine ⟨fun σ' G => ∃ (l : Addr) (xs : List V) (t3 t4 t5 t6 : Option V), σ' = [some (.ref d), some (.ref lp), some (.ref l), t3, t4, t5, t6] ∧ G l = some (.lst xs) ∧ l ≠ d ∧ xs.length ≤ 9 ∧ (∀ v ∈ xs, LnV K G v) ∧ SameX d H G ∧ DiceAt G d, ?_, ?_⟩
    · refine ⟨_, rfl, d, 2, rfl, hd1, by decide, by decide, fun r x b c r0 r1 => ?_⟩
      have hd2 : DiceAt (upd G1 d (.lst [V.int x, V.int b, V.int c])) d := ⟨_, _, _, upd_same⟩
      have sx2 : SameX d G1 (upd G1 d (.lst [V.int x, V.int b, V.int c])) := (SameX.refl d G1).atd
      generalize upd G1 d (.lst [V.int x, V.int b, V.int c]) = G2 at *
      refine ⟨_, _, rfl, rfl, _, rfl, by omega, by omega, ?_⟩
      refine for_range (lo := 0) (fun i σ' G => ∃ (l : Addr) (xs : List V) (t3 t4 t5 t6 : Option V), σ' = [some (.ref d), some (.ref lp), some (.ref l), t3, t4, t5, t6] ∧ G l = some (.lst xs) ∧ l ≠ d ∧ 1 ≤ xs.length ∧ xs.length ≤ 7 + i ∧ (∀ v ∈ xs, LnV K G v) ∧ SameX d H G ∧ DiceAt G d)
        ⟨l, _, _, _, _, _, rfl, sx2 _ _ nl1 el, nl1, by rw [List.length_map]; exact List.length_pos_iff.mpr ne, by rw [List.length_map]; omega, fun v m => ?_, sx1.trans sx2, hd2⟩ (fun i σ' G hi hP => ?_) (fun σ' G hP => ?_)
      · obtain ⟨z, mz, rfl⟩ := List.mem_map.mp m
        exact .inl ⟨z, rfl, by have := (hb z mz).1.1; omega, (hb z mz).1.2⟩
      rotate_left
      · obtain ⟨l, xs, t3, t4, t5, t6, rfl, el, nl, _, lx, hx, sx, hd⟩ := hP
        exact ⟨l, xs, t3, t4, t5, t6, rfl, el, nl, by omega, hx, sx, hd⟩
      have i2 : i < 2 := by omega
      obtain ⟨l, xs, t3, t4, t5, t6, rfl, el, nl, l1, lx, hx, sx, hd⟩ := hP
      refine ⟨fun σ' G' => ∃ (at_ way : Nat) (t3 : Option V), σ' = [some (.ref d), some (.ref lp), some (.ref l), t3, some (.int (at_ : Nat)), some (.int (way : Nat)), t6] ∧ at_ < xs.length ∧ SameX d G G' ∧ DiceAt G' d, ?_, ?_⟩
      · refine ⟨_, rfl, _, rfl, l, _, rfl, .inl (.inl (.inl el)), d, (xs.length : Nat), rfl, hd, by omega, log2_small (by omega), fun r x b c r0 r1 => ?_⟩
        obtain ⟨k, rfl⟩ := Int.eq_ofNat_of_zero_le r0
        have hd3 : DiceAt (upd G d (.lst [V.int x, V.int b, V.int c])) d := ⟨_, _, _, upd_same⟩
        have sx3 : SameX d G (upd G d (.lst [V.int x, V.int b, V.int c])) := (SameX.refl d G).atd
        generalize upd G d (.lst [V.int x, V.int b, V.int c]) = G3 at *
        refine ⟨_, rfl, d, 3, rfl, hd3, by decide, by decide, fun r x b c r0 r2 => ?_⟩
        obtain ⟨k2, rfl⟩ := Int.eq_ofNat_of_zero_le r0
        exact ⟨_, _, rfl, k, k2, _, rfl, by omega, sx3.atd, ⟨_, _, _, upd_same⟩⟩
      rintro σ' G3 ⟨at_, way, t3', rfl, la, sx3, hd3⟩
      have sx03 := sx.trans sx3
      refine ⟨fun σ' G' => ∃ v : V, σ' = [some (.ref d), some (.ref lp), some (.ref l), t3', some (.int (at_ : Nat)), some (.int (way : Nat)), some v] ∧ LnV K G' v ∧ SameX d G G' ∧ DiceAt G' d, ?_, ?_⟩
      · refine ⟨_, rfl, _, rfl, _, rfl, d, .ref lp, zs.map V.str, rfl, hd3, .inl ⟨lp, rfl, nld, .inl (.inl (.inl (sx03 _ _ nld hS)))⟩, fun h => ne (List.map_eq_nil_iff.mp h), by rw [List.length_map]; omega, fun v x b c mv => ?_⟩
        obtain ⟨z, mz, rfl⟩ := List.mem_map.mp mv
        exact ⟨d, z, rfl, dice_new x b c, (hb z mz).1, (hb z mz).2, fun v H' sx4 hd4 lv => ⟨v, rfl, lv, (sx3.atd).trans sx4, hd4⟩⟩
      rintro σ' G4 ⟨v, rfl, lv, sx4, hd4⟩
      have el4 := sx4 _ _ nl el
      have hx4 : ∀ v ∈ xs, LnV K G4 v := fun v m => (hx v m).sx hd hd4 sx4
      have nw : ∀ {G' : Hp} {k : Addr} {ys : List V}, Same G4 G' → G' k = none → 1 ≤ ys.length → ys.length ≤ 7 + (i + 1) → (∀ u ∈ ys, u ∈ xs ∨ u = v) → ∃ (l : Addr) (xs : List V) (t3 t4 t5 t6 : Option V), [some (V.ref d), some (V.ref lp), some (V.ref k), t3', some (V.int (at_ : Nat)), some (V.int (way : Nat)), some v] = [some (V.ref d), some (V.ref lp), some (V.ref l), t3, t4, t5, t6] ∧ (upd G' k (.lst ys)) l = some (.lst xs) ∧ l ≠ d ∧ 1 ≤ xs.length ∧ xs.length ≤ 7 + (i + 1) ∧ (∀ v ∈ xs, LnV K (upd G' k (.lst ys)) v) ∧ SameX d H (upd G' k (.lst ys)) ∧ DiceAt (upd G' k (.lst ys)) d := fun {G' k ys} s nk h1 h2 h3 => by
        have hd' : DiceAt G' d := by obtain ⟨x, b, c, e⟩ := hd4; exact ⟨x, b, c, s _ _ e⟩
        have nkd := dice_ne hd' nk
        have s' := same_new (o := .lst ys) s nk
        exact ⟨k, ys, _, _, _, _, rfl, upd_same, nkd, h1, h2, fun u m => ((h3 u m).elim (hx4 u) fun e => by rw [e]; exact lv).same s', (sx.trans sx4).trans (SameX.of s'), dice_upd hd' nkd⟩
      refine ⟨_, rfl, rfl, _, rfl, ite2 (fun c => ?_) (fun c => ?_)⟩
      · refine ⟨_, rfl, l, _, rfl, .inl (.inl (.inl el4)), _, _, rfl, rfl, _, rfl, ite2 (fun c2 => ?_) (fun c2 => ?_)⟩
        · have l2 : 1 < xs.length := by have := of_decide_eq_true c2; omega
          refine ⟨_, rfl, _, rfl, _, rfl, l, _, rfl, .inl (.inl el4), fun k1 n1 => ?_⟩
          rw [cut_to0]
          have s1 := same_new (o := .lst (xs.take at_)) (Same.refl G4) n1
          have e1 : (upd G4 k1 (.lst (xs.take at_))) k1 = some (.lst (xs.take at_)) := upd_same
          generalize upd G4 k1 (.lst (xs.take at_)) = G5 at *
          refine ⟨_, rfl, _, rfl, _, _, rfl, rfl, _, rfl, l, _, rfl, .inl (.inl (s1 _ _ el4)), fun k2 n2 => ?_⟩
          rw [show ((at_ : Nat) : Int) + 1 = ((at_ + 1 : Nat) : Int) by omega, cut_n18 (at_ + 1) (by omega)]
          have s2 := same_new (o := .lst (xs.drop (at_ + 1))) (Same.refl G5) n2
          have e2 : (upd G5 k2 (.lst (xs.drop (at_ + 1)))) k2 = some (.lst (xs.drop (at_ + 1))) := upd_same
          generalize upd G5 k2 (.lst (xs.drop (at_ + 1))) = G6 at *
          refine ⟨k1, k2, _, _, rfl, rfl, s2 _ _ e1, e2, by rw [List.length_take, List.length_drop]; omega, fun k3 n3 => ?_⟩
          refine nw (s1.trans s2) n3 ?_ ?_ fun u m => ?_
          · rw [List.length_append, List.length_take, List.length_drop]; omega
          · rw [List.length_append, List.length_take, List.length_drop]; omega
          · exact .inl ((List.mem_append.mp m).elim List.mem_of_mem_take List.mem_of_mem_drop)
        · refine ⟨_, rfl, _, rfl, _, rfl, l, _, rfl, .inl (.inl el4), fun k1 n1 => ?_⟩
          rw [cut_to0]
          have s1 := same_new (o := .lst (xs.take at_)) (Same.refl G4) n1
          have e1 : (upd G4 k1 (.lst (xs.take at_))) k1 = some (.lst (xs.take at_)) := upd_same
          generalize upd G4 k1 (.lst (xs.take at_)) = G5 at *
          refine ⟨_, rfl, by show 1 ≤ sizeLine; omega, fun k2 n2 => ?_⟩
          have s2 := same_new (o := .lst [v]) (Same.refl G5) n2
          have e2 : (upd G5 k2 (.lst [v])) k2 = some (.lst [v]) := upd_same
          generalize upd G5 k2 (.lst [v]) = G6 at *
          refine ⟨k1, k2, _, _, rfl, rfl, s2 _ _ e1, e2, by rw [List.length_take]; show _ + 1 ≤ _; omega, fun k3 n3 => ?_⟩
          have s3 := same_new (o := .lst (xs.take at_ ++ [v])) (Same.refl G6) n3
          have e3 : (upd G6 k3 (.lst (xs.take at_ ++ [v]))) k3 = some (.lst (xs.take at_ ++ [v])) := upd_same
          generalize upd G6 k3 (.lst (xs.take at_ ++ [v])) = G7 at *
          have s13 := s1.trans (s2.trans s3)
          refine ⟨_, rfl, _, rfl, _, rfl, rfl, .inr ⟨_, rfl, _, _, rfl, rfl, _, rfl, l, _, rfl, .inl (.inl (s13 _ _ el4)), fun k4 n4 => ?_⟩⟩
          obtain ⟨o, lo, eo⟩ : ∃ o : Nat, o ≤ 1 ∧ ((at_ : Nat) : Int) + (if decide (V.int ((way : Nat) : Int) = V.int 1) = true then 1 else 0) = ((at_ + o : Nat) : Int) := by
            split
            · exact ⟨1, Nat.le_refl _, by omega⟩
            · exact ⟨0, Nat.zero_le _, by omega⟩
          rw [eo, cut_n18 (at_ + o) (by omega)]
          have s4 := same_new (o := .lst (xs.drop (at_ + o))) (Same.refl G7) n4
          have e4 : (upd G7 k4 (.lst (xs.drop (at_ + o)))) k4 = some (.lst (xs.drop (at_ + o))) := upd_same
          generalize upd G7 k4 (.lst (xs.drop (at_ + o))) = G8 at *
          refine ⟨k3, k4, _, _, rfl, rfl, s4 _ _ e3, e4, by rw [List.length_append, List.length_take, List.length_drop]; show _ + 1 + _ ≤ _; omega, fun k5 n5 => ?_⟩
          refine nw (s13.trans s4) n5 ?_ ?_ fun u m => ?_
          · rw [List.length_append, List.length_append]; show 1 ≤ _ + 1 + _; omega
          · rw [List.length_append, List.length_append, List.length_take, List.length_drop]; show _ + 1 + _ ≤ _; omega
          · rcases List.mem_append.mp m with m | m
            · rcases List.mem_append.mp m with m | m
              · exact .inl (List.mem_of_mem_take m)
              · exact .inr (List.mem_singleton.mp m)
            · exact .inl (List.mem_of_mem_drop m)
      · refine ⟨_, rfl, _, rfl, _, rfl, l, _, rfl, .inl (.inl el4), fun k1 n1 => ?_⟩
        rw [cut_to0]
        have s1 := same_new (o := .lst (xs.take at_)) (Same.refl G4) n1
        have e1 : (upd G4 k1 (.lst (xs.take at_))) k1 = some (.lst (xs.take at_)) := upd_same
        generalize upd G4 k1 (.lst (xs.take at_)) = G5 at *
        refine ⟨_, rfl, by show 1 ≤ sizeLine; omega, fun k2 n2 => ?_⟩
        have s2 := same_new (o := .lst [v]) (Same.refl G5) n2
        have e2 : (upd G5 k2 (.lst [v])) k2 = some (.lst [v]) := upd_same
        generalize upd G5 k2 (.lst [v]) = G6 at *
        refine ⟨k1, k2, _, _, rfl, rfl, s2 _ _ e1, e2, by rw [List.length_take]; show _ + 1 ≤ _; omega, fun k3 n3 => ?_⟩
        have s3 := same_new (o := .lst (xs.take at_ ++ [v])) (Same.refl G6) n3
        have e3 : (upd G6 k3 (.lst (xs.take at_ ++ [v]))) k3 = some (.lst (xs.take at_ ++ [v])) := upd_same
        generalize upd G6 k3 (.lst (xs.take at_ ++ [v])) = G7 at *
        have s13 := s1.trans (s2.trans s3)
        refine ⟨_, rfl, _, rfl, _, rfl, rfl, .inr ⟨_, rfl, _, _, rfl, rfl, _, rfl, l, _, rfl, .inl (.inl (s13 _ _ el4)), fun k4 n4 => ?_⟩⟩
        obtain ⟨o, lo, eo⟩ : ∃ o : Nat, o ≤ 1 ∧ ((at_ : Nat) : Int) + (if decide (V.int ((way : Nat) : Int) = V.int 1) = true then 1 else 0) = ((at_ + o : Nat) : Int) := by
          split
          · exact ⟨1, Nat.le_refl _, by omega⟩
          · exact ⟨0, Nat.zero_le _, by omega⟩
        rw [eo, cut_n18 (at_ + o) (by omega)]
        have s4 := same_new (o := .lst (xs.drop (at_ + o))) (Same.refl G7) n4
        have e4 : (upd G7 k4 (.lst (xs.drop (at_ + o)))) k4 = some (.lst (xs.drop (at_ + o))) := upd_same
        generalize upd G7 k4 (.lst (xs.drop (at_ + o))) = G8 at *
        refine ⟨k3, k4, _, _, rfl, rfl, s4 _ _ e3, e4, by rw [List.length_append, List.length_take, List.length_drop]; show _ + 1 + _ ≤ _; omega, fun k5 n5 => ?_⟩
        refine nw (s13.trans s4) n5 ?_ ?_ fun u m => ?_
        · rw [List.length_append, List.length_append]; show 1 ≤ _ + 1 + _; omega
        · rw [List.length_append, List.length_append, List.length_take, List.length_drop]; show _ + 1 + _ ≤ _; omega
        · rcases List.mem_append.mp m with m | m
          · rcases List.mem_append.mp m with m | m
            · exact .inl (List.mem_of_mem_take m)
            · exact .inr (List.mem_singleton.mp m)
          · exact .inl (List.mem_of_mem_drop m)
    rintro σ' G2 ⟨l, xs, t3, t4, t5, t6, rfl, el, nl2, lx, hx, sx2, hd2⟩
    exact ⟨_, rfl, q l xs G2 sx2 hd2 el nl2 lx hx⟩
end
end Kl

set_option maxRecDepth 100000
set_option maxHeartbeats 4000000
namespace Kl
open PySem PySem.Spec PyProof.Rows L2 Gx Mx
/-! ### equal makings -/
def eqB (M N : Mak) : Bool := M.length == N.length && M.all fun m => decide (lookM N m.1 = some m.2)
theorem sub_back : ∀ {xs ys : List Str}, xs.Nodup → (∀ z ∈ xs, z ∈ ys) → ys.length ≤ xs.length → ∀ z ∈ ys, z ∈ xs
  | [], ys, _, _, hl, z, hz => by
    have e : ys = [] := List.eq_nil_of_length_eq_zero (Nat.le_zero.mp hl)
    rw [e] at hz
    exact hz
  | x :: xs, ys, nd, hs, hl, z, hz => by
    have nd' := List.nodup_cons.mp nd
    have hx : x ∈ ys := hs x List.mem_cons_self
    by_cases e : z = x
    · rw [e]
      exact List.mem_cons_self
    · refine List.mem_cons_of_mem _ (sub_back nd'.2 (ys := ys.erase x) (fun y hy => ?_) ?_ z ((List.mem_erase_of_ne e).mpr hz))
      · exact (List.mem_erase_of_ne (fun q => nd'.1 (by rw [← q]; exact hy))).mpr (hs y (List.mem_cons_of_mem _ hy))
      · rw [List.length_erase_of_mem hx]
        rw [List.length_cons] at hl
        omega
theorem eqB_iff {M N : Mak} (hM : (keysOf M).Nodup) (hN : (keysOf N).Nodup) : eqB M N = true ↔ ∀ z, lookM M z = lookM N z := by
  unfold eqB
  rw [Bool.and_eq_true, beq_iff_eq, List.all_eq_true]
  constructor
  · rintro ⟨hl, ha⟩ z
    have sub : ∀ z ∈ keysOf M, z ∈ keysOf N := fun z hz => by
      obtain ⟨m, hm, rfl⟩ := List.mem_map.mp hz
      exact List.mem_map.mpr ⟨(m.1, m.2), lookM_some (of_decide_eq_true (ha m hm)), rfl⟩
    have back := sub_back hM sub (by unfold keysOf; rw [List.length_map, List.length_map]; omega)
    by_cases hz : z ∈ keysOf M
    · obtain ⟨m, hm, rfl⟩ := List.mem_map.mp hz
      rw [lookM_mem hM hm, of_decide_eq_true (ha m hm)]
    · rw [lookM_none.mpr hz, lookM_none.mpr fun q => hz (back z q)]
  · intro h
    have k : ∀ z, z ∈ keysOf M ↔ z ∈ keysOf N := fun z => by
      constructor
      · intro q
        obtain ⟨ps, e⟩ := lookM_in q
        rw [h] at e
        exact List.mem_map.mpr ⟨_, lookM_some e, rfl⟩
      · intro q
        obtain ⟨ps, e⟩ := lookM_in q
        rw [← h] at e
        exact List.mem_map.mpr ⟨_, lookM_some e, rfl⟩
    refine ⟨?_, fun m hm => decide_eq_true ((h m.1).symm.trans (lookM_mem hM hm))⟩
    have := ((List.perm_ext_iff_of_nodup hM hN).mpr k).length_eq
    unfold keysOf at this
    rwa [List.length_map, List.length_map] at this
theorem eqB_ord {M M' N N' : Mak} (hM : (keysOf M).Nodup) (hN : (keysOf N).Nodup) (o : OrdOf M M') (o' : OrdOf N N') : eqB M' N' = eqB M N := by
  rw [Bool.eq_iff_iff, eqB_iff o.nd o'.nd, eqB_iff hM hN]
  constructor
  · intro h z
    rw [← o.look, ← o'.look]
    exact h z
  · intro h z
    rw [o.look, o'.look]
    exact h z
theorem hits {K : PySem.W.Frag} {H : Hp} {ls : List (Key × V)} {N : Mak} (hN : MakAt H ls N) : ∀ {ks : List (Key × V)} {M : Mak}, MakAt H ks M → M.length ≤ 1000 → (∀ m ∈ M, SeqAt.shaped (.tuple (tD m.2)) = true) → (∀ m ∈ N, SeqAt.shaped (.tuple (tD m.2)) = true) →
    HitsV K H ls ks (M.all fun m => decide (lookM N m.1 = some m.2))
  | _, _, .nil, _, _, _ => .nil
  | kv :: ks, m :: M, .cons h t, hl, hs, hs' => by
    obtain ⟨h1, a, h2, h3⟩ := h
    have ih := hits (K := K) hN t (by rw [List.length_cons] at hl; omega) (fun m hm => hs m (List.mem_cons_of_mem _ hm)) hs'
    rw [List.all_cons]
    rcases hN.get m.1 with ⟨e1, e2⟩ | ⟨ps, b, e1, e2, e3⟩
    · rw [e1, show decide ((none : Option (List Str)) = some m.2) = false from rfl, Bool.false_and]
      exact .miss (by rw [h1]; exact e2)
    · have e : decide (lookM N m.1 = some m.2) = PyData.eqv (.tuple (tD m.2)) (.tuple (tD ps)) := by
        rw [PyData.eqv, eqv_texts, e1, Bool.eq_iff_iff, decide_eq_true_eq, decide_eq_true_eq]
        constructor
        · intro q
          exact (Option.some.inj q).symm
        · intro q
          rw [q]
      rw [e]
      exact .hit (by rw [h1]; exact e2) (by rw [h2]; exact .tup h3.sq (dp_texts _)) (.tup e3.sq (dp_texts _)) (hs m List.mem_cons_self) (hs' (m.1, ps) (lookM_some e1)) ih
section
variable {P : Program} {w : World} {K : PySem.W.Frag} {mg : Str → Option Value} {base : Heap}
/-! ### == -/
theorem hu66_of {A : Around} {k : Nat} (hr : Room k A) : A.units + 66 < cLine := by
  have := hr.un
  omega
theorem texts_shaped (zs : List Str) (h : ∀ z ∈ zs, z ∈ POOL) (_ : zs.length ≤ 3) : SeqAt.shaped (.tuple (tD zs)) = true := shaped_textsT fun z m => names_low (h z m)
theorem Vld.shaped {leaf : Str} {M : Mak} (v : Vld leaf M) : ∀ m ∈ M, SeqAt.shaped (.tuple (tD m.2)) = true := fun m hm =>
  texts_shaped m.2 (fun z hz => v.part hm hz) (v.parts m hm).2.2.1
def spKEq (K : PySem.W.Frag) (C : Addr) : Sp := fun vs H Q _ => ∃ (x md : Addr) (leaf : Str) (M : Mak) (ns : List Str) (y : V), vs = [V.ref x, y] ∧ KindsAt C H x md leaf M ns ∧ Vld leaf M ∧
  ((∃ (x' md' : Addr) (leaf' : Str) (N : Mak) (ns' : List Str), y = .ref x' ∧ KindsAt C H x' md' leaf' N ns' ∧ Vld leaf' N ∧ Q (.bl (decide (leaf = leaf') && eqB M N)) H) ∨
    ∃ t, TyX K H y t ∧ PySem.W.kitOne K t (.ref C) = some false ∧ Q (.bl false) H)
theorem ok_keq {C f : Addr} {fd : FuncData} (F : Fun K "__eq__" "Kinds.__eq__" s_Kinds_eq f fd) (T : Top K mg) (TC : Cl_Kinds K mg C) : FnOk P w K mg base CX0 1 f fd ["self", "other"] (spKEq K C) := by
  refine F.ok sc_Kinds_eq (fun vs H Q E h => ?_) (fun cdv A outer s H vs Q E hr h => ?_)
  · obtain ⟨x, md, leaf, M, ns, y, rfl, _⟩ := h
    rfl
  · obtain ⟨x, md, leaf, M, ns, y, rfl, ⟨dx, nt, kvs, hx, hd, hM, hn⟩, hV, q⟩ := h
    have hu := hu_of hr
    refine ⟨_, pss_one (ps_ret (pe_and (pe_callB call_isi (by rfl) T.b_isinstance (by decide +kernel) (pa_cons (pv 1) (pa_cons (pe_glob (v := .ref C) (by rfl) TC.gC rfl) pa_nil)))
      (pe_and (pe_cmpR op_eq (pe_fld (pv 0) rfl) (pe_fld (pv 1) rfl) (nomark _)) (pe_one (pe_cmpR (op_eqDX (hu66_of hr)) (pe_fld (pv 0) rfl) (pe_fld (pv 1) rfl) (nomark _)))))), ?_⟩
    rcases q with ⟨x', md', leaf', N, ns', rfl, ⟨dx', nt', kvs', hx', hd', hN, hn'⟩, hV', q⟩ | ⟨t, ty, kt, q⟩
    · refine ⟨_, rfl, _, _, .ref C, .ref C, true, rfl, .own C, .base (.ins hx' TC.cl TC.ca TC.cg TC.ct TC.ob), TC.kit, true, rfl, ?_⟩
      rw [if_pos rfl]
      refine ⟨_, rfl, x, C, dx, _, _, rfl, hx, TC.cl, TC.n_leaf, kf_leaf _ _ _, _, rfl, x', C, dx', _, _, rfl, hx', TC.cl, TC.n_leaf, kf_leaf _ _ _, rfl, _, rfl, ?_⟩
      have ed : decide (V.str leaf = V.str leaf') = decide (leaf = leaf') := by
        rw [Bool.eq_iff_iff, decide_eq_true_eq, decide_eq_true_eq]
        exact ⟨fun q => V.str.inj q, fun q => by rw [q]⟩
      rw [ed]
      by_cases e : leaf = leaf'
      · rw [decide_eq_true e, if_pos rfl]
        rw [decide_eq_true e, Bool.true_and] at q
        refine ⟨_, rfl, x, C, dx, _, _, rfl, hx, TC.cl, TC.n_makings, kf_mak _ _ _, _, rfl, x', C, dx', _, _, rfl, hx', TC.cl, TC.n_makings, kf_mak _ _ _, md, md', kvs, kvs', _, rfl, rfl, hd, hd', fun _ => hits hN hM (by have := hV.len; omega) hV.shaped hV'.shaped, ?_⟩
        rw [hM.len, hN.len]
        exact q
      · rw [decide_eq_false e] at q ⊢
        rw [if_neg (by decide)]
        exact q
    · refine ⟨_, rfl, _, _, t, .ref C, false, rfl, .own C, ty, kt, false, rfl, ?_⟩
      rw [if_neg (by decide)]
      exact q
end
end Kl

set_option maxRecDepth 100000
set_option maxHeartbeats 4000000
namespace Kl
open PySem PySem.Spec PyProof.Rows L2 Gx Mx
theorem erase_map {α β : Type} (f : α → β) : ∀ (l : List α) (k : Nat), (l.map f).eraseIdx k = (l.eraseIdx k).map f
  | [], _ => rfl
  | _ :: _, 0 => rfl
  | x :: l, k + 1 => congrArg (f x :: ·) (erase_map f l k)
theorem erase_perm {α : Type} : ∀ (l : List α) (k : Nat) (x : α), l[k]? = some x → (x :: l.eraseIdx k).Perm l
  | [], _, _, h => by simp at h
  | y :: l, 0, x, h => by
    simp at h
    subst h
    exact List.Perm.refl _
  | y :: l, k + 1, x, h => by
    have ih := erase_perm l k x h
    exact (List.Perm.swap y x (l.eraseIdx k)).trans (ih.cons y)
section
variable {P : Program} {w : World} {K : PySem.W.Frag} {mg : Str → Option Value} {base : Heap}
/-! ### _law_mixed -/
def spMixed (K : PySem.W.Frag) : Sp := fun vs H Q _ => ∃ (d p : Addr) (zs : List Str), vs = [.ref d, .ref p] ∧ DiceAt H d ∧ p ≠ d ∧ SqL K H p (zs.map V.str) ∧ zs.length ≤ 1000 ∧
  ∀ (q : Addr) (H' : Hp) (ys : List Str), ys.Perm zs → H q = none → H' q = some (.lst (ys.map V.str)) → SameX d H H' → DiceAt H' d → Q (.ref q) H'
theorem seqI {r : Int} {n : Nat} (h0 : 0 ≤ r) (h1 : r < n) : seqIndex? r n = some r.toNat := by
  have e : ¬ r < 0 := by omega
  simp [seqIndex?, e, h0, h1]
theorem ok_mixed {f : Addr} {fd : FuncData} (F : Fun K "_law_mixed" "_law_mixed" s_law_mixed f fd) (T : Top K mg) : FnOk P w K mg base CX0 2 f fd ["_law_dice_here", "_law_items"] (spMixed K) := by
  have cr : Cal P w K mg base 1 "_law_roll" ["_law_dice_here", "_law_total"] spRoll := T.d_law_roll.cal fun f fd F => ok_roll F T
  refine F.ok sc_law_mixed (fun vs H Q E h => ?_) (fun cdv A outer s H vs Q E hr h => ?_)
  · obtain ⟨d, p, zs, rfl, _⟩ := h
    rfl
  · obtain ⟨d, p, zs, rfl, hd, hpd, hs, hl, q⟩ := h
    refine ⟨_, pss_cons (ps_par (i := 2) (j := 3) rfl sc_law_mixed.nd rfl rfl (by decide) rfl rfl (pa_cons (pe_callTy call_list_of (by rfl) T.b_list (by decide +kernel) (pa_cons (pv 1) pa_nil)) (pa_cons (pe_lst pa_nil) pa_nil)) rfl)
      (pss_cons (ps_for PassesOwn.never rfl (pi_range1 (by rfl) T.b_range (pa_cons (pe_callB call_len_seq (by rfl) T.b_len PySem.boot_len (pa_cons (pv 1) pa_nil)) pa_nil)) (pg_name (i := 4) sc_law_mixed.nd rfl (.inl rfl))
        (pss_one (ps_expr (pe_bm PySem.F.plainAttrs_list PySem.F.slot_list_append PySem.F.type_list_append mt_append (pv 3) (pa_cons
          (pe_bm PySem.F.plainAttrs_list PySem.F.slot_list_pop PySem.F.type_list_pop mt_popAt (pv 2) (pa_cons (pe_cal cr hr (by rfl) (pa_cons (pv 0) (pa_cons (pe_callB call_len_seq (by rfl) T.b_len PySem.boot_len (pa_cons (pv 2) pa_nil)) pa_nil))) pa_nil)) pa_nil)))))
      (pss_one (ps_ret (pv 3)))), ?_⟩
    have ln : (zs.map V.str).length = zs.length := List.length_map _
    refine ⟨_, rfl, p, _, rfl, .inl hs, fun l nl => ?_⟩
    have hld : l ≠ d := dice_ne hd nl
    refine ⟨Nat.zero_le _, fun q' nq => ?_⟩
    have hql : q' ≠ l := fun z => by
      rw [z, upd_same] at nq
      cases nq
    have nq0 : H q' = none := by rwa [upd_ne hql] at nq
    have hqd : q' ≠ d := dice_ne hd nq0
    have hp2 : SqL K (upd (upd H l (.lst (zs.map V.str))) q' (.lst [])) p (zs.map V.str) := by
      have s2 : Same H (upd (upd H l (.lst (zs.map V.str))) q' (.lst [])) := same_new (same_new (Same.refl H) nl) nq
      rcases hs with (h | ⟨o, h⟩) | h
      · exact .inl (.inl (s2 _ _ h))
      · exact .inl (.inr ⟨o, s2 _ _ h⟩)
      · exact .inr h
    refine ⟨_, _, rfl, _, rfl, p, _, rfl, .inl hp2, _, rfl, by omega, by omega, ?_⟩
    rw [ln]
    refine for_range (lo := 0) (fun i σ' H' => ∃ t, ∃ ls fs : List Str, σ' = [some (.ref d), some (.ref p), some (.ref l), some (.ref q'), t] ∧ H' l = some (.lst (ls.map V.str)) ∧ H' q' = some (.lst (fs.map V.str)) ∧ fs.length = i ∧ (fs ++ ls).Perm zs ∧ SameX d H H' ∧ DiceAt H' d)
      ⟨none, zs, [], rfl, ?_, upd_same, rfl, List.Perm.refl _, ?_, ?_⟩ (fun i σ' H' hi hP => ?_) (fun σ' H' hP => ?_)
    · rw [upd_ne hql.symm, upd_same]
    · exact ((SameX.refl d H).at nl).at nq0
    · exact dice_upd (dice_upd hd hld) hqd
    · obtain ⟨t, ls, fs, rfl, el, eq, lf, hp, sx, hd'⟩ := hP
      have lz := hp.length_eq
      rw [List.length_append] at lz
      have l1 : 0 < ls.length := by omega
      have lm : (ls.map V.str).length = ls.length := List.length_map _
      refine ⟨_, rfl, ⟨.inl ⟨rfl, _, .inl (.inl eq)⟩, ?_⟩⟩
      refine ⟨_, rfl, ⟨.inl ⟨rfl, _, .inl (.inl el)⟩, ?_⟩⟩
      refine ⟨_, rfl, _, rfl, l, _, rfl, .inl (.inl (.inl el)), d, _, rfl, hd', by rw [lm]; omega, by rw [lm]; exact log2_small (by omega), fun r x b c h0 h1 => ?_⟩
      rw [lm] at h1
      obtain ⟨k, rfl⟩ := Int.eq_ofNat_of_zero_le h0
      have hk : k < ls.length := by omega
      have ek : (ls.map V.str)[k]? = some (.str ls[k]) := by rw [List.getElem?_map, List.getElem?_eq_getElem hk]; rfl
      refine ⟨l, ls.map V.str, (k : Int), k, _, rfl, rfl, by rw [upd_ne hld]; exact el, by omega, by omega, by rw [lm]; exact seqI h0 h1, ek, ?_⟩
      refine ⟨q', fs.map V.str, _, rfl, rfl, by rw [upd_ne hql, upd_ne hqd]; exact eq, ?_, ?_⟩
      · rw [List.length_map]
        exact Nat.lt_of_le_of_lt (show fs.length ≤ 1000 by omega) (by decide)
      · refine ⟨_, ls.eraseIdx k, fs ++ [ls[k]], rfl, ?_, ?_, by rw [List.length_append, lf]; rfl, ?_, ?_, ?_⟩
        · rw [upd_ne hql.symm, upd_same, erase_map]
        · rw [upd_same, List.map_append]
          rfl
        · have e1 := erase_perm ls k _ (List.getElem?_eq_getElem hk)
          rw [List.append_assoc]
          exact (e1.append_left fs).trans hp
        · exact (sx.atd.at nl).at nq0
        · exact dice_upd (dice_upd (dice_new x b c) hld) hqd
    · obtain ⟨t, ls, fs, rfl, el, eq, lf, hp, sx, hd'⟩ := hP
      have lz := hp.length_eq
      rw [List.length_append] at lz
      have e0 : ls = [] := List.eq_nil_of_length_eq_zero (by omega)
      rw [e0, List.append_nil] at hp
      exact ⟨_, rfl, q q' H' fs hp nq0 eq sx hd'⟩
end
end Kl

set_option maxRecDepth 100000
set_option maxHeartbeats 4000000
namespace Kl
open PySem PySem.Spec PyProof.Rows L2 Gx Mx
theorem TupZ.samex {d a : Addr} {H H' : Hp} {xs : List V} (h : TupZ H a xs) (hd : DiceAt H d) (s : SameX d H H') : TupZ H' a xs := by
  obtain ⟨_, _, _, e⟩ := hd
  exact h.at fun o q => s _ _ (h.ne e (fun _ => nofun)) q
theorem MakAt.samex {d : Addr} {H H' : Hp} {kvs : List (Key × V)} {M : Mak} (h : MakAt H kvs M) (hd : DiceAt H d) (s : SameX d H H') : MakAt H' kvs M := h.same fun _ _ q => q.samex hd s
theorem sub_len : ∀ {xs ys : List Str}, xs.Nodup → (∀ z ∈ xs, z ∈ ys) → xs.length ≤ ys.length
  | [], ys, _, _ => Nat.zero_le _
  | x :: xs, ys, nd, hs => by
    have nd' := List.nodup_cons.mp nd
    have hx : x ∈ ys := hs x List.mem_cons_self
    have ih := sub_len nd'.2 (ys := ys.erase x) fun y hy => (List.mem_erase_of_ne (fun q => nd'.1 (by rw [← q]; exact hy))).mpr (hs y (List.mem_cons_of_mem _ hy))
    have e := List.length_erase_of_mem hx
    have p : 0 < ys.length := List.length_pos_of_mem hx
    rw [List.length_cons]
    omega
/-- the makings so far, of the first i names -/
structure Sofar (ns : List Str) (leaf : Str) (i : Nat) (M : Mak) : Prop where
  nd : (keysOf M).Nodup
  sub : ∀ z ∈ keysOf M, z ∈ ns.take i
  all : ∀ z ∈ ns.take i, z ≠ leaf → z ∈ keysOf M
  parts : ∀ m ∈ M, sortedS m.2 = true ∧ 2 ≤ m.2.length ∧ m.2.length ≤ 3 ∧ ∀ p ∈ m.2, p ∈ ns
theorem Sofar.vld {ns : List Str} {leaf : Str} {M : Mak} (h : Sofar ns leaf ns.length M) (hl : leaf ∈ ns) (hp : ∀ z ∈ ns, z ∈ POOL) (h6 : ns.length ≤ 6) : Vld leaf M := by
  have e : ns.take ns.length = ns := List.take_length
  refine ⟨hp _ hl, fun z hz => hp z (by have := h.sub z hz; rwa [e] at this), h.nd, fun m hm => ?_, fun ms nd hs => ?_⟩
  · obtain ⟨p1, p2, p3, p4⟩ := h.parts m hm
    refine ⟨p1, p2, p3, fun p hpm => ?_⟩
    by_cases c : p = leaf
    · exact .inl c
    · exact .inr (h.all p (by rw [e]; exact p4 p hpm) c)
  · refine Nat.le_trans (sub_len nd (ys := ns) fun z hz => ?_) h6
    rcases hs z hz with rfl | q
    · exact hl
    · have := h.sub z q
      rwa [e] at this
theorem Sofar.skip {ns : List Str} {leaf : Str} {i : Nat} {M : Mak} {z : Str} (h : Sofar ns leaf i M) (hz : ns[i]? = some z) (e : z = leaf) : Sofar ns leaf (i + 1) M := by
  have et : ns.take (i + 1) = ns.take i ++ [z] := by rw [List.take_add_one, hz]; rfl
  refine ⟨h.nd, fun y hy => by rw [et]; exact List.mem_append_left _ (h.sub y hy), fun y hy ne => ?_, h.parts⟩
  rw [et, List.mem_append, List.mem_singleton] at hy
  rcases hy with hy | rfl
  · exact h.all y hy ne
  · exact absurd e ne
theorem take_not {ns : List Str} (nd : ns.Nodup) {i : Nat} {z : Str} (hz : ns[i]? = some z) : z ∉ ns.take i := by
  intro hin
  obtain ⟨j, hj⟩ := List.mem_iff_getElem?.mp hin
  rw [List.getElem?_take] at hj
  by_cases c : j < i
  · rw [if_pos c] at hj
    obtain ⟨h1, e1⟩ := List.getElem?_eq_some_iff.mp hj
    obtain ⟨h2, e2⟩ := List.getElem?_eq_some_iff.mp hz
    have := (List.nodup_iff_pairwise_ne.mp nd)
    exact absurd (e1.trans e2.symm) (List.pairwise_iff_getElem.mp this j i h1 h2 c)
  · rw [if_neg c] at hj
    cases hj
theorem Sofar.put {ns : List Str} {leaf : Str} {i : Nat} {M : Mak} {z : Str} {ps : List Str} (h : Sofar ns leaf i M) (nd : ns.Nodup) (hz : ns[i]? = some z) (hs : sortedS ps = true) (h2 : 2 ≤ ps.length) (h3 : ps.length ≤ 3) (hp : ∀ p ∈ ps, p ∈ ns) :
    Sofar ns leaf (i + 1) (M ++ [(z, ps)]) := by
  have et : ns.take (i + 1) = ns.take i ++ [z] := by rw [List.take_add_one, hz]; rfl
  have ek : keysOf (M ++ [(z, ps)]) = keysOf M ++ [z] := by unfold keysOf; rw [List.map_append]; rfl
  have nz : z ∉ keysOf M := fun q => take_not nd hz (h.sub z q)
  refine ⟨?_, fun y hy => ?_, fun y hy ne => ?_, fun m hm => ?_⟩
  · rw [ek, List.nodup_append]
    refine ⟨h.nd, List.nodup_cons.mpr ⟨List.not_mem_nil, List.nodup_nil⟩, fun a ha b hb => ?_⟩
    rw [List.mem_singleton] at hb
    subst hb
    exact fun q => nz (by rw [← q]; exact ha)
  · rw [ek, List.mem_append, List.mem_singleton] at hy
    rw [et, List.mem_append, List.mem_singleton]
    exact hy.imp (h.sub y) id
  · rw [et, List.mem_append, List.mem_singleton] at hy
    rw [ek, List.mem_append, List.mem_singleton]
    exact hy.imp (fun q => h.all y q ne) id
  · rw [List.mem_append, List.mem_singleton] at hm
    rcases hm with hm | rfl
    · exact h.parts m hm
    · exact ⟨hs, h2, h3, hp⟩
theorem MakAt.put {H : Hp} {kvs : List (Key × V)} {M : Mak} {z : Str} {ps : List Str} {t : Addr} (h : MakAt H kvs M) (nz : z ∉ keysOf M) (ht : TupZ H t (ps.map V.str)) : MakAt H (putK kvs (Sum.inr z) (.ref t)) (M ++ [(z, ps)]) := by
  have e : valV kvs (Sum.inr z) = none := by
    rcases h.get z with ⟨_, e⟩ | ⟨ps', a, e1, _⟩
    · exact e
    · rw [lookM_none.mpr nz] at e1
      cases e1
  rw [putK_new _ e]
  unfold MakAt at h ⊢
  clear e nz
  induction h with
  | nil => exact .cons ⟨rfl, t, rfl, ht⟩ .nil
  | cons h _ ih => exact .cons h ih
structure LKs (H : Hp) (d l mk : Addr) (ns : List Str) (leaf : Str) (i : Nat) (H' : Hp) : Prop where
  el : H' l = some (.lst (ns.map V.str))
  mks : ∃ kvs M, H' mk = some (.dK kvs) ∧ MakAt H' kvs M ∧ Sofar ns leaf i M
  sx : SameX d H H'
  hd : DiceAt H' d
theorem LKs.step {H H' H'' : Hp} {d l mk : Addr} {ns : List Str} {leaf : Str} {i : Nat} (h : LKs H d l mk ns leaf i H') (nl : l ≠ d) (nm : mk ≠ d) (s : SameX d H' H'') (hd : DiceAt H'' d) : LKs H d l mk ns leaf i H'' := by
  obtain ⟨el, ⟨kvs, M, e1, e2, e3⟩, sx, hd'⟩ := h
  exact ⟨s _ _ nl el, ⟨kvs, M, s _ _ nm e1, e2.samex hd' s, e3⟩, sx.trans s, hd⟩
end Kl

set_option maxRecDepth 100000
set_option maxHeartbeats 4000000
namespace Kl
open PySem PySem.Spec PyProof.Rows L2 Gx Mx
def P8 : List Str := ["a", "b", "ab", "c", "leaf", "kind", "z", "zzzzzzzz"]
theorem p8_nd : P8.Nodup := by decide +kernel
theorem p8_ok : ∀ z ∈ P8, nameB z = true := by decide +kernel
theorem or_mid {t u : TT} {σ : L2.St} {H : Hp} {Q : Bool → Hp → Prop} (B : Bool → Hp → Prop) (h : ∀ Q' : Bool → Hp → Prop, (∀ c H1, B c H1 → Q' c H1) → tOr t u σ H Q') (k : ∀ c H1, B c H1 → Q c H1) : tOr t u σ H Q := h Q k
section
variable {P : Program} {w : World} {K : PySem.W.Frag} {mg : Str → Option Value} {base : Heap}
def spLKinds : Sp := fun vs H Q _ => ∃ d : Addr, vs = [.ref d, .int 6] ∧ DiceAt H d ∧
  ∀ (p mk : Addr) (leaf : Str) (kvs : List (Key × V)) (M : Mak) (H' : Hp), H' p = some (.lst [.str leaf, .ref mk]) → H' mk = some (.dK kvs) → MakAt H' kvs M → Vld leaf M → H p = none → H mk = none → p ≠ mk → SameX d H H' → DiceAt H' d → Q (.ref p) H'
abbrev NK : List Str := ["_law_dice_here", "_law_most", "_law_pool", "_law_names", "_law_makings", "_law_name", "_law_parts", "_law_turn"]
theorem ok_lkinds {f : Addr} {fd : FuncData} (F : Fun K "_law_kinds" "_law_kinds" s_law_kinds f fd) (T : Top K mg) : FnOk P w K mg base CX0 3 f fd ["_law_dice_here", "_law_most"] spLKinds := by
  have cr : Cal P w K mg base 2 "_law_roll" ["_law_dice_here", "_law_total"] spRoll := (T.d_law_roll.cal fun f fd F => ok_roll F T).mono (by decide)
  have cm : Cal P w K mg base 2 "_law_mixed" ["_law_dice_here", "_law_items"] (spMixed K) := T.d_law_mixed.cal fun f fd F => ok_mixed F T
  have cp : Cal P w K mg base 2 "_law_pick" ["_law_dice_here", "_law_items"] (spPick K) := T.d_law_pick.cal fun f fd F => ok_pick F T
  refine F.ok sc_law_kinds (fun vs H Q E h => ?_) (fun cdv A outer s H vs Q E hr h => ?_)
  · obtain ⟨d, rfl, _⟩ := h
    rfl
  · obtain ⟨d, rfl, hd, q⟩ := h
    have hu := hu_of hr
    refine ⟨_, pss_cons (ps_set (i := 2) sc_law_kinds.nd rfl (.inl rfl) (pe_lst (pa_cons pe_str (pa_cons pe_str (pa_cons pe_str (pa_cons pe_str (pa_cons pe_str (pa_cons pe_str (pa_cons pe_str (pa_cons pe_str pa_nil))))))))))
      (pss_cons (ps_asg (pe_tup (pa_cons (pe_slice sl_list (pe_cal cm hr (by rfl) (pa_cons (pv 0) (pa_cons (pv 2) pa_nil))) po_none (po_some (pe_op op_add pe_int (pe_cal cr hr (by rfl) (pa_cons (pv 0) (pa_cons (pv 1) pa_nil)))))) (pa_cons pe_dnewK pa_nil)))
        (pg_tup rfl (pgs_cons (pg_name (i := 3) sc_law_kinds.nd rfl (.inr rfl)) (pgs_cons (pg_name (i := 4) sc_law_kinds.nd rfl (.inl rfl)) pgs_nil))))
      (pss_cons (ps_for PassesOwn.never rfl (pi_list (pv 3)) (pg_name (i := 5) sc_law_kinds.nd rfl (.inl rfl))
        (pss_one (ps_if (PW.pt (pw_or (pt_cmpR op_ne (pv 5) (pe_ix ix_list (pv 3) pe_int (fun _ _ => rfl)) (by rfl)) (pw_or1 (pt_cmpR op_eq (pe_cal cr hr (by rfl) (pa_cons (pv 0) (pa_cons pe_int pa_nil))) pe_int (nomark _)))))
          (pss_cons (ps_setLc (i := 6) (own := [("_law_turn", 7)]) (g := gName 7) (tt := tYes) (by rfl) sc_law_kinds.nd rfl rfl (sw_true rfl rfl rfl (by decide +kernel)) (pi_range1 (by rfl) T.b_range (pa_cons (pe_cal cp hr (by rfl) (pa_cons (pv 0) (pa_cons (pe_lst (pa_cons pe_int (pa_cons pe_int (pa_cons pe_int pa_nil)))) pa_nil))) pa_nil))
              (blkOk_by (N := NK) (sc := defScope s_law_kinds) (by decide +kernel)) (fun _ _ _ _ _ => pg_name (i := 7) sc_law_kinds.nd rfl (.inl rfl)) (fun _ _ _ _ _ => pts_nil)
              (fun _ _ _ _ _ => pe_cal cp hr (by rfl) (pa_cons (pv 0) (pa_cons (pv 3) pa_nil))))
          (pss_one (ps_asg (pe_callTy call_tupleZ (by rfl) T.b_tuple (by decide +kernel) (pa_cons (pe_callB cr_sortedS (by rfl) T.b_sorted (by decide +kernel) (pa_cons (pv 6) pa_nil)) pa_nil)) (pg_sub (pv 4) (pv 5) (set_dict hu)))))
          pss_nil)))
      (pss_one (ps_ret (pe_lst (pa_cons (pe_ix ix_list (pv 3) pe_int (fun _ _ => rfl)) (pa_cons (pv 4) pa_nil))))))), ?_⟩
    have big : 1000 ≤ sizeLine := by decide
    refine ⟨by show 8 ≤ sizeLine; decide, fun pool np => ?_⟩
    have hpd : pool ≠ d := dice_ne hd np
    have hd1 := dice_upd (o := .lst (P8.map V.str)) hd hpd
    have sx1 : SameX d H (upd H pool (.lst (P8.map V.str))) := (SameX.refl d H).at np
    refine ⟨_, rfl, _, rfl, d, pool, P8, rfl, hd1, hpd, .inl (.inl upd_same), by decide, fun lm H2 ys hperm nlm elm sx2 hd2 => ?_⟩
    have sxa := sx1.trans sx2
    have hlmd : lm ≠ d := dice_ne hd1 nlm
    refine ⟨_, rfl, _, rfl, d, _, rfl, hd2, by decide, by decide, fun r x b c h0 h1 => ⟨_, _, rfl, rfl, _, rfl, ?_⟩⟩
    obtain ⟨k, rfl⟩ := Int.eq_ofNat_of_zero_le h0
    have hk : k < 6 := by omega
    have elm3 : (upd H2 d (.lst [.int x, .int b, .int c])) lm = some (.lst (ys.map V.str)) := by rw [upd_ne hlmd]; exact elm
    have hd3 : DiceAt (upd H2 d (.lst [.int x, .int b, .int c])) d := dice_new x b c
    have sx3 : SameX d H (upd H2 d (.lst [.int x, .int b, .int c])) := sxa.atd
    generalize upd H2 d (.lst [.int x, .int b, .int c]) = H3 at elm3 hd3 sx3
    have l8 : ys.length = 8 := hperm.length_eq
    have ec : cutV (ys.map V.str) none (some (1 + (k : Int))) = (ys.take (k + 1)).map V.str := by
      unfold cutV
      rw [show (1 + (k : Int)) = ((k + 1 : Nat) : Int) by omega, HT.sIx_nat, HT.sIx_none, List.drop_zero, List.map_take, List.length_map, Nat.sub_zero, Nat.min_eq_left (by omega)]
    refine ⟨lm, _, rfl, .inl (.inl elm3), fun l nl => ?_⟩
    rw [ec]
    have hld : l ≠ d := dice_ne hd3 nl
    refine fun mk nm => ⟨by show 2 ≤ sizeLine; decide, fun tp ntp => ?_⟩
    have hml : mk ≠ l := fun z => by
      rw [z, upd_same] at nm
      cases nm
    have nm3 : H3 mk = none := by rwa [upd_ne hml] at nm
    have hmd : mk ≠ d := dice_ne hd3 nm3
    have htm : tp ≠ mk := fun z => by
      rw [z, upd_same] at ntp
      cases ntp
    have htl : tp ≠ l := fun z => by
      rw [upd_ne htm, z, upd_same] at ntp
      cases ntp
    refine ⟨tp, _, rfl, .inl (.inl upd_same), rfl, _, _, rfl, _, _, rfl, rfl, ?_⟩
    have nd8 : ys.Nodup := hperm.nodup_iff.mpr p8_nd
    have hin : ∀ z ∈ ys.take (k + 1), z ∈ POOL := fun z hz => in_pool (p8_ok z (hperm.mem_iff.mp (List.mem_of_mem_take hz)))
    have ndn : (ys.take (k + 1)).Nodup := nd8.sublist (List.take_sublist _ _)
    have ln : (ys.take (k + 1)).length = k + 1 := by rw [List.length_take]; omega
    generalize ys.take (k + 1) = ns at hin ndn ln nm ntp ⊢
    obtain ⟨leaf, rest, rfl⟩ : ∃ leaf rest, ns = leaf :: rest := by
      cases ns with
      | nil => cases ln
      | cons a l => exact ⟨a, l, rfl⟩
    have hK : LKs H d l mk (leaf :: rest) leaf 0 (upd (upd (upd H3 l (.lst ((leaf :: rest).map V.str))) mk (.dK [])) tp (.tup [.ref l, .ref mk])) := by
      refine ⟨?_, ⟨[], [], ?_, .nil, ⟨List.nodup_nil, nofun, nofun, nofun⟩⟩, ?_, ?_⟩
      · rw [upd_ne htl.symm, upd_ne hml.symm, upd_same]
      · rw [upd_ne htm.symm, upd_same]
      · exact ((sx3.new nl).new nm).new ntp
      · refine dice_upd (dice_upd (dice_upd hd3 hld) hmd) fun z => ?_
        rw [upd_ne htm, upd_ne htl] at ntp
        exact dice_ne hd3 ntp z
    have nlH : H l = none := sx3.free hld nl
    have nmH : H mk = none := sx3.free hmd nm3
    generalize upd (upd (upd H3 l (.lst ((leaf :: rest).map V.str))) mk (.dK [])) tp (.tup [.ref l, .ref mk]) = H6 at hK
    refine ⟨_, rfl, l, rfl, ⟨_, .inl (.inl hK.el)⟩, ?_⟩
    refine for_it (walk_list (K := K) (a := l) (xs := (leaf :: rest).map V.str)) (fun i σ' H' => ∃ y5 y6 y7, σ' = [some (.ref d), some (.int 6), some (.ref pool), some (.ref l), some (.ref mk), y5, y6, y7] ∧ LKs H d l mk (leaf :: rest) leaf i H')
      ⟨_, _, _, rfl, hK⟩ (fun i σ' H' _ hP => by obtain ⟨_, _, _, _, h⟩ := hP; exact .inl (.inl h.el)) (fun i v σ' H' H'' hi hP hy => ?_) (fun σ' H' hP => ?_)
    · obtain ⟨y5, y6, y7, rfl, hK⟩ := hP
      obtain ⟨rfl, hv⟩ := hy
      obtain ⟨z, hz, rfl⟩ := at_texts hv
      refine or_mid (fun c H1 => LKs H d l mk (leaf :: rest) leaf i H1 ∧ (c = false → z = leaf)) (fun Q' hQ' => ?_) (fun c H1 hc => ?_)
      · refine ⟨_, rfl, _, rfl, l, _, _, _, rfl, rfl, .inl (.inl hK.el), atI_nat (j := 0) rfl, rfl, _, rfl, ?_⟩
        refine ite2 (fun e => ?_) (fun e => ?_)
        · rw [Bool.not_eq_true', decide_eq_false_iff_not] at e
          exact hQ' _ _ ⟨hK, fun q => nomatch q⟩
        · rw [Bool.not_eq_true', decide_eq_false_iff_not, Classical.not_not] at e
          refine ⟨_, rfl, d, _, rfl, hK.hd, by decide, by decide, fun r x b c h0 h1 => ⟨rfl, _, rfl, ?_⟩⟩
          exact hQ' _ _ ⟨hK.step hld hmd ((SameX.refl d _).atd) (dice_new x b c), fun _ => V.str.inj e⟩
      · obtain ⟨hK1, hc⟩ := hc
        cases c with
        | false =>
          obtain ⟨kvs, M, e1, e2, e3⟩ := hK1.mks
          exact ⟨_, _, _, rfl, hK1.el, ⟨kvs, M, e1, e2, e3.skip hz (hc rfl)⟩, hK1.sx, hK1.hd⟩
        | true =>
          rw [if_pos rfl]
          refine ⟨_, rfl, by show 3 ≤ sizeLine; decide, fun tl ntl => ?_⟩
          have htl' : tl ≠ d := dice_ne hK1.hd ntl
          refine ⟨d, .ref tl, _, rfl, dice_upd hK1.hd htl', .inl ⟨tl, rfl, htl', .inl (.inl (.inl upd_same))⟩, nofun, by decide, fun v x b c hv => ?_⟩
          obtain ⟨n, rfl, n2, n3⟩ : ∃ n : Nat, v = .int n ∧ 2 ≤ n ∧ n ≤ 3 := by
            simp only [List.mem_cons, List.not_mem_nil, or_false] at hv
            rcases hv with rfl | rfl | rfl
            · exact ⟨2, rfl, by omega, by omega⟩
            · exact ⟨2, rfl, by omega, by omega⟩
            · exact ⟨3, rfl, by omega, by omega⟩
          have hK2 := hK1.step hld hmd (((SameX.refl d H1).new (o := .lst [.int 2, .int 2, .int 3]) ntl).atd (o := .lst [.int x, .int b, .int c])) (dice_new x b c)
          generalize upd (upd H1 tl (.lst [.int 2, .int 2, .int 3])) d (.lst [.int x, .int b, .int c]) = H2 at hK2
          refine ⟨_, rfl, by omega, by omega, fun D nD => ?_⟩
          have hDd : D ≠ d := dice_ne hK2.hd nD
          rw [Int.toNat_natCast]
          refine lc_range (lo := 0) (fun j G => ∃ fs : List Str, G D = some (.lst (fs.map V.str)) ∧ fs.length = j ∧ (∀ p ∈ fs, p ∈ leaf :: rest) ∧ SameX d H2 G ∧ DiceAt G d)
            ⟨[], upd_same, rfl, nofun, (SameX.refl d H2).new nD, dice_upd hK2.hd hDd⟩ (fun j G hj hP => ?_) (fun G hP => ?_)
          · obtain ⟨fs, eD, lf, hf, sx, hdG⟩ := hP
            refine ⟨rfl, _, rfl, _, rfl, d, .ref l, _, rfl, hdG, .inl ⟨l, rfl, hld, .inl (.inl (.inl (sx _ _ hld hK2.el)))⟩, nofun, ?_, fun v x b c hv => ?_⟩
            · rw [List.length_map]
              omega
            · obtain ⟨p, hp, rfl⟩ := List.mem_map.mp hv
              refine ⟨fs.map V.str, by rw [upd_ne hDd]; exact eD, ?_, fs ++ [p], ?_, by rw [List.length_append, lf]; rfl, fun y hy => ?_, ?_, dice_upd (dice_new x b c) hDd⟩
              · rw [List.length_map]
                omega
              · rw [upd_same, List.map_append]
                rfl
              · rw [List.mem_append, List.mem_singleton] at hy
                rcases hy with hy | rfl
                · exact hf y hy
                · exact hp
              · exact sx.atd.at nD
          · obtain ⟨fs, eD, lf, hf, sx, hdG⟩ := hP
            have hK3 := hK2.step hld hmd sx hdG
            refine ⟨_, rfl, D, fs, rfl, .inl (.inl eD), by omega, fun zs sp hperm hsrt nsp => ?_⟩
            refine ⟨sp, _, rfl, .inl (.inl upd_same), fun t H3 ht nt heq => ?_⟩
            have sm : Same G H3 := fun b u e => by
              rw [heq b (ne_of_none (same_new (Same.refl G) nsp b u e) nt)]
              exact same_new (Same.refl G) nsp b u e
            obtain ⟨x3, b3, c3, ed⟩ := hdG
            have hK4 := hK3.step hld hmd (SameX.of sm) ⟨x3, b3, c3, sm _ _ ed⟩
            obtain ⟨kvs, M, e1, e2, e3⟩ := hK4.mks
            have nz : z ∉ keysOf M := fun q => take_not ndn hz (e3.sub z q)
            have lkv : kvs.length < sizeLine := by
              rw [e2.len]
              have h1 := sub_len e3.nd e3.sub
              rw [List.length_take] at h1
              unfold keysOf at h1
              rw [List.length_map] at h1
              omega
            have lz := hperm.length_eq
            refine ⟨_, rfl, _, rfl, mk, _, rfl, .inl ⟨kvs, Sum.inr z, e1, rfl, lkv, rfl⟩, ?_⟩
            refine ⟨_, _, _, rfl, ?_, ⟨_, M ++ [(z, zs)], upd_same, ?_, e3.put ndn hz hsrt (by omega) (by omega) fun p hp => hf p (hperm.mem_iff.mp hp)⟩, hK4.sx.at nmH, dice_upd hK4.hd hmd⟩
            · rw [upd_ne hml.symm]
              exact hK4.el
            · exact (e2.put nz ht).same fun a xs h => h.at fun o e => by
                rw [upd_ne (h.ne e1 (fun _ => nofun))]
                exact e
    · obtain ⟨y5, y6, y7, rfl, hK⟩ := hP
      rw [List.length_map] at hK
      obtain ⟨kvs, M, e1, e2, e3⟩ := hK.mks
      refine ⟨_, rfl, l, _, _, _, rfl, rfl, .inl (.inl hK.el), atI_nat (j := 0) rfl, _, rfl, by show 2 ≤ sizeLine; decide, fun p npp => ?_⟩
      have hpm : p ≠ mk := fun z => by
        rw [z, e1] at npp
        cases npp
      have hpd' : p ≠ d := dice_ne hK.hd npp
      have sxp : SameX d H (upd H' p (.lst [.str leaf, .ref mk])) := hK.sx.new npp
      refine q p mk leaf kvs M _ upd_same (by rw [upd_ne hpm.symm]; exact e1) (e2.samex hK.hd ((SameX.refl d H').new npp)) (e3.vld List.mem_cons_self hin (by omega)) (hK.sx.free hpd' npp) nmH hpm sxp (dice_upd hK.hd hpd')
end
end Kl

set_option maxRecDepth 100000
set_option maxHeartbeats 4000000
namespace Kl
open PySem PySem.Spec PyProof.Rows L2 Gx Mx
/-! ### the lines of kinds, read again -/
theorem str_assoc (a b c : Str) : a ++ b ++ c = a ++ (b ++ c) := by
  show (⟨a.cps ++ b.cps ++ c.cps⟩ : Str) = ⟨a.cps ++ (b.cps ++ c.cps)⟩
  rw [Array.append_assoc]
theorem low_no18 {z : Str} (h : nameB z = true) {c : Nat} (hc : c ∈ TL.tl z) : 97 ≤ c ∧ c ≤ 122 := by
  unfold nameB at h
  rw [Bool.and_eq_true, List.all_eq_true] at h
  exact of_decide_eq_true (h.2 c hc)
theorem split_names18 {q : List Str} (h : ∀ z ∈ q, nameB z = true) (hne : q ≠ []) : Txt.split (Txt.join "+" q) "+" = q :=
  TL.split_join (s := 43) (S := []) (by decide +kernel) (by decide +kernel) hne fun p hp hc => by
    have := low_no18 (h p hp) hc
    omega
theorem split_line18 {ws : List Str} (hne : ws ≠ []) (h : ∀ z ∈ ws, 32 ∉ TL.tl z) : Txt.split (Txt.join " " ws) " " = ws :=
  TL.split_join (s := 32) (S := []) (by decide +kernel) (by decide +kernel) hne h
theorem no_space {z : Str} (h : nameB z = true) : 32 ∉ TL.tl z := fun hc => by
  have := low_no18 h hc
  omega
theorem plus_no {zs : List Str} (hz : ∀ y ∈ zs, nameB y = true) : 32 ∉ TL.tl (Txt.join "+" zs) := by
  have aux : ∀ zs : List Str, (∀ y ∈ zs, nameB y = true) → 32 ∉ TL.tl (Txt.join "+" zs) := by
    intro zs
    induction zs with
    | nil => intro _; rw [TL.join_eq]; intro h; cases h
    | cons a r ih =>
      intro hz
      cases r with
      | nil =>
        rw [TL.join_eq]
        exact no_space (hz a List.mem_cons_self)
      | cons b t =>
        have i := ih fun y m => hz y (List.mem_cons_of_mem _ m)
        rw [TL.join_eq] at i ⊢
        show 32 ∉ (a ++ "+" ++ Str.join "+" (b :: t)).cps.toList
        rw [cps_app18, cps_app18, List.mem_append, List.mem_append]
        rintro ((h | h) | h)
        · exact no_space (hz a List.mem_cons_self) h
        · revert h
          decide +kernel
        · exact i h
  exact aux zs hz
/-- what is known of makings that are told -/
def MkOk (M : Mak) : Prop := ∀ m ∈ M, nameB m.1 = true ∧ sortedS m.2 = true ∧ 2 ≤ m.2.length ∧ m.2.length ≤ 3 ∧ ∀ p ∈ m.2, nameB p = true
theorem Vld.mkOk {leaf : Str} {M : Mak} (v : Vld leaf M) : MkOk M := fun m mm =>
  ⟨v.keys _ (List.mem_map.mpr ⟨m, mm, rfl⟩), (v.parts m mm).1, (v.parts m mm).2.1, (v.parts m mm).2.2.1, fun p mp => v.part mm mp⟩
theorem parse_plus {q : List Str} (h1 : sortedS q = true) (h2 : 2 ≤ q.length) (h3 : q.length ≤ 3) (h4 : ∀ p ∈ q, nameB p = true) : parseM (Txt.join "+" q) = some q := by
  have ne : q ≠ [] := fun e => by rw [e] at h2; exact absurd h2 (by decide)
  have hs := split_names18 h4 ne
  rw [parseM_split, hs]
  refine if_pos ⟨?_, h2⟩
  unfold digB
  rw [Bool.and_eq_true, Bool.and_eq_true, decide_eq_true_eq]
  exact ⟨by omega, List.all_eq_true.mpr h4, h1⟩
def plsK (leaf : Str) (M : Mak) : List Pl := .l leaf :: M.map fun m => .k m.1 m.2
theorem tell_lines {leaf : Str} {M : Mak} (hl : nameB leaf = true) (h : MkOk M) : (linesK leaf M).map (fun z => tellV (.str z)) = (plsK leaf M).map some := by
  unfold linesK plsK
  rw [List.map_cons, List.map_cons, List.map_map, List.map_map]
  congr 1
  · have e : ("leaf " : Str) ++ leaf = Txt.join " " ["leaf", leaf] := by
      rw [TL.join_eq]
      have e1 : ("leaf " : Str) = ("leaf" : Str) ++ " " := by decide +kernel
      rw [e1]
      rfl
    show tellW (Txt.split (("leaf " : Str) ++ leaf) " ") = _
    rw [e, split_line18 (by simp) fun z m => by
      simp only [List.mem_cons, List.not_mem_nil, or_false] at m
      rcases m with rfl | rfl
      · decide +kernel
      · exact no_space hl]
    exact if_pos ⟨rfl, hl⟩
  refine List.map_congr_left fun m mm => ?_
  obtain ⟨b1, b2, b3, b4, b5⟩ := h m mm
  have e : lineK m.1 m.2 = Txt.join " " ["kind", m.1, Txt.join "+" m.2] := by
    rw [TL.join_eq]
    unfold lineK
    have e1 : ("kind " : Str) = ("kind" : Str) ++ " " := by decide +kernel
    rw [e1]
    show _ = ("kind" : Str) ++ " " ++ (m.1 ++ " " ++ Txt.join "+" m.2)
    simp only [str_assoc]
  show tellW (Txt.split (lineK m.1 m.2) " ") = some (Pl.k m.1 m.2)
  rw [e, split_line18 (by simp) fun z mz => by
    simp only [List.mem_cons, List.not_mem_nil, or_false] at mz
    rcases mz with rfl | rfl | rfl
    · decide +kernel
    · exact no_space b1
    · exact plus_no b5]
  exact tellW_mk b1 (parse_plus b2 b3 b4 b5)
theorem readL_nd : ∀ {ps qs : List Pl} {i : Nat}, ((qs ++ ps).map plK).Nodup → readL qs i (ps.map some) = .inl (qs ++ ps)
  | [], qs, i, _ => by rw [List.append_nil]; rfl
  | p :: ps, qs, i, nd => by
    have nd' : (((qs ++ [p]) ++ ps).map plK).Nodup := by rw [List.append_assoc]; exact nd
    have n : plK p ∉ qs.map plK := fun m => by
      rw [List.map_append, List.map_cons] at nd
      exact (List.nodup_append.mp nd).2.2 _ m _ List.mem_cons_self rfl
    show (if plK p ∈ qs.map plK then .inr i else readL (qs ++ [p]) (i + 1) (ps.map some)) = _
    rw [if_neg n, readL_nd nd', List.append_assoc]
    rfl
theorem pls_nd {leaf : Str} {M : Mak} (nd : (keysOf M).Nodup) : ((plsK leaf M).map plK).Nodup := by
  unfold plsK
  rw [List.map_cons, List.map_map]
  refine List.nodup_cons.mpr ⟨fun m => ?_, ?_⟩
  · obtain ⟨r, _, e⟩ := List.mem_map.mp m
    exact plK_lk e.symm
  · rw [show (plK ∘ fun m : Str × List Str => Pl.k m.1 m.2) = (fun z : Str => plK (.k z [])) ∘ (fun m : Str × List Str => m.1) from rfl, ← List.map_map]
    exact List.Pairwise.map _ (fun a b n e => n (plK_k e)) nd
theorem leafOf_mem {qs : List Pl} {z : Str} (h : leafOf qs = some z) : Pl.l z ∈ qs := by
  unfold leafOf at h
  obtain ⟨p, m, e⟩ := List.exists_of_findSome?_eq_some h
  cases p with
  | l y => cases e; exact m
  | k a b => cases e
theorem maksOf_pls {leaf : Str} {M : Mak} : maksOf (plsK leaf M) = M := by
  unfold maksOf plsK
  rw [List.filterMap_cons_none rfl, List.filterMap_map]
  exact List.filterMap_some
theorem fm_some : ∀ l : List Pl, (l.map some).filterMap id = l
  | [] => rfl
  | a :: r => by
    show a :: (r.map some).filterMap id = _
    rw [fm_some r]
/-- lines of kinds, in whichever order -/
theorem read_back {leaf : Str} {M : Mak} {ys : List Str} (hl : nameB leaf = true) (h : MkOk M) (ndM : (keysOf M).Nodup) (p : ys.Perm (linesK leaf M)) :
    ∃ qs, readL [] 0 ((ys.map V.str).map tellV) = .inl qs ∧ leafOf qs = some leaf ∧ (maksOf qs).Perm M := by
  have tl := tell_lines hl h
  obtain ⟨os, hos⟩ : ∃ os, os = ys.map fun z => tellV (.str z) := ⟨_, rfl⟩
  have po : os.Perm ((plsK leaf M).map some) := by
    rw [← tl, hos]
    exact p.map _
  have pp : (os.filterMap id).Perm (plsK leaf M) := by
    have := po.filterMap id
    rw [fm_some] at this
    exact this
  have eo : os = (os.filterMap id).map some := by
    have all : ∀ l : List (Option Pl), (∀ o ∈ l, o ≠ none) → l = (l.filterMap id).map some := by
      intro l
      induction l with
      | nil => intro _; rfl
      | cons o r ih =>
        intro ho
        cases o with
        | none => exact absurd rfl (ho none List.mem_cons_self)
        | some q =>
          show some q :: r = some q :: (r.filterMap id).map some
          rw [← ih fun o m => ho o (List.mem_cons_of_mem _ m)]
    refine all os fun o m e => ?_
    have := po.mem_iff.mp m
    obtain ⟨q, _, e2⟩ := List.mem_map.mp this
    rw [e] at e2
    cases e2
  have nd : ((os.filterMap id).map plK).Nodup := (pp.map plK).nodup_iff.mpr (pls_nd ndM)
  refine ⟨os.filterMap id, ?_, ?_, ?_⟩
  · rw [List.map_map]
    show readL [] 0 (ys.map fun z => tellV (.str z)) = _
    rw [← hos, eo]
    have := readL_nd (qs := []) (ps := os.filterMap id) (i := 0) nd
    rw [← eo] at this ⊢
    exact this
  · have m : Pl.l leaf ∈ os.filterMap id := pp.mem_iff.mpr List.mem_cons_self
    have ne : leafOf (os.filterMap id) ≠ none := place_l.mp (List.mem_map.mpr ⟨_, m, rfl⟩)
    cases e : leafOf (os.filterMap id) with
    | none => exact absurd e ne
    | some z =>
      have := pp.mem_iff.mp (leafOf_mem e)
      unfold plsK at this
      simp only [List.mem_cons, List.mem_map] at this
      rcases this with h | ⟨r, _, h⟩
      · cases h; rfl
      · cases h
  · have := pp.filterMap (fun p => match p with | Pl.k n q => some (n, q) | _ => none)
    exact this.trans (by rw [show (plsK leaf M).filterMap (fun p => match p with | Pl.k n q => some (n, q) | _ => none) = maksOf (plsK leaf M) from rfl, maksOf_pls])
/-! ### the same makings in another order -/
theorem perm_nd {M N : Mak} (p : M.Perm N) (nd : (keysOf N).Nodup) : (keysOf M).Nodup := (show (M.map (·.1)).Nodup from (p.map (·.1)).nodup_iff.mpr (show (N.map (·.1)).Nodup from nd))
theorem look_perm {M N : Mak} (p : M.Perm N) (nd : (keysOf N).Nodup) (z : Str) : lookM M z = lookM N z := by
  have ndM : (keysOf M).Nodup := perm_nd p nd
  cases e : lookM M z with
  | none =>
    refine (lookM_none.mpr fun m => lookM_none.mp e ?_).symm
    exact (p.map (·.1)).mem_iff.mpr m
  | some ps =>
    have := lookM_mem nd (p.mem_iff.mp (lookM_some e))
    exact this.symm
theorem OrdOf.perm {M N M' : Mak} (h : OrdOf M M') (p : M.Perm N) (nd : (keysOf N).Nodup) : OrdOf N M' := ⟨h.srt, h.nd, fun z => by rw [h.look, look_perm p nd]⟩
theorem keys_perm {M N : Mak} (p : M.Perm N) (z : Str) : z ∈ keysOf M ↔ z ∈ keysOf N := (p.map (·.1)).mem_iff
theorem Vld.perm {leaf : Str} {M N : Mak} (v : Vld leaf N) (p : M.Perm N) : Vld leaf M :=
  ⟨v.lf, fun z m => v.keys z ((keys_perm p z).mp m), perm_nd p v.nd, fun m mm => by
    obtain ⟨a, b, c, d⟩ := v.parts m (p.mem_iff.mp mm)
    exact ⟨a, b, c, fun q mq => (d q mq).imp id (keys_perm p q).mpr⟩, fun ns nd h => v.few ns nd fun z m => (h z m).imp id (keys_perm p z).mp⟩
theorem IsNames.perm {leaf : Str} {M N : Mak} {ns : List Str} (h : IsNames leaf (keysOf M) ns) (p : M.Perm N) : IsNames leaf (keysOf N) ns := ⟨h.srt, h.nd, fun z => by rw [h.mem, keys_perm p]⟩
/-! ### lines are short -/
theorem wt_le {zs : List Str} (h : ∀ z ∈ zs, z.length ≤ 8) : wt zs ≤ 9 * zs.length := by
  induction zs with
  | nil => exact Nat.zero_le _
  | cons a r ih =>
    have h1 := h a List.mem_cons_self
    have h2 := ih fun z m => h z (List.mem_cons_of_mem _ m)
    rw [wt_cons, List.length_cons]
    omega
theorem base_lines {leaf : Str} {M : Mak} (hl : nameB leaf = true) (h : MkOk M) : ∀ z ∈ linesK leaf M, BaseL z ∧ 1 ≤ z.length := by
  intro z m
  unfold linesK at m
  rcases List.mem_cons.mp m with rfl | m
  · have l5 : ("leaf " : Str).length = 5 := rfl
    have l8 := pool_len (in_pool hl)
    exact ⟨⟨by rw [len_app]; omega, asc_app (asc_lit (by decide +kernel)) (asc_name hl)⟩, by rw [len_app]; omega⟩
  · obtain ⟨x, mx, rfl⟩ := List.mem_map.mp m
    obtain ⟨b1, b2, b3, b4, b5⟩ := h x mx
    have l5 : ("kind " : Str).length = 5 := rfl
    have l1 : (" " : Str).length = 1 := rfl
    have l8 := pool_len (in_pool b1)
    have hw := wt_le fun z m => pool_len (in_pool (b5 z m))
    have lj : (Txt.join "+" x.2).length ≤ 26 := wt_join_le rfl (by omega)
    unfold lineK
    exact ⟨⟨by rw [len_app, len_app, len_app]; omega, asc_app (asc_app (asc_app (asc_lit (by decide +kernel)) (asc_name b1)) (asc_lit (by decide +kernel))) (asc_join (asc_lit (by decide +kernel)) fun z m => asc_name (b5 z m))⟩, by rw [len_app, len_app, len_app]; omega⟩
theorem lines_len {leaf : Str} {M : Mak} : (linesK leaf M).length = M.length + 1 := by
  unfold linesK
  rw [List.length_cons, List.length_map]
end Kl

set_option maxRecDepth 100000
set_option maxHeartbeats 4000000
namespace Kl
open PySem PySem.Spec PyProof.Rows L2 Gx Mx LamX
/-! ### _law_is_due -/
theorem made {C x dx md : Addr} {G H1 : Hp} (nx : G x = none) (ndx : G dx = none) (nmd : (upd (upd G dx (.own x)) x (.ins C dx [])) md = none) (keep : ∀ b o, b ≠ x → (upd (upd G dx (.own x)) x (.ins C dx [])) b = some o → H1 b = some o) : Same G H1 ∧ G md = none := by
  refine ⟨fun b u e => keep b u (ne_of_none e nx) (by rw [upd_ne (ne_of_none e nx), upd_ne (ne_of_none e ndx)]; exact e), ?_⟩
  have n1 : md ≠ x := fun z => by
    rw [z, upd_same] at nmd
    cases nmd
  rw [upd_ne n1] at nmd
  have n2 : md ≠ dx := fun z => by
    rw [z, upd_same] at nmd
    cases nmd
  rwa [upd_ne n2] at nmd
theorem KindsAt.exX {C : Addr} {H H' : Hp} {x md d : Addr} {leaf : Str} {M : Mak} {ns : List Str} (h : KindsAt C H x md leaf M ns) (s : ExtX d H H') (hd : DiceAt H d) : KindsAt C H' x md leaf M ns := by
  obtain ⟨dx, nt, kvs, h1, h2, h3, h4⟩ := h
  obtain ⟨a, b, c, e⟩ := hd
  have nd : ∀ {p : Addr} {o : HO}, H p = some o → (∀ xs, o ≠ .lst xs) → p ≠ d := fun h1 n w => by
    rw [w, e] at h1
    exact n _ (Option.some.inj h1).symm
  exact ⟨dx, nt, kvs, s _ _ (nd h1 fun _ => nofun) h1 (fun _ => nofun), s _ _ (nd h2 fun _ => nofun) h2 (fun _ => nofun), h3.same fun b xs q => q.at fun o e' => by
    obtain ⟨ob, dn, e2⟩ := q
    rw [e2] at e'
    cases e'
    exact s _ _ (nd e2 fun _ => nofun) e2 (fun _ => nofun), s _ _ (nd h4 fun _ => nofun) h4 (fun _ => nofun)⟩
theorem KindsAt.exN {C : Addr} {H H' : Hp} {x md : Addr} {leaf : Str} {M : Mak} {ns : List Str} (h : KindsAt C H x md leaf M ns) (s : ExtN H H') : KindsAt C H' x md leaf M ns := by
  obtain ⟨dx, nt, kvs, h1, h2, h3, h4⟩ := h
  exact ⟨dx, nt, kvs, s _ _ h1 (fun _ => nofun), s _ _ h2 (fun _ => nofun), h3.same fun b xs q => q.at fun o e' => by
    obtain ⟨ob, dn, e2⟩ := q
    rw [e2] at e'
    cases e'
    exact s _ _ e2 (fun _ => nofun), s _ _ h4 (fun _ => nofun)⟩
section
variable {P : Program} {w : World} {K : PySem.W.Frag} {mg : Str → Option Value} {base : Heap}
def spId (K : PySem.W.Frag) (C : Addr) : Sp := fun vs H Q _ => (∃ z : Str, vs = [.str z, .str z] ∧ Q (.bl true) H) ∨
  ∃ (x md t pd : Addr) (leaf : Str) (M M' : Mak) (ns : List Str) (kvs : List (Key × V)), vs = [.ref x, .ref t] ∧ KindsAt C H x md leaf M' ns ∧ SqT K H t [.str leaf, .ref pd] ∧ H pd = some (.dK kvs) ∧ MakAt H kvs M ∧ Vld leaf M ∧ OrdOf M M' ∧ ∀ H', Same H H' → Q (.bl true) H'
theorem ok_id {C f : Addr} {fd : FuncData} (F : Fun K "_law_is_due" "_law_is_due" s_law_is_due f fd) (T : Top K mg) (TC : Cl_Kinds K mg C) : FnOk P w K mg base CX0 11 f fd ["_law_told_here", "_law_due"] (spId K C) := by
  have kI : CalI P w K mg base C 9 ["self", "leaf", "makings"] (spInit C) := by
    obtain ⟨f, fd, m, F, b⟩ := TC.made
    exact ⟨f, fd, m, (ok_init F T TC).mono (by decide), b⟩
  have kEq : CalM P w K mg base C "__eq__" 1 ["self", "other"] (spKEq K C) := TC.m_eq.cal fun f fd F => ok_keq F T TC
  refine F.ok sc_law_is_due (fun vs H Q E h => ?_) (fun cdv A outer s H vs Q E hr h => ?_)
  · rcases h with ⟨z, rfl, _⟩ | ⟨x, md, t, pd, leaf, M, M', ns, kvs, rfl, _⟩ <;> rfl
  · have r1 := hr.mono (show 1 ≤ 10 by decide)
    refine ⟨_, pss_cut (ps_if (PW.pt (pw_or (pt_val (pe_callB call_isi (by rfl) T.b_isinstance (by decide +kernel) (pa_cons (pv 1) (pa_cons (pe_bltn (v := .ty "str") (by rfl) T.b_str (by decide +kernel) rfl) pa_nil)))) (pw_or1 (pt_val (pe_callB call_isi (by rfl) T.b_isinstance (by decide +kernel) (pa_cons (pv 0) (pa_cons (pe_bltn (v := .ty "str") (by rfl) T.b_str (by decide +kernel) rfl) pa_nil)))))))
        (pss_one (ps_ret (pe_and (pe_callB call_isi (by rfl) T.b_isinstance (by decide +kernel) (pa_cons (pv 1) (pa_cons (pe_bltn (v := .ty "str") (by rfl) T.b_str (by decide +kernel) rfl) pa_nil))) (pe_and (pe_callB call_isi (by rfl) T.b_isinstance (by decide +kernel) (pa_cons (pv 0) (pa_cons (pe_bltn (v := .ty "str") (by rfl) T.b_str (by decide +kernel) rfl) pa_nil))) (pe_one (pe_cmpR op_eq (pv 0) (pv 1) (by rfl))))))) pss_nil)
      (pss_one (ps_ret (pe_and (pe_callB call_isi (by rfl) T.b_isinstance (by decide +kernel) (pa_cons (pv 0) (pa_cons (pe_glob (v := .ref C) (by rfl) TC.gC rfl) pa_nil))) (pe_one (pe_cmpR (op_eqM kEq r1) (pv 0) (pe_makeC kI hr (by rfl) TC.gC (pa_cons (pe_ix (ix_tupKK (K := K) (by exact rfl)) (pv 1) pe_int (fun _ _ => rfl)) (pa_cons (pe_ix (ix_tupKK (K := K) (by exact rfl)) (pv 1) pe_int (fun _ _ => rfl)) pa_nil))) (by rfl)))))), ?_⟩
    have big : 100000 ≤ sizeLine := by decide
    rcases h with ⟨z, rfl, q⟩ | ⟨x, md, t, pd, leaf, M, M', ns, kvs, rfl, hK, ht, hpd, hM, hV, hOr, q⟩
    · refine ⟨fun σ' G => False, ?_, fun σ' G h => h.elim⟩
      refine ⟨_, rfl, _, .ty "str", .type "str", .type "str", true, rfl, .ty _, .base (.str z), kit_ty (by decide +kernel), true, rfl, ?_⟩
      show (if true = true then _ else _)
      rw [if_pos rfl]
      show (if true = true then _ else _)
      rw [if_pos rfl]
      refine ⟨_, rfl, _, .ty "str", .type "str", .type "str", true, rfl, .ty _, .base (.str z), kit_ty (by decide +kernel), true, rfl, ?_⟩
      show (if true = true then _ else _)
      rw [if_pos rfl]
      refine ⟨_, rfl, _, .ty "str", .type "str", .type "str", true, rfl, .ty _, .base (.str z), kit_ty (by decide +kernel), true, rfl, ?_⟩
      show (if true = true then _ else _)
      rw [if_pos rfl]
      refine ⟨_, rfl, _, rfl, rfl, ?_⟩
      show Q (.bl (decide (V.str z = V.str z))) H
      rw [decide_eq_true rfl]
      exact q
    obtain ⟨dx0, nt, kv, hx, hmd, hMk, hn⟩ := id hK
    refine ⟨fun σ' G => σ' = [some (.ref x), some (.ref t)] ∧ G = H, ?_, ?_⟩
    · refine ⟨_, rfl, _, .ty "str", .type "tuple", .type "str", false, rfl, .ty _, ty_sq ht, kit_ty (by decide +kernel), false, rfl, ?_⟩
      show (if false = true then _ else _)
      rw [if_neg (by decide)]
      refine ⟨_, rfl, _, .ty "str", .ref C, .type "str", false, rfl, .ty _, .base (.ins hx TC.cl TC.ca TC.cg TC.ct TC.ob), TC.kitS, false, rfl, ?_⟩
      show (if false = true then _ else _)
      rw [if_neg (by decide)]
      exact ⟨rfl, rfl⟩
    rintro σ' G ⟨rfl, rfl⟩
    refine ⟨_, rfl, _, _, .ref C, .ref C, true, rfl, .own C, .base (.ins hx TC.cl TC.ca TC.cg TC.ct TC.ob), TC.kit, true, rfl, ?_⟩
    show (if true = true then _ else _)
    rw [if_pos rfl]
    refine ⟨_, rfl, _, rfl, t, _, 0, _, rfl, rfl, ht, rfl, _, rfl, t, _, 1, _, rfl, rfl, ht, rfl, ?_⟩
    refine fun x2 dx nx ndx nxx => ⟨x2, dx, leaf, pd, kvs, M, rfl, upd_same, ?_, ?_, hV, fun G7 md2 M2 ks2 hK2 hOr2 hN2 nmd2 keep => ⟨rfl, ?_⟩⟩
    · rw [upd_ne (ne_of_none hpd nx), upd_ne (ne_of_none hpd ndx)]
      exact hpd
    · exact hM.same fun a xs h => h.at fun o e => by rw [upd_ne (ne_of_none e nx), upd_ne (ne_of_none e ndx)]; exact e
    obtain ⟨s1, _⟩ := made nx ndx nmd2 keep
    obtain ⟨dx2, nt2, kv2, hx2, _⟩ := id hK2
    refine ⟨x, dx0, _, _, rfl, s1 _ _ hx, .ins hx2, x, md, leaf, M', ns, .ref x2, rfl, hK.same s1, hOr.vld hV, .inl ⟨x2, md2, leaf, M2, ks2, rfl, hK2, hOr2.vld hV, ?_⟩⟩
    rw [decide_eq_true rfl, eqB_ord hV.nd hV.nd hOr hOr2, (eqB_iff hV.nd hV.nd).mpr fun _ => rfl]
    exact ⟨_, rfl, q _ s1⟩
end
end Kl

set_option maxRecDepth 100000
/-! ### own rule: a, b, .. = l, l a list of that length -/
namespace L2
open PySem PySem.Spec PyProof.Rows
set_option maxHeartbeats 4000000
section
variable {prog : Program} {w : World} {A : Around} {E : Value → Shared → Prop} {s : Shared}
theorem draw_lst {it l : Addr} {items : Array Value} (hne : l ≠ it) : ∀ (n i : Nat) (s : Shared) (Q : List Value → Shared → Prop), s.heap.IsListIter it l i → s.heap.IsList l items → i + n ≤ items.size →
    (∀ h', h'.IsListIter it l (i + n) → Heap.SameBut it s.heap h' → Q ((items.toList.drop i).take n) { s with heap := h' }) → wpAny (model prog w) A (draw (.ref it) n) Q E s
  | 0, i, s, Q, hit, _, _, hQ => by
    refine wpAny_pure ?_
    have h0 := hQ s.heap hit (Heap.SameBut.refl ..)
    rw [List.take_zero] at h0
    exact h0
  | n + 1, i, s, Q, hit, hl, hle, hQ => by
    have hlt : i < items.size := by omega
    refine wpAny_bind (wpAny_pyNext_list_item hit hl (x := items[i]) (by simp [hlt]) fun g1 hit1 hs1 => ?_)
    refine wpAny_bind (wpAny_holding (draw_lst hne n (i + 1) _ _ hit1 (hl.extBut hs1.extBut hne) (by omega) fun g2 hit2 hs2 => wpAny_pure ?_))
    have ed : items.toList.drop i = items[i] :: items.toList.drop (i + 1) := by
      have hl2 : i < items.toList.length := by simpa using hlt
      rw [List.drop_eq_getElem_cons hl2]
      simp
    have h1 := hQ g2 (by rw [show i + (n + 1) = i + 1 + n by omega]; exact hit2) (hs1.trans hs2)
    rw [ed, List.take_succ_cons] at h1
    exact h1
theorem unpackItems_lst {l : Addr} {items : Array Value} {Q : List Value → Shared → Prop} (hh : A.handled = none) (hl : s.heap.IsList l items)
    (hQ : ∀ h', Heap.ExtBut s.heap.objs.size s.heap h' → Q items.toList { s with heap := h' }) : wpAny (model prog w) A (unpackItems (.ref l) items.size none) Q E s := by
  have hlt : l ≠ s.heap.objs.size := by
    obtain ⟨o, ho, _⟩ := id hl
    exact Nat.ne_of_lt (Heap.lt_size ho)
  unfold unpackItems
  refine wpAny_bind ?_
  unfold notIterableAtAll
  refine wpAny_bind (wpAny_specialOf hl.typeIs F.slot_list_iter.lookup ?_)
  refine wpAny_pure ?_
  simp only [Bool.false_eq_true, if_false]
  refine wpAny_bind (wpAny_holding (wpAny_pyIter_list hl ?_))
  have hl0 : (s.heap.push { cls := .type "list_iterator", data := .fields #[.ref l, .int 0 0] }).IsList l items := hl.at fun o e => Heap.get?_push_of_some _ e
  refine wpAny_bind (wpAny_holding (draw_lst hlt items.size 0 _ _ ⟨_, Heap.get?_push_size _ rfl, rfl, rfl⟩ hl0 (by omega) fun g1 hit1 hs1 => ?_))
  have hall : (items.toList.drop 0).take items.size = items.toList := by
    rw [List.drop_zero]
    exact List.take_of_length_le (by simp)
  rw [hall, if_neg (by simp)]
  have hl1 : g1.IsList l items := hl0.extBut hs1.extBut hlt
  refine wpAny_bind (wpAny_holding (wpAny_pyNext_list_end hh hit1 hl1 (by simp) fun g2 he2 => ?_))
  simp only [Option.isSome_none, Bool.false_eq_true, if_false]
  exact wpAny_pure (hQ g2 fun b o hb e => he2 b o hb (hs1.extBut b o hb (Heap.get?_push_of_some _ e)))
theorem assign_Tuple_lst {env : Env} {elts : List Expr} {x1} {pos : Pos} {l : Addr} {items : Array Value} {Q : Unit → Shared → Prop} (hh : A.handled = none) (hl : s.heap.IsList l items)
    (hn : (assignEach elts env).length = items.size) (hstar : (assignEach elts env).findIdx? (·.1) = none)
    (h : ∀ h', Heap.ExtBut s.heap.objs.size s.heap h' → wpAny (model prog w) A (assignInOrder ((assignEach elts env).map (·.2)) items.toList) Q E { s with heap := h' }) :
    wpAny (model prog w) A (assign (.Tuple elts x1 pos) env (.ref l)) Q E s := by
  rw [assign_Tuple]
  refine wpAny_bind (wpAny_standAt ?_)
  unfold unpack
  rw [hn, hstar]
  exact wpAny_bind (wpAny_holding (unpackItems_lst hh hl h))
end
/-- (a, b, ..) = a list of that length -/
def gLstU (K : PySem.W.Frag) (n : Nat) (t : TGs) : TG := fun v σ H Q => ∃ a xs, v = .ref a ∧ SqL K H a xs ∧ xs.length = n ∧ t xs σ H Q
theorem pg_lstU {X : Cx} {pos : Pos} {es : List Expr} {k : Nat} {t : TGs} {n : Nat} (hc : X.calm = true) (h : PGs X es t)
    (hn : (assignEach es X.env).length = n := by rfl) (hst : (assignEach es X.env).findIdx? (·.1) = none := by rfl) : PG X (.Tuple es k pos) (gLstU X.K n t) := by
  refine ⟨fun pins s σ H v u Q I r hw => ?_⟩
  obtain ⟨a, xs, e1, hq, el, hw⟩ := hw
  subst e1
  cases r
  obtain ⟨its, rv, hl, hz⟩ := I.list hq
  refine assign_Tuple_lst (I.ok.hd hc) hl.isList (by simp [hn, ← el, rv.length]) hst fun h' hx => ?_
  have I1 : Inv X pins σ H { s with heap := h' } := I.kept (t' := s.toks) fun b o e => hx b o (Nat.ne_of_lt (Heap.lt_size e)) e
  exact h.run pins _ σ H xs _ Q I1 (by simpa using rv) hw
end L2

set_option maxRecDepth 100000
set_option maxHeartbeats 4000000
namespace Kl
open PySem PySem.Spec PyProof.Rows L2 Gx Mx
section
variable {X : Cx}
/-! ### a tuple as it is written, whose object is known -/
def tTupZ (t : TA) : TE := fun σ H Q => t σ H fun xs H1 => xs.length ≤ sizeLine ∧ ∀ p H', TupZ H' p xs → H1 p = none → (∀ b, b ≠ p → H' b = H1 b) → Q (.ref p) H'
theorem pe_tupZ {es : List Expr} {t : TA} {x1 : Nat} {pos : Pos} (h : PA X es t) : PE X (.Tuple es x1 pos) (tTupZ t) := by
  refine ⟨fun pins s σ H Q I hq => ?_⟩
  refine wpAny_Tuple_spliced (thn (h.run pos pins s σ H _ I hq) fun us s1 ⟨xs, H1, I1, r, z, q⟩ => ⟨by rw [← r.length]; exact z, ?_⟩)
  have hf : H1 s1.heap.objs.size = none := I1.hok.fresh (Nat.le_refl _)
  refine ⟨.ref s1.heap.objs.size, upd H1 s1.heap.objs.size (.frz { cls := .type "tuple", data := .seq us.toArray } (.tup xs)), I1.laid (t' := s1.toks) (fun b u e => Heap.get?_push_of_some _ e) (Nat.le_refl _) ?_, rfl, q _ _ ⟨_, rfl, upd_same⟩ hf (fun b n => upd_ne n)⟩
  exact ⟨Heap.get?_push_size _ rfl, z, us, r, IsTup.new _ _⟩
end
theorem same_k {H H' : Hp} {p : Addr} (n : H p = none) (k : ∀ b, b ≠ p → H' b = H b) : Same H H' := fun b o e => by rw [k b (ne_of_none e n)]; exact e
theorem merge_new : ∀ (more kvs : List (Key × V)), (more.map (·.1)).Nodup → (∀ k ∈ more.map (·.1), valV kvs k = none) → mergeK kvs more = kvs ++ more
  | [], kvs, _, _ => by unfold mergeK; rw [List.foldl_nil, List.append_nil]
  | p :: r, kvs, nd, hn => by
    rw [List.map_cons, List.nodup_cons] at nd
    have e : mergeK kvs (p :: r) = mergeK (putK kvs p.1 p.2) r := rfl
    have e0 : valV kvs p.1 = none := hn _ (by rw [List.map_cons]; exact List.mem_cons_self)
    rw [e, putK_new _ e0, merge_new r _ nd.2 fun k hk => ?_, List.append_assoc]
    · rfl
    · have hk0 := hn k (by rw [List.map_cons]; exact List.mem_cons_of_mem _ hk)
      rw [valV_snoc _ _ _ _ e0, if_neg (fun (q : k = p.1) => nd.1 (by rw [← q]; exact hk)), hk0]
theorem merge_nil {more : List (Key × V)} (nd : (more.map (·.1)).Nodup) : mergeK [] more = more := merge_new more [] nd fun _ _ => rfl
/-- a dict of makings stands at m -/
def Mkd (H : Hp) (m : Addr) (M : Mak) : Prop := ∃ kvs, H m = some (.dK kvs) ∧ MakAt H kvs M
theorem Mkd.same {H H' : Hp} {m : Addr} {M : Mak} (h : Mkd H m M) (s : Same H H') : Mkd H' m M := by
  obtain ⟨kvs, e, hM⟩ := h
  exact ⟨kvs, s _ _ e, hM.same fun _ _ q => q.mono s⟩
/-- a dict that is being written is done -/
theorem disp_end {G Hk : Hp} {p : Addr} {kvs : List (Key × V)} {M : Mak} (np : G p = none) (s : Same (upd G p (.dK [])) Hk) (hM : MakAt Hk kvs M) : Same G (upd Hk p (.dK kvs)) ∧ Mkd (upd Hk p (.dK kvs)) p M := by
  have e := s _ _ (upd_same : (upd G p (.dK [])) p = _)
  refine ⟨fun b o h => ?_, kvs, upd_same, hM.same fun a xs q => q.at fun o h => ?_⟩
  · have nb := ne_of_none h np
    rw [upd_ne nb]
    exact s _ _ (by rw [upd_ne nb]; exact h)
  · rw [upd_ne (q.ne e fun ob z => by cases z)]
    exact h
theorem nodupL_len {α : Type} [DecidableEq α] : ∀ {xs ys : List α}, xs.Nodup → (∀ z ∈ xs, z ∈ ys) → xs.length ≤ ys.length
  | [], ys, _, _ => Nat.zero_le _
  | x :: xs, ys, hn, hs => by
    rw [List.nodup_cons] at hn
    have hx : x ∈ ys := hs x List.mem_cons_self
    have h1 := nodupL_len (ys := ys.erase x) hn.2 fun z hz => (List.mem_erase_of_ne (fun e => hn.1 (by rw [e] at hz; exact hz))).mpr (hs z (List.mem_cons_of_mem _ hz))
    rw [List.length_erase_of_mem hx] at h1
    have : 0 < ys.length := List.length_pos_of_mem hx
    rw [List.length_cons]
    omega
/-! ### kinds and their dict, while the dice are thrown -/
theorem KindsAt.dice {G G' : Hp} {C x md d : Addr} {leaf : Str} {M : Mak} {ns : List Str} (k : KindsAt C G x md leaf M ns) (hd : DiceAt G d) (s : SameX d G G') : KindsAt C G' x md leaf M ns := by
  obtain ⟨a, b, c', e⟩ := id hd
  obtain ⟨dx, nt, kvs, h1, h2, h3, h4⟩ := k
  refine ⟨dx, nt, kvs, s _ _ (fun z => by rw [z, e] at h1; cases h1) h1, s _ _ (fun z => by rw [z, e] at h2; cases h2) h2, h3.same fun a xs q => q.at fun o h => s _ _ (q.ne e fun ob w => by cases w) h, s _ _ (fun z => by rw [z, e] at h4; cases h4) h4⟩
theorem Mkd.dice {G G' : Hp} {m d : Addr} {M : Mak} (h : Mkd G m M) (hd : DiceAt G d) (s : SameX d G G') : Mkd G' m M := by
  obtain ⟨a, b, c', e⟩ := id hd
  obtain ⟨kvs, h2, h3⟩ := h
  exact ⟨kvs, s _ _ (fun z => by rw [z, e] at h2; cases h2) h2, h3.same fun a xs q => q.at fun o h => s _ _ (q.ne e fun ob w => by cases w) h⟩
theorem mk_same {G : Hp} {x dx : Addr} (nx : G x = none) (nd : G dx = none) {o1 o2 : HO} : Same G (upd (upd G dx o1) x o2) := fun b o e => by
  rw [upd_ne (ne_of_none e nx), upd_ne (ne_of_none e nd)]
  exact e
/-- kinds made of a dict that stands -/
theorem init_by {C x dx mk : Addr} {G : Hp} {leaf : Str} {M : Mak} {Q : VK} {E : XK} (hM : Mkd G mk M) (hV : Vld leaf M) (nx : G x = none) (nd : G dx = none)
    (q : ∀ G2 md M' ns, KindsAt C G2 x md leaf M' ns → OrdOf M M' → IsNames leaf (keysOf M) ns → Same G G2 → Q .non G2) : spInit C [.ref x, .str leaf, .ref mk] (upd (upd G dx (.own x)) x (.ins C dx [])) Q E := by
  obtain ⟨kvs, e, hM⟩ := hM
  have s := mk_same nx nd (o1 := .own x) (o2 := .ins C dx [])
  exact ⟨x, dx, leaf, mk, kvs, M, rfl, upd_same, s _ _ e, hM.same (fun _ _ h => h.mono s), hV, fun G2 md M' ns hK hO hN _ keep => q G2 md M' ns hK hO hN fun b o e => keep b o (ne_of_none e nx) (s _ _ e)⟩
end Kl

set_option maxRecDepth 100000
set_option maxHeartbeats 4000000
namespace Kl
open PySem PySem.Spec PyProof.Rows L2 Gx Mx LamX
/-! ### _law_right -/
theorem makAt_exN {H H' : Hp} {kvs : List (Key × V)} {M : Mak} (h : MakAt H kvs M) (s : ExtN H H') : MakAt H' kvs M := h.same fun b xs q => q.at fun o e' => by
  obtain ⟨ob, dn, e2⟩ := q
  rw [e2] at e'
  cases e'
  exact s _ _ e2 (fun _ => nofun)
section
variable {P : Program} {w : World} {K : PySem.W.Frag} {mg : Str → Option Value} {base : Heap}
def spRg (Tb : List (Addr × Str)) : Sp := fun vs H Q _ => ∃ d : Addr, vs = [.ref d] ∧ DiceAt H d ∧ Tabs Tb H ∧ ∀ H', ExtX d H H' → Tabs Tb H' → DiceAt H' d → Q (.bl true) H'
theorem ok_rg {C CP Cr fI c1 P1 f : Addr} {fd fdI : FuncData} {Tb : List (Addr × Str)} (F : Fun K "_law_right" "_law_right" s_law_right f fd) (Lx : Lam K mg base Tb "_law_asked" c1 P1) (T : Top K mg) (TC : Cl_Kinds K mg C) (TX : XT_ParseError K mg CP fI) (FX : Fun K "__init__" "ParseError.__init__" s_ParseError_init fI fdI)
    (XO : XIK K mg Cr) (XC : XCls K Cr) (te : PySem.W.exmOne K (.ref Cr) (.ref Cr) = some true) (tn : PySem.W.exmOne K (.ref Cr) (.ref CP) = some false) : FnG P w K mg base CX0 14 f fd ["_law_dice_here"] (spRg Tb) := by
  have kI : CalI P w K mg base C 9 ["self", "leaf", "makings"] (spInit C) := by
    obtain ⟨f, fd, m, F, b⟩ := TC.made
    exact ⟨f, fd, m, (ok_init F T TC).mono (by decide), b⟩
  have ck : Cal P w K mg base 3 "_law_kinds" ["_law_dice_here", "_law_most"] spLKinds := T.d_law_kinds.cal fun f fd F => ok_lkinds F T
  have cm : Cal P w K mg base 2 "_law_mixed" ["_law_dice_here", "_law_items"] (spMixed K) := T.d_law_mixed.cal fun f fd F => ok_mixed F T
  have cto : CalG P w K mg base 13 "_law_told" ["_law_lines"] (spLt K C Tb) := T.d_law_told.calG fun f fd F => ok_told F Lx T TC TX FX XO XC te tn
  have crr : CalG P w K mg base 13 "_law_read" ["_law_lines"] (spRr K) := CalG.up (T.d_law_read.calG fun f fd F => ok_rr F T) (by decide)
  have cid : Cal P w K mg base 11 "_law_is_due" ["_law_told_here", "_law_due"] (spId K C) := T.d_law_is_due.cal fun f fd F => ok_id F T TC
  have cbe : Cal P w K mg base 4 "_law_bent" ["_law_dice_here", "_law_lines"] (spBe K) := T.d_law_bent.cal fun f fd F => ok_be F T
  have kLi : CalP P w K mg base C "lines" 2 (spKLin C) := TC.p_lines.cal fun f fd F => ok_klin F T TC
  have kEq : CalM P w K mg base C "__eq__" 1 ["self", "other"] (spKEq K C) := TC.m_eq.cal fun f fd F => ok_keq F T TC
  refine okG F sc_law_right (fun vs H Q E h => ?_) (fun cdv A outer s H vs Q E hg hr h => ?_)
  · obtain ⟨d, rfl, _⟩ := h
    rfl
  · obtain ⟨d, rfl, hd, hTb, q⟩ := h
    refine ⟨_, pss_cut (ps_asg (pe_cal ck (hr.mono (by decide)) (by rfl) (pa_cons (pv 0) (pa_cons pe_int pa_nil))) (pg_lstU (n := 2) rfl (pgs_cons (pg_name (i := 1) sc_law_right.nd rfl (.inl rfl)) (pgs_cons (pg_name (i := 2) sc_law_right.nd rfl (.inl rfl)) pgs_nil))))
      (pss_cut (ps_set (i := 3) sc_law_right.nd rfl (.inl rfl) (pe_cal cm (hr.mono (by decide)) (by rfl) (pa_cons (pv 0) (pa_cons (pe_callTy call_list_of (by rfl) T.b_list (by decide +kernel) (pa_cons (pe_propC (pe_makeC kI (hr.mono (by decide)) (by rfl) TC.gC (pa_cons (pv 1) (pa_cons (pv 2) pa_nil))) TC.cl kLi (hr.mono (by decide)) rfl) pa_nil)) pa_nil))))
      (pss_cut (ps_set (i := 4) sc_law_right.nd rfl (.inl rfl) (pe_calG cto hg hr (by rfl) (pa_cons (pv 3) pa_nil)))
      (pss_cut (ps_if (PW.pt (pw_or (pt_not (pt_val (pe_cal cid (hr.mono (by decide)) (by rfl) (pa_cons (pv 4) (pa_cons (pe_tup (pa_cons (pv 1) (pa_cons (pv 2) pa_nil))) pa_nil))))) (pw_or1 (pt_cmpR (op_neM kEq TC.ne TC.ob (hr.mono (by decide))) (pe_calG cto hg hr (by rfl) (pa_cons (pe_callTy call_list_of (by rfl) T.b_list (by decide +kernel) (pa_cons (pe_propC (pv 4) TC.cl kLi (hr.mono (by decide)) rfl) pa_nil)) pa_nil)) (pv 4) (by rfl))))) (pss_one (ps_ret pe_bl)) pss_nil)
      (pss_cut (ps_for PassesOwn.never rfl (pi_range1 (by rfl) T.b_range (pa_cons pe_int pa_nil)) (pg_name (i := 5) sc_law_right.nd rfl (.inl rfl))
        (pss_cut (ps_set (i := 6) sc_law_right.nd rfl (.inl rfl) (pe_cal cbe (hr.mono (by decide)) (by rfl) (pa_cons (pv 0) (pa_cons (pv 3) pa_nil))))
        (pss_one (ps_if (pt_not (pt_val (pe_cal cid (hr.mono (by decide)) (by rfl) (pa_cons (pe_calG cto hg hr (by rfl) (pa_cons (pv 6) pa_nil)) (pa_cons (pe_calG crr hg hr (by rfl) (pa_cons (pv 6) pa_nil)) pa_nil))))) (pss_one (ps_ret pe_bl)) pss_nil))))
      (pss_one (ps_ret pe_bl)))))), ?_⟩
    have big : 100000 ≤ sizeLine := by decide
    -- kinds drawn
    refine ⟨fun σ' G => ∃ (mk : Addr) (leaf : Str) (kvs : List (Key × V)) (M : Mak), σ' = [some (.ref d), some (.str leaf), some (.ref mk), none, none, none, none] ∧ G mk = some (.dK kvs) ∧ MakAt G kvs M ∧ Vld leaf M ∧ DiceAt G d ∧ SameX d H G ∧ Tabs Tb G, ?_, ?_⟩
    · exact ⟨_, rfl, d, rfl, hd, fun p mk leaf kvs M G2 ep em hM hV np nm npm sx hd2 => ⟨p, _, rfl, .inl (.inl ep), rfl, _, _, rfl, _, _, rfl, rfl, mk, leaf, kvs, M, rfl, em, hM, hV, hd2, sx, tabs_dice hTb hd sx⟩⟩
    rintro σ' G1 ⟨mk, leaf, kvs, M, rfl, em, hM, hV, hd1, sx1, t1⟩
    -- their lines, mixed
    refine ⟨fun σ' G => ∃ (lp : Addr) (ys : List Str) (M0 : Mak), σ' = [some (.ref d), some (.str leaf), some (.ref mk), some (.ref lp), none, none, none] ∧ OrdOf M M0 ∧ ys.Perm (linesK leaf M0) ∧ G lp = some (.lst (ys.map V.str)) ∧ lp ≠ d ∧ SameX d G1 G ∧ DiceAt G d, ?_, ?_⟩
    · refine ⟨_, rfl, _, rfl, _, rfl, fun x dx nx ndx nxx => ⟨x, dx, leaf, mk, kvs, M, rfl, upd_same, ?_, ?_, hV, fun G3 md M' ks hK hOr hN nmd keep => ⟨rfl, ?_⟩⟩⟩
      · rw [upd_ne (ne_of_none em nx), upd_ne (ne_of_none em ndx)]
        exact em
      · exact hM.same fun a xs h => h.at fun o e => by rw [upd_ne (ne_of_none e nx), upd_ne (ne_of_none e ndx)]; exact e
      obtain ⟨s1, _⟩ := made nx ndx nmd keep
      obtain ⟨dx2, nt2, kv2, hx2, _⟩ := id hK
      refine ⟨x, dx2, _, rfl, hx2, x, md, leaf, M', ks, rfl, hK, hOr.vld hV, fun t G4 s4 et => ?_⟩
      refine ⟨t, _, rfl, .inr (SqT.of et), fun l nl => ?_⟩
      have s5 := same_new (o := .lst ((linesK leaf M').map V.str)) s4 nl
      have el5 : (upd G4 l (.lst ((linesK leaf M').map V.str))) l = some (.lst ((linesK leaf M').map V.str)) := upd_same
      generalize upd G4 l (.lst ((linesK leaf M').map V.str)) = G5 at *
      have s15 := s1.trans s5
      have hd5 : DiceAt G5 d := dice_exN (.of s15) hd1
      have nld : l ≠ d := fun z => by
        have e := (dice_exN (.of (s1.trans s4)) hd1)
        rw [← z] at e
        obtain ⟨_, _, _, e⟩ := e
        rw [nl] at e
        cases e
      have ll := lines_len (leaf := leaf) (M := M')
      have lM := (hOr.vld hV).len
      refine ⟨d, l, linesK leaf M', rfl, hd5, nld, .inl (.inl el5), by omega, fun lp G6 ys pm nlp elp sx6 hd6 => ?_⟩
      exact ⟨lp, ys, M', rfl, hOr, pm, elp, dice_ne hd5 nlp, (SameX.of s15).trans sx6, hd6⟩
    rintro σ' G2 ⟨lp, ys, M0, rfl, hO, pm, elp, nlp, sx2, hd2⟩
    have t2 := tabs_dice t1 hd1 sx2
    have nmk : mk ≠ d := fun z => by obtain ⟨x, b, c, e⟩ := hd1; rw [z, e] at em; cases em
    have em2 := sx2 _ _ nmk em
    have hM2 : MakAt G2 kvs M := hM.same fun b xs q => q.at fun o e => by
      obtain ⟨ob, dn, e2⟩ := q
      rw [e2] at e
      cases e
      exact sx2 _ _ (fun w => by obtain ⟨b1, b2, b3, e3⟩ := hd1; rw [w, e3] at e2; cases e2) e2
    have hV0 := hO.vld hV
    have mk0 := hV0.mkOk
    have hlf := pool_name hV.lf
    have ll0 := lines_len (leaf := leaf) (M := M0)
    have lM0 := hV0.len
    have ly : ys.length ≤ 7 := by
      rw [pm.length_eq]
      omega
    have yne : ys ≠ [] := fun e => by
      rw [e] at pm
      have := pm.length_eq
      rw [ll0] at this
      cases this
    have by_ : ∀ z ∈ ys, BaseL z ∧ 1 ≤ z.length := fun z m => base_lines hlf mk0 z (pm.mem_iff.mp m)
    have lnY : ∀ {zs : List Str} {G : Hp}, (∀ z ∈ zs, BaseL z ∧ 1 ≤ z.length) → ∀ v ∈ zs.map V.str, LnV K G v := fun h v m => by
      obtain ⟨z, mz, rfl⟩ := List.mem_map.mp m
      exact .inl ⟨z, rfl, by have := (h z mz).1.1; omega, (h z mz).1.2⟩
    obtain ⟨qs, hq, hf, pq⟩ := read_back hlf mk0 hO.nd pm
    have vq := hV0.perm pq
    have good : GoodQ qs := ⟨leaf, hf, vq⟩
    -- the kinds told
    refine ⟨fun σ' G => ∃ (x md : Addr) (M1 : Mak) (ks : List Str), σ' = [some (.ref d), some (.str leaf), some (.ref mk), some (.ref lp), some (.ref x), none, none] ∧ OrdOf (maksOf qs) M1 ∧ KindsAt C G x md leaf M1 ks ∧ ExtN G2 G ∧ Tabs Tb G, ?_, ?_⟩
    · refine ⟨_, rfl, lp, ys.map V.str, rfl, t2, .inl (.inl elp), by rw [List.length_map]; omega, lnY by_, fun i H' h _ _ => ?_, fun qs' H' h n _ _ => ?_, fun qs' f' x md M' ks H' h h1 h2 h3 h4 s t hx => ?_⟩
      · rw [hq] at h; cases h
      · rw [hq] at h; cases h; exact absurd good n
      · rw [hq] at h
        cases h
        rw [hf] at h1
        cases h1
        exact ⟨x, md, M', ks, rfl, h3, hx, s, t⟩
    rintro σ' G3 ⟨x, md, M1, ks, rfl, hO1, hK3, s3, t3⟩
    have hO01 : OrdOf M0 M1 := hO1.perm pq hO.nd
    have hOM : OrdOf M M1 := ⟨hO1.srt, hO1.nd, fun z => (hO01.look z).trans (hO.look z)⟩
    have hV1 := hO01.vld hV0
    have em3 := s3 _ _ em2 fun _ => nofun
    have hM3 := makAt_exN hM2 s3
    have hd3 := dice_exN s3 hd2
    have elp3 := s3 _ _ elp fun _ => nofun
    have x03 : ExtX d H G3 := (ext_ofX (sx1.trans sx2)).trans (.ofN s3)
    obtain ⟨dx, nt, kv, hx, hmd, hMk, hn⟩ := id hK3
    -- they are due, and come again of their lines
    refine ⟨fun σ' G => σ' = [some (.ref d), some (.str leaf), some (.ref mk), some (.ref lp), some (.ref x), none, none] ∧ ExtN G3 G ∧ Tabs Tb G, ?_, ?_⟩
    · refine ⟨_, rfl, _, rfl, _, rfl, by show 2 ≤ sizeLine; omega, fun t nt => ?_⟩
      have s4 := same_new (o := .tup [V.str leaf, V.ref mk]) (Same.refl G3) nt
      have et : (upd G3 t (.tup [V.str leaf, V.ref mk])) t = some (.tup [V.str leaf, V.ref mk]) := upd_same
      generalize upd G3 t (.tup [V.str leaf, V.ref mk]) = G4 at *
      refine .inr ⟨x, md, t, mk, leaf, M, M1, ks, kvs, rfl, hK3.same s4, SqT.of et, s4 _ _ em3, makAt_exN hM3 (.of s4), hV, hOM, fun G5 s5 => ⟨_, rfl, ?_⟩⟩
      show (if (!true) = true then _ else _)
      rw [if_neg (by decide)]
      have s35 := s4.trans s5
      refine ⟨_, rfl, x, dx, _, rfl, s35 _ _ hx, x, md, leaf, M1, ks, rfl, hK3.same s35, hV1, fun t2 G6 s6 et2 => ?_⟩
      refine ⟨t2, _, rfl, .inr (SqT.of et2), fun l nl => ?_⟩
      have s7 := same_new (o := .lst ((linesK leaf M1).map V.str)) (s35.trans s6) nl
      have el7 : (upd G6 l (.lst ((linesK leaf M1).map V.str))) l = some (.lst ((linesK leaf M1).map V.str)) := upd_same
      generalize upd G6 l (.lst ((linesK leaf M1).map V.str)) = G7 at *
      obtain ⟨qs2, hq2, hf2, pq2⟩ := read_back hlf hV1.mkOk hO1.nd (List.Perm.refl (linesK leaf M1))
      have vq2 := hV1.perm pq2
      have good2 : GoodQ qs2 := ⟨leaf, hf2, vq2⟩
      have ll1 := lines_len (leaf := leaf) (M := M1)
      have lM1 := hV1.len
      refine ⟨l, _, rfl, Tabs.ext t3 s7, .inl (.inl el7), by rw [List.length_map]; omega, lnY (base_lines hlf hV1.mkOk), fun i H' h _ _ => ?_, fun qs' H' h n _ _ => ?_, fun qs' f' y md' M2 ks2 H' h h1 h2 h3 h4 s t hy => ?_⟩
      · rw [hq2] at h; cases h
      · rw [hq2] at h; cases h; exact absurd good2 n
      · rw [hq2] at h
        cases h
        rw [hf2] at h1
        cases h1
        obtain ⟨dy, _, _, hyy, _⟩ := id hy
        have s37 : ExtN G3 H' := (ExtN.of s7).trans s
        have hO12 : OrdOf M1 M2 := h3.perm pq2 hO1.nd
        refine ⟨_, rfl, y, dy, _, .ref C, rfl, hyy, .ins (s37 _ _ hx fun _ => nofun), y, md', leaf, M2, ks2, .ref x, rfl, hy, hO12.vld hV1, .inl ⟨x, md, leaf, M1, ks, rfl, hK3.exN s37, hV1, _, rfl, ?_⟩⟩
        have et : (decide (leaf = leaf) && eqB M2 M1) = true := by
          rw [decide_eq_true rfl, (eqB_iff hO12.nd hO1.nd).mpr hO12.look]
          rfl
        rw [et]
        refine ⟨_, rfl, ?_⟩
        show (if (!true) = true then _ else _)
        rw [if_neg (by decide)]
        exact ⟨rfl, s37, t⟩
    rintro σ' G4 ⟨rfl, s4, t4⟩
    have s24 := s3.trans s4
    have hd4 := dice_exN s4 hd3
    have elp4 := s4 _ _ elp3 fun _ => nofun
    have x04 := x03.trans (.ofN s4)
    refine ⟨fun σ' G => (∃ t5 t6 : Option V, σ' = [some (.ref d), some (.str leaf), some (.ref mk), some (.ref lp), some (.ref x), t5, t6]) ∧ ExtX d H G ∧ DiceAt G d ∧ Tabs Tb G, ?_, ?_⟩
    · refine ⟨_, rfl, by decide, by decide, ?_⟩
      refine for_range (lo := 0) (fun i σ' G => (∃ t5 t6 : Option V, σ' = [some (.ref d), some (.str leaf), some (.ref mk), some (.ref lp), some (.ref x), t5, t6]) ∧ ExtX d H G ∧ DiceAt G d ∧ Tabs Tb G ∧ G lp = some (.lst (ys.map V.str))) ⟨⟨_, _, rfl⟩, x04, hd4, t4, elp4⟩ (fun i σ' G hi hP => ?_) (fun σ' G hP => ⟨hP.1, hP.2.1, hP.2.2.1, hP.2.2.2.1⟩)
      obtain ⟨⟨t5, t6, rfl⟩, xG, hdG, tG, elG⟩ := hP
      refine ⟨fun σ' G' => ∃ (t5 : Option V) (l : Addr) (xs : List V), σ' = [some (.ref d), some (.str leaf), some (.ref mk), some (.ref lp), some (.ref x), t5, some (.ref l)] ∧ SameX d G G' ∧ DiceAt G' d ∧ G' l = some (.lst xs) ∧ xs.length ≤ 9 ∧ ∀ v ∈ xs, LnV K G' v, ?_, ?_⟩
      · exact ⟨_, rfl, _, rfl, d, lp, ys, rfl, hdG, nlp, elG, yne, by omega, by_, fun l xs H' sx6 hd6 el6 nl lx hx => ⟨_, l, xs, rfl, sx6, hd6, el6, lx, hx⟩⟩
      rintro σ' G6 ⟨t5', l, xs, rfl, sx6, hd6, el6, lx, hx6⟩
      have t6' := tabs_dice tG hdG sx6
      have fin : ∀ G', ExtN G6 G' → Tabs Tb G' → (∃ t5 t6 : Option V, [some (V.ref d), some (.str leaf), some (.ref mk), some (.ref lp), some (.ref x), t5', some (.ref l)] = [some (V.ref d), some (.str leaf), some (.ref mk), some (.ref lp), some (.ref x), t5, t6]) ∧ ExtX d H G' ∧ DiceAt G' d ∧ Tabs Tb G' ∧ G' lp = some (.lst (ys.map V.str)) := fun G' s t => ⟨⟨_, _, rfl⟩, (xG.trans (ext_ofX sx6)).trans (.ofN s), dice_exN s hd6, t, s _ _ (sx6 _ _ nlp elG) fun _ => nofun⟩
      have neg : ∀ {a b : Prop}, b → (if (!true) = true then a else b) := fun {a b} h => by rw [if_neg (by decide)]; exact h
      have lf : ∀ {G' : Hp}, ExtN G6 G' → SqL K G' l xs := fun s => .inl (.inl (s _ _ el6 fun _ => nofun))
      refine ⟨_, rfl, l, xs, rfl, t6', .inl (.inl el6), lx, hx6, fun i H' h s t => ?_, fun qs' H' h n s t => ?_, fun qs' f' y md' M2 ks2 H' h h1 h2 h3 h4 s t hy => ?_⟩
      · refine ⟨_, rfl, l, xs, rfl, lf s, fun v m => (hx6 v m).ext s, by omega, fun i2 H2 h2 s2 => ?_, fun qs2 H2 h2 _ _ => ?_, fun qs2 _ _ _ _ H2 h2 _ _ _ _ _ _ => ?_⟩
        · rw [h] at h2
          cases h2
          exact .inl ⟨_, rfl, _, rfl, neg (fin _ (s.trans (.of s2)) (Tabs.ext t s2))⟩
        · rw [h] at h2; cases h2
        · rw [h] at h2; cases h2
      · refine ⟨_, rfl, l, xs, rfl, lf s, fun v m => (hx6 v m).ext s, by omega, fun i2 H2 h2 s2 => ?_, fun qs2 H2 h2 _ s2 => ?_, fun qs2 f2 _ _ _ H2 h2 a b _ _ _ _ => ?_⟩
        · rw [h] at h2; cases h2
        · exact .inl ⟨_, rfl, _, rfl, neg (fin _ (s.trans (.of s2)) (Tabs.ext t s2))⟩
        · rw [h] at h2
          cases h2
          exact absurd ⟨f2, a, b⟩ n
      · refine ⟨_, rfl, l, xs, rfl, lf s, fun v m => (hx6 v m).ext s, by omega, fun i2 H2 k2 s2 => ?_, fun qs2 H2 k2 n _ => ?_, fun qs2 f2 t2' md2 kvs2 H2 k2 a b s2 ht2 em2' hM2' => ?_⟩
        · rw [h] at k2; cases k2
        · rw [h] at k2
          cases k2
          exact absurd ⟨f', h1, h2⟩ n
        · rw [h] at k2
          cases k2
          rw [h1] at a
          cases a
          exact .inr ⟨y, md', t2', md2, f', maksOf qs', M2, ks2, kvs2, rfl, hy.same s2, ht2, em2', hM2', h2, h3, fun G7 s7 => ⟨_, rfl, neg (fin _ (s.trans (.of (s2.trans s7))) (Tabs.ext t (s2.trans s7)))⟩⟩
    rintro σ' G6 ⟨⟨t5, t6, rfl⟩, x6, hd6, tb6⟩
    exact q G6 x6 tb6 hd6
end
end Kl

set_option maxRecDepth 100000
set_option maxHeartbeats 4000000
namespace Gx
open PySem PySem.Spec PyProof.Rows L2 SeqAt Mx
/-! ### a dict, and an instance, beside a text -/
section
variable {A : Around} {s : Shared}
theorem rc_dict_str {l : Addr} {ob : Obj} (b : Str) (u : Tok) (hl : s.heap.get? l = some ob) (hc : ob.cls = .type "dict") {es : Array DictEntry} {ep : Nat} (hde : ob.data = .dict es ep) (hu : A.units < cLine) : RcAt A s (.ref l) (.str b u) false := fun prog w E Q h => by
  obtain ⟨cls2, dd2, data2, sl2⟩ := ob
  simp only at hc hde
  subst hc hde
  exact rc_eq_decline_or (k := false) ⟨_, hl, rfl⟩ (typeIs_str s b u) (by decide) F.sub_str_dict F.slot_dict_eq F.slot_str_eq_refl
    (fun _ hq => dict_eq_str ⟨_, hl, rfl⟩ hq)
    (fun _ hq => call_meets F.slot_str_eq_refl (typeIs_str s b u) F.entry_str_eq (F.args_str_eq_2 _ _) (str_eq_dict b u l dd2 sl2 es ep) ⟨hl, hq⟩)
    (fun _ hq => wpAny_of_eq (rfl : isSame (.ref l) (.str b u) = pure false) hq) (.inr hu) h
end
section
variable {X : Cx} {C : Addr} {k : Nat} {ps : List Str} {sp : Sp}
def rEqDS : R2 := fun x y H Q => ∃ a kvs z, x = .ref a ∧ y = .str z ∧ H a = some (.dK kvs) ∧ Q (.bl false) H
theorem op_eqDS (hu : X.A.units + 64 < cLine) : OpR X (compareOp .Eq) rEqDS := by
  intro pins s σ H x y v u Q I rx ry h
  obtain ⟨a, kvs, z, rfl, rfl, ea, q⟩ := h
  obtain rfl : v = Value.ref a := rx
  obtain ⟨t, rfl⟩ := (show ∃ t, u = Value.str z t from ry)
  obtain ⟨_, _, vs, _, hd⟩ := dk_of I.hok ea
  obtain ⟨ob, hb, hD⟩ := Heap.dictOf_iff.mp hd
  obtain ⟨es, ep, ex, ed, _⟩ := hD
  exact rc_dict_str z t hb ex.1 ed (by omega) _ _ _ _ ⟨.bl false, H, I, rfl, q⟩
theorem sub_str_own {K : PySem.W.Frag} {C : Addr} : PySem.W.subIn K (.type "str") (.ref C) = some false := by
  have e : fastBuiltinMro "str" = some [.type "str", .type "object"] := by decide +kernel
  show (fastBuiltinMro "str").map (·.contains (.ref C)) = some false
  rw [e]
  first
    | rfl
    | simp
def rEqMS (C : Addr) (sp : Sp) : R2 := fun x y H Q => ∃ a dx fs z, x = .ref a ∧ y = .str z ∧ H a = some (.ins C dx fs) ∧ sp [.ref a, y] H (fun v H' => ∃ b, v = .bl b ∧ Q (.bl b) H') E0
theorem op_eqMS (c : CalM X.prog X.w X.K X.mg X.base C "__eq__" k ps sp) (hr : Room k X.A) : OpR X (compareOp .Eq) (rEqMS C sp) := by
  intro pins s σ H x y v u Q I rx ry h
  obtain ⟨f, fd, F, me, b, _⟩ := c
  obtain ⟨a, dx, fs, z, rfl, rfl, ea, q⟩ := h
  obtain rfl : v = Value.ref a := rx
  obtain ⟨mA, O, _⟩ := ins_get I.hok ea
  obtain ⟨od, J, _⟩ := O.look
  obtain ⟨mm, hF⟩ := I.fr
  have lk : PySem.W.Looks (model X.prog X.w) s.heap (typeOf u) (.type "str") := by
    obtain ⟨t, rfl⟩ := (show ∃ t, u = Value.str z t from ry)
    exact PySem.W.looks_reads (Reads.str z t)
  have nf : PySem.W.notFirst X.K C (.type "str") = true := by simp [PySem.W.notFirst, sub_str_own]
  show wpAny _ _ (richCompare .Eq (.ref a) u) _ _ _
  refine PySem.W.cmp_K (op := .Eq) hr.units0 hF I.ok.mod.kin J lk nf me.at_ me.fn (wpAny_mono (run_below F hr rfl b I (.cons (rel_ref _) (.cons ry .nil)) q) (fun r s' z => ?_) fun _ _ e => e)
  obtain ⟨v', H', I', rv, t, rfl, q'⟩ := z
  cases rv
  exact ⟨.bl t, H', I', rfl, q'⟩
/-- an operator by one of two readings -/
theorem op_two {op : Value → Value → Sem Value} {r1 r2 : R2} (h1 : OpR X op r1) (h2 : OpR X op r2) : OpR X op (fun x y H Q => r1 x y H Q ∨ r2 x y H Q) := fun pins s σ H x y v u Q I rx ry h =>
  h.elim (h1 pins s σ H x y v u Q I rx ry) (h2 pins s σ H x y v u Q I rx ry)
/-- statements that are never reached -/
theorem pss_nv {b : List Stmt} : PSs X b (fun _ _ _ => False) := ⟨fun _ _ _ _ _ _ h => h.elim⟩
end
end Gx

set_option maxRecDepth 100000
set_option maxHeartbeats 4000000
namespace Gx
open PySem PySem.Spec PySem.Calls PyProof.Rows L2 SeqAt Mx
/-! ### an instance beside what is none of its class -/
theorem sub_b_own {K : PySem.W.Frag} {C : Addr} {T : String} {l : List Value} (e : fastBuiltinMro T = some l) (h : l.contains (.ref C) = false) : PySem.W.subIn K (.type T) (.ref C) = some false := by
  show (fastBuiltinMro T).map (·.contains (.ref C)) = some false
  rw [e]
  show some (l.contains (.ref C)) = some false
  rw [h]
inductive OthO (K : PySem.W.Frag) (H : Hp) (C : Addr) : V → Value → Prop
  | non : OthO K H C .non (.type "NoneType")
  | bl (b : Bool) : OthO K H C (.bl b) (.type "bool")
  | int (i : Int) : OthO K H C (.int i) (.type "int")
  | str (z : Str) : OthO K H C (.str z) (.type "str")
  | lst {a : Addr} {xs : List V} (e : H a = some (.lst xs)) : OthO K H C (.ref a) (.type "list")
  | own {a D dx : Addr} {fs : List (Str × V)} (e : H a = some (.ins D dx fs)) (n : PySem.W.subIn K (.ref D) (.ref C) = some false) : OthO K H C (.ref a) (.ref D)
  | oth {y : V} {t : Value} (o : Oth K H C y t) : OthO K H C y t
  | dn {P : Program} {w : World} {a : Addr} {L : NL} (e : Rd H a (DN P w a L)) : OthO K H C (.ref a) (.type "dict")
section
variable {X : Cx} {C : Addr} {k : Nat} {ps : List Str} {sp : Sp}
theorem OthO.looks {M : Model} {pins : List (Addr × Obj)} {σ : L2.St} {H : Hp} {s : Shared} {y : V} {u t : Value} (I : Inv X pins σ H s) (o : OthO X.K H C y t) (r : RelV y u) :
    PySem.W.Looks M s.heap (typeOf u) t ∧ PySem.W.notFirst X.K C t = true := by
  have nf : ∀ {t : Value}, PySem.W.subIn X.K t (.ref C) = some false → PySem.W.notFirst X.K C t = true := fun h => by simp [PySem.W.notFirst, h]
  cases o with
  | non =>
    cases (show u = Value.none from r)
    exact ⟨PySem.W.looks_reads Reads.none, nf (sub_b_own (show fastBuiltinMro "NoneType" = some [.type "NoneType", .type "object"] by decide +kernel) rfl)⟩
  | bl b =>
    cases (show u = Value.bool b from r)
    exact ⟨PySem.W.looks_reads (Reads.bool b), nf (sub_b_own (show fastBuiltinMro "bool" = some [.type "bool", .type "int", .type "object"] by decide +kernel) rfl)⟩
  | int i =>
    obtain ⟨t, rfl⟩ := (show ∃ t, u = Value.int i t from r)
    exact ⟨PySem.W.looks_reads (Reads.int i t), nf (sub_b_own (show fastBuiltinMro "int" = some [.type "int", .type "object"] by decide +kernel) rfl)⟩
  | str z =>
    obtain ⟨t, rfl⟩ := (show ∃ t, u = Value.str z t from r)
    exact ⟨PySem.W.looks_reads (Reads.str z t), nf sub_str_own⟩
  | @lst a xs e =>
    obtain rfl : u = Value.ref a := r
    obtain ⟨_, _, n, _, h1⟩ := (show ObjOk X.prog X.w H s.heap a (.lst xs) from I.hok a _ e)
    refine ⟨?_, nf (sub_b_own (show fastBuiltinMro "list" = some [.type "list", .type "object"] by decide +kernel) rfl)⟩
    intro A Q E s' kp q
    exact wpAny_typeOf (T := "list") ⟨_, kp _ _ h1, rfl⟩ q
  | @own a D dx fs e n =>
    obtain rfl : u = Value.ref a := r
    obtain ⟨mA, O, _⟩ := ins_get I.hok e
    obtain ⟨od, J, _⟩ := O.look
    exact ⟨J.type, nf n⟩
  | oth o => exact o.looks I r
  | @dn P w a L e =>
    obtain rfl : u = Value.ref a := r
    obtain ⟨_, _, xs, _, o, es, ep, h1, h2, _⟩ : DNp P w a L s.heap := (show ObjOk X.prog X.w H s.heap a (DN P w a L) from e.ok I.hok).1
    refine ⟨?_, nf (sub_b_own (show fastBuiltinMro "dict" = some [.type "dict", .type "object"] by decide +kernel) rfl)⟩
    intro A Q E s' kp q
    exact wpAny_typeOf (T := "dict") ⟨o, kp _ _ h1, h2.1⟩ q
def rEqO (K : PySem.W.Frag) (C : Addr) (sp : Sp) : R2 := fun x y H Q => ∃ a dx fs t, x = .ref a ∧ H a = some (.ins C dx fs) ∧ OthO K H C y t ∧ sp [.ref a, y] H (fun v H' => ∃ b, v = .bl b ∧ Q (.bl b) H') E0
theorem op_eqO (c : CalM X.prog X.w X.K X.mg X.base C "__eq__" k ps sp) (hr : Room k X.A) : OpR X (compareOp .Eq) (rEqO X.K C sp) := by
  intro pins s σ H x y v u Q I rx ry h
  obtain ⟨f, fd, F, me, b, _⟩ := c
  obtain ⟨a, dx, fs, t, rfl, ea, o, q⟩ := h
  obtain rfl : v = Value.ref a := rx
  obtain ⟨mA, O, _⟩ := ins_get I.hok ea
  obtain ⟨od, J, _⟩ := O.look
  obtain ⟨mm, hF⟩ := I.fr
  obtain ⟨lk, nf⟩ := o.looks (M := model X.prog X.w) I ry
  show wpAny _ _ (richCompare .Eq (.ref a) u) _ _ _
  refine PySem.W.cmp_K (op := .Eq) hr.units0 hF I.ok.mod.kin J lk nf me.at_ me.fn (wpAny_mono (run_below F hr rfl b I (.cons (rel_ref _) (.cons ry .nil)) q) (fun r s' z => ?_) fun _ _ e => e)
  obtain ⟨v', H', I', rv, t, rfl, q'⟩ := z
  cases rv
  exact ⟨.bl t, H', I', rfl, q'⟩
def rNeO (K : PySem.W.Frag) (C : Addr) (sp : Sp) : R2 := fun x y H Q => ∃ a dx fs t, x = .ref a ∧ H a = some (.ins C dx fs) ∧ OthO K H C y t ∧ sp [.ref a, y] H (fun v H' => ∃ b, v = .bl b ∧ Q (.bl (!b)) H') E0
theorem op_neO (c : CalM X.prog X.w X.K X.mg X.base C "__eq__" k ps sp) (hn : PySem.W.findIn X.K (.ref C) "__ne__" = some (some (.builtin "object.__ne__"))) (hm : PySem.W.mroIn X.K C (.type "object") = some true) (hr : Room (k + 1) X.A) :
    OpR X (compareOp .NotEq) (rNeO X.K C sp) := by
  intro pins s σ H x y v u Q I rx ry h
  obtain ⟨f, fd, F, me, b, _⟩ := c
  obtain ⟨a, dx, fs, t, rfl, ea, o, q⟩ := h
  obtain rfl : v = Value.ref a := rx
  obtain ⟨mA, O, _⟩ := ins_get I.hok ea
  obtain ⟨od, J, _⟩ := O.look
  obtain ⟨lk, nf⟩ := o.looks (M := model X.prog X.w) I ry
  show wpAny _ _ (richCompare .NotEq (.ref a) u) _ _ _
  refine rc_neM I.kIn J hm hn me.at_ me.fn hr.units0 hr.in1.units0 lk nf (wpAny_mono (run_below F hr.in1 rfl b I (.cons (rel_ref _) (.cons ry .nil)) q) (fun r s' z => ?_) fun _ _ e => e)
  obtain ⟨v', H', I', rv, t, rfl, q'⟩ := z
  cases rv
  exact ⟨t, rfl, .bl (!t), H', I', rfl, q'⟩
end
end Gx

set_option maxRecDepth 100000
set_option maxHeartbeats 4000000
namespace Gx
open PySem PySem.Spec PyProof.Rows L2
/-! ### dicts compared, their values data or dicts with nested keys -/
/-- two values, and whether they are equal -/
def VEq (P : Program) (w : World) (K : PySem.W.Frag) (H : Hp) (x y : V) (b : Bool) : Prop :=
  (∃ d e, Dp K H x d ∧ Dp K H y e ∧ SeqAt.shaped d = true ∧ SeqAt.shaped e = true ∧ b = PyData.eqv d e) ∨
    ∃ a c L M, x = .ref a ∧ y = .ref c ∧ a ≠ c ∧ NDict P w K H a L ∧ NDict P w K H c M ∧ Texts L ∧ Texts M ∧ b = eqN L M
inductive HitsW (P : Program) (w : World) (K : PySem.W.Frag) (H : Hp) (ls : List (Key × V)) : List (Key × V) → Bool → Prop
  | nil : HitsW P w K H ls [] true
  | miss {p : Key × V} {r : List (Key × V)} (e : valV ls p.1 = none) : HitsW P w K H ls (p :: r) false
  | hit {p : Key × V} {r : List (Key × V)} {y : V} {b c : Bool} (at_ : valV ls p.1 = some y) (h : VEq P w K H p.2 y c) (more : HitsW P w K H ls r b) : HitsW P w K H ls (p :: r) (c && b)
section
variable {X : Cx} {P : Program} {w : World} {K : PySem.W.Frag}
theorem VEq.raw {pins : List (Addr × Obj)} {σ : L2.St} {H : Hp} {s : Shared} {A : Around} (I : Inv X pins σ H s) (hu : A.in1.units + 66 < cLine) {x y : V} {v u : Value} {b : Bool} (h : VEq X.prog X.w X.K H x y b) (rx : RelV x v) (ry : RelV y u) :
    SeqAt.EqP X.prog X.w A.in1 s v u b := by
  rcases h with ⟨d, e, hd, he, sd, se, rfl⟩ | ⟨a, c, L, M, rfl, rfl, ne, ha, hc, tL, tM, rfl⟩
  · obtain ⟨as, r1⟩ := Dp.reads I d x v hd rx
    obtain ⟨bs, r2⟩ := Dp.reads I e y u he ry
    exact SeqAt.EqAt.eqP (PySem.W.keq_at r1 r2 sd se (by omega))
  · obtain rfl : v = Value.ref a := rx
    obtain rfl : u = Value.ref c := ry
    refine SeqAt.eqP_refs ne fun E Q q => ?_
    obtain ⟨_, ya, va, ra, da⟩ := dn_rd I ha
    obtain ⟨_, yc, vc, rc, dc⟩ := dn_rd I hc
    refine rcH_dicts (show A.in1.in1.units + 8 < cLine by simp only [Around.in1_units] at hu ⊢; omega) ya yc da dc (by omega) (fun _ => hitsN rc tM ra tL) _ _ ?_
    have e : (va.length == vc.length && (prN L).all fun p => decide (valV (prN M) p.1 = some p.2)) = eqN L M := by
      unfold eqN
      rw [ra.length, rc.length]
      rfl
    rw [e]
    exact q
theorem HitsW.raw {pins : List (Addr × Obj)} {σ : L2.St} {H : Hp} {s : Shared} {A : Around} (I : Inv X pins σ H s) (hu : A.in1.units + 66 < cLine) {ls : List (Key × V)} {vb : List (Key × Value)} (rb : KV ls vb) {ks : List (Key × V)} {r : Bool} (h : HitsW X.prog X.w X.K H ls ks r) :
    ∀ {va : List (Key × Value)}, KV ks va → PySem.W.KeqHitsP X.prog X.w A.in1 s vb va r := by
  induction h with
  | nil =>
    intro va ra
    unfold KV at ra
    cases ra
    exact .nil
  | @miss p r e =>
    intro va ra
    unfold KV at ra
    cases ra with
    | @cons _ q _ qs h t =>
      obtain ⟨k, v⟩ := q
      obtain ⟨h1, h2⟩ := h
      have h1' : p.1 = k := h1
      have rr := rb.val p.1
      rw [e, h1'] at rr
      refine .miss ?_
      cases c : valueAt vb k with
      | none => rfl
      | some z => rw [c] at rr; exact rr.elim
  | @hit p r y b c at_ h0 more ih =>
    intro va ra
    unfold KV at ra
    cases ra with
    | @cons _ q _ qs h t =>
      obtain ⟨k, v⟩ := q
      obtain ⟨h1, h2⟩ := h
      have h1' : p.1 = k := h1
      have rr := rb.val p.1
      rw [at_, h1'] at rr
      obtain ⟨z, hz, rz⟩ := RelO.some_of rr
      exact .hit hz (h0.raw I hu h2 rz) (ih t)
def rEqW (P : Program) (w : World) (K : PySem.W.Frag) : R2 := fun x y H Q => ∃ a b ks ls r, x = .ref a ∧ y = .ref b ∧ H a = some (.dK ks) ∧ H b = some (.dK ls) ∧ (ks.length = ls.length → HitsW P w K H ls ks r) ∧ Q (.bl (ks.length == ls.length && r)) H
theorem op_eqW (hx : XI X P w K) (hu : X.A.units + 72 < cLine) : OpR X (compareOp .Eq) (rEqW P w K) := by
  obtain ⟨rfl, rfl, rfl⟩ := hx
  intro pins s σ H x y v u Q I rx ry h
  obtain ⟨a, b, ks, ls, r, rfl, rfl, ea, eb, hits, q⟩ := h
  obtain rfl : v = Value.ref a := rx
  obtain rfl : u = Value.ref b := ry
  obtain ⟨_, ya, va, ra, da⟩ := dk_of I.hok ea
  obtain ⟨_, yb, vb, rb, db⟩ := dk_of I.hok eb
  have l1 := ra.length
  have l2 := rb.length
  refine PySem.W.rcP_dicts (knd := mixKind X.prog X.w) (r := r) ya yb da db (by omega) (fun e => (hits (by omega)).raw I (by simp only [Around.in1_units]; omega) rb ra) _ _ ⟨.bl (ks.length == ls.length && r), H, I, ?_, q⟩
  rw [l1, l2]
  rfl
end
end Gx

set_option maxRecDepth 100000
set_option maxHeartbeats 4000000
namespace Gx
open PySem PySem.Spec PyProof.Rows L2
/-! ### lists compared, their items data or dicts with nested keys -/
inductive VEqs (P : Program) (w : World) (K : PySem.W.Frag) (H : Hp) : List V → List V → List Bool → Prop
  | nil : VEqs P w K H [] [] []
  | cons {x y : V} {b : Bool} {xs ys : List V} {bs : List Bool} (h : VEq P w K H x y b) (t : VEqs P w K H xs ys bs) : VEqs P w K H (x :: xs) (y :: ys) (b :: bs)
theorem VEqs.get {P : Program} {w : World} {K : PySem.W.Frag} {H : Hp} : ∀ {xs ys : List V} {bs : List Bool}, VEqs P w K H xs ys bs → xs.length = ys.length ∧ bs.length = xs.length ∧ ∀ j, j < xs.length → ∃ x y, xs[j]? = some x ∧ ys[j]? = some y ∧ VEq P w K H x y (bs.getD j false)
  | _, _, _, .nil => ⟨rfl, rfl, fun j lt => absurd lt (Nat.not_lt_zero _)⟩
  | _, _, _, .cons h t => by
    obtain ⟨e1, e2, at_⟩ := t.get
    refine ⟨by rw [List.length_cons, List.length_cons, e1], by rw [List.length_cons, List.length_cons, e2], fun j lt => ?_⟩
    cases j with
    | zero => exact ⟨_, _, rfl, rfl, h⟩
    | succ j => exact at_ j (Nat.lt_of_succ_lt_succ lt)
section
variable {X : Cx} {P : Program} {w : World} {K : PySem.W.Frag}
def rEqLW (P : Program) (w : World) (K : PySem.W.Frag) : R2 := fun x y H Q => ∃ a b xs ys bs, x = .ref a ∧ y = .ref b ∧ SqL K H a xs ∧ SqL K H b ys ∧ VEqs P w K H xs ys bs ∧ Q (.bl (bs.all id)) H
theorem op_eqLW (hx : XI X P w K) (hu : X.A.units + 72 < cLine) : OpR X (compareOp .Eq) (rEqLW P w K) := by
  obtain ⟨rfl, rfl, rfl⟩ := hx
  intro pins s σ H x y v u Q I rx ry h
  obtain ⟨a, b, xs, ys, bs, rfl, rfl, ha, hb, vs, q⟩ := h
  obtain rfl : v = Value.ref a := rx
  obtain rfl : u = Value.ref b := ry
  obtain ⟨is, ra, pa, _⟩ := I.list ha
  obtain ⟨js, rb, pb, _⟩ := I.list hb
  obtain ⟨e1, e2, at_⟩ := vs.get
  have l1 := ra.length
  have l2 := rb.length
  have sz : is.toArray.size = js.toArray.size := by simp only [List.size_toArray]; omega
  refine SeqAt.rcP_lists (e := fun j => bs.getD j false) pa.isList pb.isList sz (by omega) (fun j h1 h2 => ?_) _ _ ⟨.bl (bs.all id), H, I, ?_, q⟩
  · have h1' : j < is.length := by simpa using h1
    have h2' : j < js.length := by simpa using h2
    obtain ⟨x, y, gx, gy, ve⟩ := at_ j (by omega)
    obtain ⟨u1, g1, r1⟩ := ra.get gx
    obtain ⟨u2, g2, r2⟩ := rb.get gy
    have k1 : is.toArray[j] = u1 := by
      rw [List.getElem?_eq_getElem h1'] at g1
      simpa using Option.some.inj g1
    have k2 : js.toArray[j] = u2 := by
      rw [List.getElem?_eq_getElem h2'] at g2
      simpa using Option.some.inj g2
    rw [k1, k2]
    exact ve.raw I (by simp only [Around.in1_units]; omega) r1 r2
  · have all : ∀ (n : Nat) (l : List Bool), l.length = n → (List.range n).all (fun j => l.getD j false) = l.all id := by
      intro n
      induction n with
      | zero => intro l e; rw [List.eq_nil_of_length_eq_zero e]; rfl
      | succ n ih =>
        intro l e
        cases l with
        | nil => cases e
        | cons b l =>
          rw [List.range_succ_eq_map, List.all_cons, List.all_map, List.all_cons]
          have := ih l (by simpa using e)
          rw [← this]
          rfl
    show Value.bool _ = Value.bool _
    rw [all is.toArray.size bs (by simp only [List.size_toArray]; omega)]
end
end Gx

set_option maxRecDepth 100000
set_option maxHeartbeats 4000000
namespace Kl
open PySem PySem.Spec PyProof.Rows L2 Gx Mx LamX
abbrev FEW04 : List (List Str) := [[], ["kind a a+a"], ["leaf a", "leaf a"], ["kind b b+a", "leaf a"], ["leaf a", "kind b a+a+a+a"]]
abbrev DUE04 : List Str := ["kinds", "kinds", "parse 1", "parse 0", "parse 1"]
def rdL (zs : List Str) : List Pl ⊕ Nat := readL [] 0 ((zs.map V.str).map tellV)
theorem par0 : parseT 0 = "parse 0" := by decide +kernel
theorem par1 : parseT 1 = "parse 1" := by decide +kernel
/-- what is told of lines that tell no kinds -/
def Bad (zs : List Str) (due : Str) : Prop := (∃ i, rdL zs = .inr i ∧ parseT i = due) ∨ ∃ qs, rdL zs = .inl qs ∧ ¬ GoodQ qs ∧ due = "kinds"
theorem no_leaf {qs : List Pl} (h : leafOf qs = none) : ¬ GoodQ qs := fun ⟨_, e, _⟩ => by rw [h] at e; cases e
theorem few0 : Bad [] "kinds" := .inr ⟨[], rfl, no_leaf rfl, rfl⟩
theorem few1 : Bad ["kind a a+a"] "kinds" := .inr ⟨[.k "a" ["a", "a"]], by decide +kernel, no_leaf rfl, rfl⟩
theorem few2 : Bad ["leaf a", "leaf a"] "parse 1" := .inl ⟨1, by decide +kernel, par1⟩
theorem few3 : Bad ["kind b b+a", "leaf a"] "parse 0" := .inl ⟨0, by decide +kernel, par0⟩
theorem few4 : Bad ["leaf a", "kind b a+a+a+a"] "parse 1" := .inl ⟨1, by decide +kernel, par1⟩
theorem few_all : ∀ (i : Nat) (zs : List Str), FEW04[i]? = some zs → ∃ due, DUE04[i]? = some due ∧ Bad zs due
  | 0, zs, h => by cases h; exact ⟨_, rfl, few0⟩
  | 1, zs, h => by cases h; exact ⟨_, rfl, few1⟩
  | 2, zs, h => by cases h; exact ⟨_, rfl, few2⟩
  | 3, zs, h => by cases h; exact ⟨_, rfl, few3⟩
  | 4, zs, h => by cases h; exact ⟨_, rfl, few4⟩
  | _ + 5, _, h => by cases h
theorem few_base : ∀ zs ∈ FEW04, zs.length ≤ 3 ∧ ∀ z ∈ zs, BaseL z := by
  have h : FEW04.all (fun zs => decide (zs.length ≤ 3) && zs.all fun z => decide (z.length ≤ 49) && z.cps.toList.all (fun c => decide (c < 128))) = true := by decide +kernel
  intro zs m
  have := List.all_eq_true.mp h zs m
  rw [Bool.and_eq_true, decide_eq_true_eq, List.all_eq_true] at this
  refine ⟨this.1, fun z mz => ?_⟩
  have := this.2 z mz
  rw [Bool.and_eq_true, decide_eq_true_eq] at this
  exact ⟨this.1, asc_lit this.2⟩
/-- the lists of lines -/
def FewAt (G : Hp) (as : List Addr) (zss : List (List Str)) : Prop := Paired (fun a zs => G a = some (.lst (zs.map V.str))) as zss
theorem FewAt.at_ {G : Hp} : ∀ {as : List Addr} {zss : List (List Str)}, FewAt G as zss → ∀ {j : Nat} {v : V}, (as.map V.ref)[j]? = some v → ∃ a zs, v = .ref a ∧ zss[j]? = some zs ∧ G a = some (.lst (zs.map V.str))
  | _, _, .nil, j, v, h => by cases h
  | _, _, .cons (a := a) h t, 0, v, e => by cases e; exact ⟨a, _, rfl, rfl, h⟩
  | _, _, .cons h t, j + 1, v, e => FewAt.at_ t e
theorem FewAt.len {G : Hp} : ∀ {xs : List Addr} {ys : List (List Str)}, FewAt G xs ys → xs.length = ys.length
  | _, _, .nil => rfl
  | _, _, .cons h t => by rw [List.length_cons, List.length_cons, FewAt.len t]
section
variable {P : Program} {w : World} {K : PySem.W.Frag} {mg : Str → Option Value} {base : Heap}
/-! ### the law -/
def spLaw (K : PySem.W.Frag) (Tb : List (Addr × Str)) : Sp := fun vs H Q _ => ∃ (a : Addr) (ns : List Int), vs = [.ref a] ∧ SqL K H a (ns.map V.int) ∧ ns.length ≤ 63 ∧ Tabs Tb H ∧ ∀ H', Q (.bl true) H'
theorem ok_law {f c1 P1 : Addr} {fd : FuncData} {Tb : List (Addr × Str)} (F : Fun K "law" "law" s_law f fd) (gl : mg "law" = some (.ref f)) (Lx : Lam K mg base Tb "_law_asked" c1 P1) (T : Top K mg)
    (hN : ∀ C1 C2, mg "InvalidKinds" = some (.ref C1) → mg "ParseError" = some (.ref C2) → PySem.W.exmOne K (.ref C1) (.ref C2) = some false) : FnG P w K mg base CX0 40 f fd ["_law_script"] (spLaw K Tb) := by
  obtain ⟨C, TC⟩ := T.c_Kinds
  obtain ⟨Cr, XO, XC, te⟩ := T.p_InvalidKinds
  obtain ⟨CP, fI, fdI, TX, FX⟩ := T.x_ParseError
  have tn := hN Cr CP XO.gC TX.gC
  have cd : Cal P w K mg base 39 "_law_dice" ["_law_script", "_law_spot"] (spDice K) := (T.d_law_dice.cal fun f fd F => ok_dice F T).mono (by decide)
  have crt : CalG P w K mg base 39 "_law_right" ["_law_dice_here"] (spRg Tb) := CalG.up (T.d_law_right.calG fun f fd F => ok_rg F Lx T TC TX FX XO XC te tn) (by decide)
  have cto : CalG P w K mg base 13 "_law_told" ["_law_lines"] (spLt K C Tb) := T.d_law_told.calG fun f fd F => ok_told F Lx T TC TX FX XO XC te tn
  have kLen : CalM P w K mg base C "__len__" 1 ["self"] (spKLen C) := TC.m_len.cal fun f fd F => ok_klen F T TC
  refine okG F sc_law (fun vs H Q E h => ?_) (fun cdv A outer s H vs Q E hg hr h => ?_)
  · obtain ⟨a, ns, rfl, _⟩ := h
    rfl
  · obtain ⟨a, ns, rfl, hS, hlen, hTb, q⟩ := h
    refine ⟨_, pss_cut (ps_for PassesOwn.never rfl (pi_range1 (by rfl) T.b_range (pa_cons (pe_callB (call_max2 rfl) (by rfl) T.b_max (by decide +kernel) (pa_cons pe_int (pa_cons
          (pe_callB (call_min2 rfl) (by rfl) T.b_min (by decide +kernel) (pa_cons pe_int (pa_cons (pe_callB call_len_seq (by rfl) T.b_len PySem.boot_len (pa_cons (pv 0) pa_nil)) pa_nil))) pa_nil))) pa_nil))
          (pg_name (i := 1) sc_law.nd rfl (.inl rfl))
        (pss_one (ps_if (pt_not (pt_val (pe_calG crt hg hr (by rfl) (pa_cons (pe_cal cd hr (by rfl) (pa_cons (pv 0) (pa_cons (pv 1) pa_nil))) pa_nil)))) (pss_one (ps_ret pe_bl)) pss_nil)))
      (pss_cut (ps_set (i := 2) sc_law.nd rfl (.inl rfl) (pe_lst (pa_cons (pe_lst pa_nil) (pa_cons (pe_lst (pa_cons pe_str pa_nil)) (pa_cons (pe_lst (pa_cons pe_str (pa_cons pe_str pa_nil))) (pa_cons (pe_lst (pa_cons pe_str (pa_cons pe_str pa_nil))) (pa_cons (pe_lst (pa_cons pe_str (pa_cons pe_str pa_nil))) pa_nil)))))))
      (pss_cut (ps_if (pt_cmpR (op_neD hr.units) (pe_lc (own := [("_law_lines", 3)]) (g := gName 3) (tt := tYes) rfl sc_law.nd (pi_listK (K := K) rfl (pv 2))
            (blkOk_by (N := ["_law_script", "_law_spot", "_law_few", "_law_lines"]) (sc := defScope s_law) (by decide +kernel)) (fun _ _ _ _ _ => pg_name (i := 3) sc_law.nd rfl (.inl rfl))
            (fun _ _ _ _ _ => pts_nil) (fun _ _ _ _ _ => pe_calG cto hg (hr.mono (by decide)) (by rfl) (pa_cons (pv 3) pa_nil)))
          (pe_lst (pa_cons pe_str (pa_cons pe_str (pa_cons pe_str (pa_cons pe_str (pa_cons pe_str pa_nil)))))) (nomark _)) (pss_one (ps_ret pe_bl)) pss_nil)
      (pss_one (ps_ret (pe_cmpR op_eq (pe_callB (call_lenM kLen (hr.mono (by decide))) (by rfl) T.b_len PySem.boot_len (pa_cons (pe_calG cto hg (hr.mono (by decide)) (by rfl) (pa_cons (pe_lst (pa_cons pe_str pa_nil)) pa_nil)) pa_nil)) pe_int (nomark _)))))), ?_⟩
    have big : 100000 ≤ sizeLine := by decide
    refine ⟨fun σ' G => ∃ y1 : Option V, σ' = [some (.ref a), y1, none, none] ∧ Tabs Tb G, ?_, ?_⟩
    · refine ⟨_, rfl, a, _, rfl, .inl hS, _, _, rfl, _, _, rfl, _, rfl, ?_, ?_, ?_⟩
      · split <;> split <;> omega
      · split <;> split <;> omega
      refine for_range (lo := 0) (fun i σ' G => (∃ y1 : Option V, σ' = [some (.ref a), y1, none, none]) ∧ SqL K G a (ns.map V.int) ∧ Tabs Tb G) ⟨⟨_, rfl⟩, hS, hTb⟩ (fun i σ' G hi hP => ?_) (fun σ' G hP => by obtain ⟨⟨y1, e⟩, _, t⟩ := hP; exact ⟨y1, e, t⟩)
      obtain ⟨⟨y1, rfl⟩, hSG, tG⟩ := hP
      refine ⟨_, rfl, _, rfl, a, ns, i, ?_, hSG, hlen, ?_, fun d x0 b0 nd => ?_⟩
      · show [V.ref a, V.int (0 + (i : Int))] = _
        rw [Int.zero_add]
      · have : i < 6 := by
          revert hi
          split <;> split <;> omega
        omega
      have s1 := same_new (o := .lst [V.int x0, V.int b0, V.int 0]) (Same.refl G) nd
      refine ⟨d, rfl, ⟨x0, b0, 0, upd_same⟩, Tabs.ext tG s1, fun H' sx tb hd' => ⟨_, rfl, ?_⟩⟩
      show (if (!true) = true then _ else _)
      rw [if_neg (by decide)]
      refine ⟨⟨_, rfl⟩, ?_, tb⟩
      rcases hSG with (h | ⟨o, h⟩) | h
      · exact .inl (.inl (sx _ _ (ne_of_none h nd) (s1 _ _ h) fun _ => nofun))
      · exact .inl (.inr ⟨o, sx _ _ (ne_of_none h nd) (s1 _ _ h) fun _ => nofun⟩)
      · exact .inr h
    rintro σ' G0 ⟨y1, rfl, t0⟩
    -- the written lists
    refine ⟨fun σ' G => ∃ (l : Addr) (as : List Addr), σ' = [some (.ref a), y1, some (.ref l), none] ∧ G l = some (.lst (as.map V.ref)) ∧ FewAt G as FEW04 ∧ Tabs Tb G, ?_, ?_⟩
    · refine ⟨Nat.zero_le _, fun p0 np0 => ?_⟩
      have sp0 := same_new (o := .lst []) (Same.refl G0) np0
      have ep0 : (upd G0 p0 (.lst [])) p0 = some (.lst []) := upd_same
      generalize upd G0 p0 (.lst []) = P0 at *
      refine ⟨by show 1 ≤ sizeLine; omega, fun p1 np1 => ?_⟩
      have sp1 := same_new (o := .lst [V.str "kind a a+a"]) (Same.refl P0) np1
      have ep1 : (upd P0 p1 (.lst [V.str "kind a a+a"])) p1 = some (.lst [V.str "kind a a+a"]) := upd_same
      generalize upd P0 p1 (.lst [V.str "kind a a+a"]) = P1 at *
      refine ⟨by show 2 ≤ sizeLine; omega, fun p2 np2 => ?_⟩
      have sp2 := same_new (o := .lst [V.str "leaf a", V.str "leaf a"]) (Same.refl P1) np2
      have ep2 : (upd P1 p2 (.lst [V.str "leaf a", V.str "leaf a"])) p2 = some (.lst [V.str "leaf a", V.str "leaf a"]) := upd_same
      generalize upd P1 p2 (.lst [V.str "leaf a", V.str "leaf a"]) = P2 at *
      refine ⟨by show 2 ≤ sizeLine; omega, fun p3 np3 => ?_⟩
      have sp3 := same_new (o := .lst [V.str "kind b b+a", V.str "leaf a"]) (Same.refl P2) np3
      have ep3 : (upd P2 p3 (.lst [V.str "kind b b+a", V.str "leaf a"])) p3 = some (.lst [V.str "kind b b+a", V.str "leaf a"]) := upd_same
      generalize upd P2 p3 (.lst [V.str "kind b b+a", V.str "leaf a"]) = P3 at *
      refine ⟨by show 2 ≤ sizeLine; omega, fun p4 np4 => ?_⟩
      have sp4 := same_new (o := .lst [V.str "leaf a", V.str "kind b a+a+a+a"]) (Same.refl P3) np4
      have ep4 : (upd P3 p4 (.lst [V.str "leaf a", V.str "kind b a+a+a+a"])) p4 = some (.lst [V.str "leaf a", V.str "kind b a+a+a+a"]) := upd_same
      generalize upd P3 p4 (.lst [V.str "leaf a", V.str "kind b a+a+a+a"]) = P4 at *
      refine ⟨by show 5 ≤ sizeLine; omega, fun pl npl => ?_⟩
      have spl := same_new (o := .lst [V.ref p0, V.ref p1, V.ref p2, V.ref p3, V.ref p4]) (Same.refl P4) npl
      have epl : (upd P4 pl (.lst [V.ref p0, V.ref p1, V.ref p2, V.ref p3, V.ref p4])) pl = some (.lst [V.ref p0, V.ref p1, V.ref p2, V.ref p3, V.ref p4]) := upd_same
      generalize upd P4 pl (.lst [V.ref p0, V.ref p1, V.ref p2, V.ref p3, V.ref p4]) = PL at *
      have tp4 := spl
      have tp3 := sp4.trans tp4
      have tp2 := sp3.trans tp3
      have tp1 := sp2.trans tp2
      have tp0 := sp1.trans tp1
      have tall := sp0.trans tp0
      exact ⟨pl, [p0, p1, p2, p3, p4], rfl, epl, .cons (tp0 _ _ ep0) (.cons (tp1 _ _ ep1) (.cons (tp2 _ _ ep2) (.cons (tp3 _ _ ep3) (.cons (tp4 _ _ ep4) .nil)))), Tabs.ext t0 tall⟩
    rintro σ' G2 ⟨l, as, rfl, el, hF, t2⟩
    have las : as.length = 5 := hF.len
    -- what is told of them
    refine ⟨fun σ' G => σ' = [some (.ref a), y1, some (.ref l), none] ∧ Tabs Tb G, ?_, ?_⟩
    · refine ⟨_, rfl, l, rfl, ⟨_, .inl (.inl el)⟩, fun D hD => ?_⟩
      refine lc_it (g := gName 3) (vs := [3]) (walk_list (K := K) (a := l) (xs := as.map V.ref)) (fun j G => G D = some (.lst ((DUE04.take j).map V.str)) ∧ ExtN G2 G ∧ Tabs Tb G) ⟨upd_same, .of (same_new (Same.refl _) hD), Tabs.ext t2 (same_new (Same.refl _) hD)⟩ (fun j G _ h => .inl (.inl (h.2.1 _ _ el fun _ => nofun))) (fun j v Gx G hj h hy => ?_) (fun G h => ?_)
      · obtain ⟨eD, sm, tb⟩ := h
        obtain ⟨rfl, hv⟩ := hy
        obtain ⟨b, zs, rfl, hz, eb⟩ := hF.at_ hv
        obtain ⟨due, hdue, hbad⟩ := few_all j zs hz
        obtain ⟨l3, hb⟩ := few_base zs (List.mem_of_getElem? hz)
        have go : ∀ G', ExtN G G' → Tabs Tb G' → ∃ xs, G' D = some (.lst xs) ∧ xs.length < sizeLine ∧ (upd G' D (.lst (xs ++ [V.str due]))) D = some (.lst ((DUE04.take (j + 1)).map V.str)) ∧ ExtN G2 (upd G' D (.lst (xs ++ [V.str due]))) ∧ Tabs Tb (upd G' D (.lst (xs ++ [V.str due]))) := fun G' s t => by
          have eD' := s _ _ eD fun _ => nofun
          refine ⟨_, eD', ?_, ?_, ext_lst (sm.trans s) (fun o e _ => by rw [hD] at e; cases e), tabs_lst t eD'⟩
          · rw [List.length_map, List.length_take]
            refine Nat.lt_of_le_of_lt (Nat.min_le_right _ _) ?_
            show 5 < sizeLine
            omega
          · rw [upd_same, List.take_add_one, hdue, List.map_append]
            rfl
        refine ⟨rfl, _, rfl, b, zs.map V.str, rfl, tb, .inl (.inl (sm _ _ eb fun _ => nofun)), by rw [List.length_map]; omega, fun v m => ?_, fun i H' h s t => ?_, fun qs H' h n s t => ?_, fun qs f' x md M' ks H' h h1 h2 h3 h4 s t hx => ?_⟩
        · obtain ⟨z, mz, rfl⟩ := List.mem_map.mp m
          exact .inl ⟨z, rfl, by have := (hb z mz).1; omega, (hb z mz).2⟩
        · rcases hbad with ⟨i', e1, e2⟩ | ⟨qs, e1, _⟩
          · have h' : rdL zs = .inr i := h
            rw [e1] at h'
            cases h'
            rw [e2]
            obtain ⟨ys, k1, k2, k3, k4⟩ := go H' s t
            exact ⟨ys, k1, k2, k3, k4⟩
          · have h' : rdL zs = .inr i := h
            rw [e1] at h'
            cases h'
        · rcases hbad with ⟨i', e1, e2⟩ | ⟨qs', e1, e2, e3⟩
          · have h' : rdL zs = .inl qs := h
            rw [e1] at h'
            cases h'
          · obtain ⟨ys, k1, k2, k3, k4⟩ := go H' s t
            rw [e3] at k3 k4
            exact ⟨ys, k1, k2, k3, k4⟩
        · exfalso
          have h' : rdL zs = .inl qs := h
          rcases hbad with ⟨i', e1, e2⟩ | ⟨qs', e1, e2, e3⟩
          · rw [e1] at h'
            cases h'
          · rw [e1] at h'
            cases h'
            exact e2 ⟨f', h1, h2⟩
      · obtain ⟨eD, sm, tb⟩ := h
        rw [List.length_map, las] at eD
        refine ⟨by show 5 ≤ sizeLine; omega, fun k nk => ?_⟩
        have s1 := same_new (o := .lst (DUE04.map V.str)) (Same.refl G) nk
        have sh : SeqAt.shaped (.list (tD DUE04)) = true := by decide +kernel
        refine ⟨.list (tD DUE04), .list (tD DUE04), .lst (.inl (.inl (s1 _ _ eD))) (dp_texts _), .lst (.inl (.inl upd_same)) (dp_texts DUE04), sh, sh, ?_⟩
        rw [eqv_list04, decide_eq_true rfl]
        refine ⟨_, rfl, ?_⟩
        show (if (!true) = true then _ else _)
        rw [if_neg (by decide)]
        exact ⟨rfl, Tabs.ext tb s1⟩
    rintro σ' G3 ⟨rfl, t3⟩
    refine ⟨by show 1 ≤ sizeLine; omega, fun k nk => ?_⟩
    have s1 := same_new (o := .lst [V.str "leaf a"]) (Same.refl G3) nk
    have rd1 : rdL ["leaf a"] = .inl [.l "a"] := by decide +kernel
    have hV1 : Vld "a" [] := by
      refine ⟨in_pool (by decide +kernel), nofun, List.nodup_nil, nofun, fun zs nd hs => ?_⟩
      have := nodup_le (L := [("a" : Str)]) nd fun z m => (hs z m).elim (fun e => by rw [e]; exact List.mem_cons_self) (fun h => nomatch h)
      exact Nat.le_trans this (by show 1 ≤ 6; omega)
    refine ⟨k, [("leaf a" : Str)].map V.str, rfl, Tabs.ext t3 s1, .inl (.inl upd_same), by show 1 ≤ 9; omega, fun v m => ?_, fun i H' h s t => ?_, fun qs H' h n s t => ?_, fun qs f' x md M' ks H' h h1 h2 h3 h4 s t hx => ?_⟩
    · rw [List.mem_singleton.mp m]
      exact .inl ⟨_, rfl, by decide +kernel, asc_lit (by decide +kernel)⟩
    · have h' : rdL ["leaf a"] = .inr i := h
      rw [rd1] at h'
      cases h'
    · have h' : rdL ["leaf a"] = .inl qs := h
      rw [rd1] at h'
      cases h'
      exact absurd ⟨"a", rfl, hV1⟩ n
    · have h' : rdL ["leaf a"] = .inl qs := h
      rw [rd1] at h'
      cases h'
      cases h1
      obtain ⟨dx, nt, kv, hxx, _⟩ := id hx
      have l1 : ks.length = 1 := by
        have : ks = [("a" : Str)] := by
          refine sorted_same h4.srt (by decide +kernel) h4.nd (by simp) fun z => ?_
          rw [h4.mem, List.mem_singleton]
          exact ⟨fun h => h.elim id (fun h => nomatch h), .inl⟩
        rw [this]
        rfl
      refine ⟨x, dx, _, rfl, hxx, x, md, "a", M', ks, rfl, hx, ks.length, rfl, by omega, rfl, ?_⟩
      have e1 : decide (V.int ((ks.length : Nat) : Int) = V.int 1) = true := by rw [l1]; exact decide_eq_true rfl
      show Q (V.bl (decide (V.int ((ks.length : Nat) : Int) = V.int 1))) H'
      rw [e1]
      exact q _
end
end Kl

set_option maxRecDepth 100000
set_option maxHeartbeats 4000000
namespace Kl
open PySem PySem.Spec PyProof.Rows L2 Gx LamX
/-! ### the end -/
theorem all_mk {l : PySem.W.OpenLaw} {w : World} {K : PySem.W.Frag} {h : Heap} {mg : Str → Option Value} {fa : Addr} (X : K.In h) (G : h.Ns mainGlobals mg) (hfa : mg "law" = some (.ref fa))
    {Ce0 fe0 : Addr} {ode0 ane0 : Option Addr} {sle0 : Array (Option Value)} {oce0 kVe0 dce0 pme0 cde0 cte0 : Value}
    {nme0 qne0 : Str} {Ne0 : Addr} {bse0 bme0 : List Value} {sne0 : List Str} {sube0 : List Value} {abe0 : Bool} {cole0 : Option Bool} {dde0 : Option Addr} {k0e0 k1e0 k2e0 k3e0 k5e0 : Option Value}
    {Ce1 fe1 : Addr} {ode1 ane1 : Option Addr} {sle1 : Array (Option Value)} {oce1 kVe1 dce1 pme1 cde1 cte1 : Value}
    {nme1 qne1 : Str} {Ne1 : Addr} {bse1 bme1 : List Value} {sne1 : List Str} {sube1 : List Value} {abe1 : Bool} {cole1 : Option Bool} {dde1 : Option Addr} {k0e1 k1e1 k2e1 k3e1 k5e1 : Option Value}
    {Ce2 fe2 : Addr} {ode2 ane2 : Option Addr} {sle2 : Array (Option Value)} {oce2 kVe2 dce2 pme2 cde2 cte2 : Value}
    {nme2 qne2 : Str} {Ne2 : Addr} {bse2 bme2 : List Value} {sne2 : List Str} {sube2 : List Value} {abe2 : Bool} {cole2 : Option Bool} {dde2 : Option Addr} {k0e2 k1e2 k2e2 k3e2 k5e2 : Option Value}
    {Cy0 : Addr} {nmy0 qny0 : Str} {Ny0 : Addr} {bsy0 bmy0 : List Value} {hdy0 : Bool} {sny0 : List Str} {suby0 : List Value} {aby0 : Bool} {coly0 : Option Bool} {ddy0 : Option Addr} {k0y0 k1y0 k2y0 k3y0 k5y0 : Option Value}
    {f0 : Addr} {od0 an0 : Option Addr} {sl0 : Array (Option Value)} {oc0 kV0 dc0 pm0 cd0 ct0 : Value}
    {f1 : Addr} {od1 an1 : Option Addr} {sl1 : Array (Option Value)} {oc1 kV1 dc1 pm1 cd1 ct1 : Value}
    {f2 : Addr} {od2 an2 : Option Addr} {sl2 : Array (Option Value)} {oc2 kV2 dc2 pm2 cd2 ct2 : Value}
    {f3 : Addr} {od3 an3 : Option Addr} {sl3 : Array (Option Value)} {oc3 kV3 dc3 pm3 cd3 ct3 : Value}
    {f4 : Addr} {od4 an4 : Option Addr} {sl4 : Array (Option Value)} {oc4 kV4 dc4 pm4 cd4 ct4 : Value}
    {f5 : Addr} {od5 an5 : Option Addr} {sl5 : Array (Option Value)} {oc5 kV5 dc5 pm5 cd5 ct5 : Value}
    {f6 : Addr} {od6 an6 : Option Addr} {sl6 : Array (Option Value)} {oc6 kV6 dc6 pm6 cd6 ct6 : Value}
    {f7 : Addr} {od7 an7 : Option Addr} {sl7 : Array (Option Value)} {oc7 kV7 dc7 pm7 cd7 ct7 : Value}
    {f8 : Addr} {od8 an8 : Option Addr} {sl8 : Array (Option Value)} {oc8 kV8 dc8 pm8 cd8 ct8 : Value}
    {f9 : Addr} {od9 an9 : Option Addr} {sl9 : Array (Option Value)} {oc9 kV9 dc9 pm9 cd9 ct9 : Value}
    {f10 : Addr} {od10 an10 : Option Addr} {sl10 : Array (Option Value)} {oc10 kV10 dc10 pm10 cd10 ct10 : Value}
    {f11 : Addr} {od11 an11 : Option Addr} {sl11 : Array (Option Value)} {oc11 kV11 dc11 pm11 cd11 ct11 : Value}
    {f12 : Addr} {od12 an12 : Option Addr} {sl12 : Array (Option Value)} {oc12 kV12 dc12 pm12 cd12 ct12 : Value}
    {f13 : Addr} {od13 an13 : Option Addr} {sl13 : Array (Option Value)} {oc13 kV13 dc13 pm13 cd13 ct13 : Value}
    {f14 : Addr} {od14 an14 : Option Addr} {sl14 : Array (Option Value)} {oc14 kV14 dc14 pm14 cd14 ct14 : Value}
    {f15 : Addr} {od15 an15 : Option Addr} {sl15 : Array (Option Value)} {oc15 kV15 dc15 pm15 cd15 ct15 : Value}
    {f16 : Addr} {od16 an16 : Option Addr} {sl16 : Array (Option Value)} {oc16 kV16 dc16 pm16 cd16 ct16 : Value}
    {f17 : Addr} {od17 an17 : Option Addr} {sl17 : Array (Option Value)} {oc17 kV17 dc17 pm17 cd17 ct17 : Value}
    {f18 : Addr} {od18 an18 : Option Addr} {sl18 : Array (Option Value)} {oc18 kV18 dc18 pm18 cd18 ct18 : Value}
    {f19 : Addr} {od19 an19 : Option Addr} {sl19 : Array (Option Value)} {oc19 kV19 dc19 pm19 cd19 ct19 : Value}
    {f20 : Addr} {od20 an20 : Option Addr} {sl20 : Array (Option Value)} {oc20 kV20 dc20 pm20 cd20 ct20 : Value}
    {f21 : Addr} {od21 an21 : Option Addr} {sl21 : Array (Option Value)} {oc21 kV21 dc21 pm21 cd21 ct21 : Value}
    {f22 : Addr} {od22 an22 : Option Addr} {sl22 : Array (Option Value)} {oc22 kV22 dc22 pm22 cd22 ct22 : Value}
    {f23 : Addr} {od23 an23 : Option Addr} {sl23 : Array (Option Value)} {oc23 kV23 dc23 pm23 cd23 ct23 : Value}
    {f24 : Addr} {od24 an24 : Option Addr} {sl24 : Array (Option Value)} {oc24 kV24 dc24 pm24 cd24 ct24 : Value}
    {f25 : Addr} {od25 an25 : Option Addr} {sl25 : Array (Option Value)} {oc25 kV25 dc25 pm25 cd25 ct25 : Value}
    {f26 : Addr} {od26 an26 : Option Addr} {sl26 : Array (Option Value)} {oc26 kV26 dc26 pm26 cd26 ct26 : Value}
    {f27 : Addr} {od27 an27 : Option Addr} {sl27 : Array (Option Value)} {oc27 kV27 dc27 pm27 cd27 ct27 : Value}
    {f28 : Addr} {od28 an28 : Option Addr} {sl28 : Array (Option Value)} {oc28 kV28 dc28 pm28 cd28 ct28 : Value}
    {f29 : Addr} {od29 an29 : Option Addr} {sl29 : Array (Option Value)} {oc29 kV29 dc29 pm29 cd29 ct29 : Value}
    {CoKinds : Addr}
    {fM0Kinds : Addr} {odM0Kinds anM0Kinds : Option Addr} {slM0Kinds : Array (Option Value)} {ocM0Kinds kVM0Kinds dcM0Kinds pmM0Kinds cdM0Kinds ctM0Kinds : Value}
    {fM2Kinds : Addr} {odM2Kinds anM2Kinds : Option Addr} {slM2Kinds : Array (Option Value)} {ocM2Kinds kVM2Kinds dcM2Kinds pmM2Kinds cdM2Kinds ctM2Kinds : Value}
    {qM2Kinds : Addr} {rsM2Kinds : List Value}
    {fM3Kinds : Addr} {odM3Kinds anM3Kinds : Option Addr} {slM3Kinds : Array (Option Value)} {ocM3Kinds kVM3Kinds dcM3Kinds pmM3Kinds cdM3Kinds ctM3Kinds : Value}
    {qM3Kinds : Addr} {rsM3Kinds : List Value}
    {fM4Kinds : Addr} {odM4Kinds anM4Kinds : Option Addr} {slM4Kinds : Array (Option Value)} {ocM4Kinds kVM4Kinds dcM4Kinds pmM4Kinds cdM4Kinds ctM4Kinds : Value}
    {qM4Kinds : Addr} {rsM4Kinds : List Value}
    {fM5Kinds : Addr} {odM5Kinds anM5Kinds : Option Addr} {slM5Kinds : Array (Option Value)} {ocM5Kinds kVM5Kinds dcM5Kinds pmM5Kinds cdM5Kinds ctM5Kinds : Value}
    {qM5Kinds : Addr} {rsM5Kinds : List Value}
    {fM9Kinds : Addr} {odM9Kinds anM9Kinds : Option Addr} {slM9Kinds : Array (Option Value)} {ocM9Kinds kVM9Kinds dcM9Kinds pmM9Kinds cdM9Kinds ctM9Kinds : Value}
    {fM10Kinds : Addr} {odM10Kinds anM10Kinds : Option Addr} {slM10Kinds : Array (Option Value)} {ocM10Kinds kVM10Kinds dcM10Kinds pmM10Kinds cdM10Kinds ctM10Kinds : Value}
    {fM12Kinds : Addr} {odM12Kinds anM12Kinds : Option Addr} {slM12Kinds : Array (Option Value)} {ocM12Kinds kVM12Kinds dcM12Kinds pmM12Kinds cdM12Kinds ctM12Kinds : Value}
    {fM13Kinds : Addr} {odM13Kinds anM13Kinds : Option Addr} {slM13Kinds : Array (Option Value)} {ocM13Kinds kVM13Kinds dcM13Kinds pmM13Kinds cdM13Kinds ctM13Kinds : Value}
    {fM14Kinds : Addr} {odM14Kinds anM14Kinds : Option Addr} {slM14Kinds : Array (Option Value)} {ocM14Kinds kVM14Kinds dcM14Kinds pmM14Kinds cdM14Kinds ctM14Kinds : Value}
    {fQ1Kinds qQ1Kinds : Addr} {odQ1Kinds anQ1Kinds : Option Addr} {slQ1Kinds : Array (Option Value)} {ocQ1Kinds kVQ1Kinds dcQ1Kinds pmQ1Kinds cdQ1Kinds ctQ1Kinds : Value} {rsQ1Kinds : List Value}
    {t0 : Tok}
    {t1 : Tok}
    {t2 : Tok}
    {t3 : Tok}
    {q : Program}
    {cT0 PT0 : Addr} {eT0 : DefRec} {ucT0 : Value} {odT0 : Option Addr} {vsT0 : Array Value} {slT0 : Array (Option Value)}
    (ge0 : PySem.W.nsIn K mainGlobals "ParseError" = some (some (.ref Ce0))) (he0 : K.lookup Ce0 = some (excClassObj nme0 qne0 Ce0 Ne0 bse0 bme0 true sne0 sube0 abe0 cole0 dde0 k0e0 k1e0 k2e0 k3e0 k5e0 "ValueError.__new__")) (te0 : PySem.W.excTail [.type "ValueError", .type "Exception", .type "BaseException", .type "object"] bme0 = true) (oe0 : PySem.W.excOver K Ce0 [.type "ValueError", .type "Exception", .type "BaseException", .type "object"] = true) (qe0 : PySem.W.takerIn K Ce0 "number" = some none) (de0 : PySem.W.hasDictIn K Ce0 = true) (se0 : PySem.W.findIn K (.ref Ce0) "__setattr__" = some (some (.builtin "object.__setattr__"))) (ue0 : PySem.W.findIn K (.ref Ce0) "__getattribute__" = some (some (.builtin "BaseException.__getattribute__"))) (ve0 : PySem.W.findIn K (.ref Ce0) "__getattr__" = some none) (ne0 : PySem.W.findIn K (.ref Ce0) "number" = some none) (ie0 : PySem.W.findIn K (.ref Ce0) "__init__" = some (some (.ref fe0))) (ye0 : PySem.W.typeIn K (.ref fe0) = some (.type "function")) (ke0 : PySem.W.keepIn K (.ref Ce0) = true) (be0 : PySem.W.subIn K (.ref Ce0) (.type "BaseException") = some true) (we0 : PySem.W.typeIn K (.ref Ce0) = some (.type "type")) (xe0 : PySem.W.isClsIn K Ce0 = true) (re0 : PySem.W.subIn K (.ref Ce0) (.ref Ce0) = some true) (le0 : K.lookup fe0 = some ⟨oce0, ode0, .func (PySem.W.fnOf "__init__" "ParseError.__init__" (defArgs s_ParseError_init) (defBody s_ParseError_init) (defScope s_ParseError_init) .none kVe0 dce0 pme0 ane0 cde0 cte0), sle0⟩) (ce0 : PySem.W.codeIn K cde0 "ParseError.__init__" = true) (pe0 : PySem.W.keepIn K (.ref fe0) = true)
    (ge1 : PySem.W.nsIn K mainGlobals "UnknownName" = some (some (.ref Ce1))) (he1 : K.lookup Ce1 = some (excClassObj nme1 qne1 Ce1 Ne1 bse1 bme1 true sne1 sube1 abe1 cole1 dde1 k0e1 k1e1 k2e1 k3e1 k5e1 "LookupError.__new__")) (te1 : PySem.W.excTail [.type "KeyError", .type "LookupError", .type "Exception", .type "BaseException", .type "object"] bme1 = true) (oe1 : PySem.W.excOver K Ce1 [.type "KeyError", .type "LookupError", .type "Exception", .type "BaseException", .type "object"] = true) (qe1 : PySem.W.takerIn K Ce1 "word" = some none) (de1 : PySem.W.hasDictIn K Ce1 = true) (se1 : PySem.W.findIn K (.ref Ce1) "__setattr__" = some (some (.builtin "object.__setattr__"))) (ue1 : PySem.W.findIn K (.ref Ce1) "__getattribute__" = some (some (.builtin "BaseException.__getattribute__"))) (ve1 : PySem.W.findIn K (.ref Ce1) "__getattr__" = some none) (ne1 : PySem.W.findIn K (.ref Ce1) "word" = some none) (ie1 : PySem.W.findIn K (.ref Ce1) "__init__" = some (some (.ref fe1))) (ye1 : PySem.W.typeIn K (.ref fe1) = some (.type "function")) (ke1 : PySem.W.keepIn K (.ref Ce1) = true) (be1 : PySem.W.subIn K (.ref Ce1) (.type "BaseException") = some true) (we1 : PySem.W.typeIn K (.ref Ce1) = some (.type "type")) (xe1 : PySem.W.isClsIn K Ce1 = true) (re1 : PySem.W.subIn K (.ref Ce1) (.ref Ce1) = some true) (le1 : K.lookup fe1 = some ⟨oce1, ode1, .func (PySem.W.fnOf "__init__" "UnknownName.__init__" (defArgs s_UnknownName_init) (defBody s_UnknownName_init) (defScope s_UnknownName_init) .none kVe1 dce1 pme1 ane1 cde1 cte1), sle1⟩) (ce1 : PySem.W.codeIn K cde1 "UnknownName.__init__" = true) (pe1 : PySem.W.keepIn K (.ref fe1) = true)
    (ge2 : PySem.W.nsIn K mainGlobals "InvalidNumber" = some (some (.ref Ce2))) (he2 : K.lookup Ce2 = some (excClassObj nme2 qne2 Ce2 Ne2 bse2 bme2 true sne2 sube2 abe2 cole2 dde2 k0e2 k1e2 k2e2 k3e2 k5e2 "IndexError.__new__")) (te2 : PySem.W.excTail [.type "IndexError", .type "LookupError", .type "Exception", .type "BaseException", .type "object"] bme2 = true) (oe2 : PySem.W.excOver K Ce2 [.type "IndexError", .type "LookupError", .type "Exception", .type "BaseException", .type "object"] = true) (qe2 : PySem.W.takerIn K Ce2 "value" = some none) (de2 : PySem.W.hasDictIn K Ce2 = true) (se2 : PySem.W.findIn K (.ref Ce2) "__setattr__" = some (some (.builtin "object.__setattr__"))) (ue2 : PySem.W.findIn K (.ref Ce2) "__getattribute__" = some (some (.builtin "BaseException.__getattribute__"))) (ve2 : PySem.W.findIn K (.ref Ce2) "__getattr__" = some none) (ne2 : PySem.W.findIn K (.ref Ce2) "value" = some none) (ie2 : PySem.W.findIn K (.ref Ce2) "__init__" = some (some (.ref fe2))) (ye2 : PySem.W.typeIn K (.ref fe2) = some (.type "function")) (ke2 : PySem.W.keepIn K (.ref Ce2) = true) (be2 : PySem.W.subIn K (.ref Ce2) (.type "BaseException") = some true) (we2 : PySem.W.typeIn K (.ref Ce2) = some (.type "type")) (xe2 : PySem.W.isClsIn K Ce2 = true) (re2 : PySem.W.subIn K (.ref Ce2) (.ref Ce2) = some true) (le2 : K.lookup fe2 = some ⟨oce2, ode2, .func (PySem.W.fnOf "__init__" "InvalidNumber.__init__" (defArgs s_InvalidNumber_init) (defBody s_InvalidNumber_init) (defScope s_InvalidNumber_init) .none kVe2 dce2 pme2 ane2 cde2 cte2), sle2⟩) (ce2 : PySem.W.codeIn K cde2 "InvalidNumber.__init__" = true) (pe2 : PySem.W.keepIn K (.ref fe2) = true)
    (gy0 : PySem.W.nsIn K mainGlobals "InvalidKinds" = some (some (.ref Cy0))) (hy0 : K.lookup Cy0 = some (excClassObj nmy0 qny0 Cy0 Ny0 bsy0 bmy0 hdy0 sny0 suby0 aby0 coly0 ddy0 k0y0 k1y0 k2y0 k3y0 k5y0 "ValueError.__new__")) (ty0 : PySem.W.excTail [.type "ValueError", .type "Exception", .type "BaseException", .type "object"] bmy0 = true) (iy0 : PySem.W.findIn K (.ref Cy0) "__init__" = some (some (.builtin "ValueError.__init__"))) (ky0 : PySem.W.keepIn K (.ref Cy0) = true) (by0 : PySem.W.subIn K (.ref Cy0) (.type "BaseException") = some true) (wy0 : PySem.W.typeIn K (.ref Cy0) = some (.type "type")) (xy0 : PySem.W.isClsIn K Cy0 = true) (ry0 : PySem.W.subIn K (.ref Cy0) (.ref Cy0) = some true) (zy0 : xclsB K Cy0 = true)
    (a0 : PySem.W.nsIn K mainGlobals "_wall" = some (some (.ref f0))) (l0 : K.lookup f0 = some ⟨oc0, od0, .func (PySem.W.fnOf "_wall" "_wall" (defArgs s_wall) (defBody s_wall) (defScope s_wall) .none kV0 dc0 pm0 an0 cd0 ct0), sl0⟩) (c0 : PySem.W.codeIn K cd0 "_wall" = true) (k0 : PySem.W.keepIn K (.ref f0) = true)
    (a1 : PySem.W.nsIn K mainGlobals "is_integer" = some (some (.ref f1))) (l1 : K.lookup f1 = some ⟨oc1, od1, .func (PySem.W.fnOf "is_integer" "is_integer" (defArgs s_is_integer) (defBody s_is_integer) (defScope s_is_integer) .none kV1 dc1 pm1 an1 cd1 ct1), sl1⟩) (c1 : PySem.W.codeIn K cd1 "is_integer" = true) (k1 : PySem.W.keepIn K (.ref f1) = true)
    (a2 : PySem.W.nsIn K mainGlobals "is_count" = some (some (.ref f2))) (l2 : K.lookup f2 = some ⟨oc2, od2, .func (PySem.W.fnOf "is_count" "is_count" (defArgs s_is_count) (defBody s_is_count) (defScope s_is_count) .none kV2 dc2 pm2 an2 cd2 ct2), sl2⟩) (c2 : PySem.W.codeIn K cd2 "is_count" = true) (k2 : PySem.W.keepIn K (.ref f2) = true)
    (a3 : PySem.W.nsIn K mainGlobals "is_name" = some (some (.ref f3))) (l3 : K.lookup f3 = some ⟨oc3, od3, .func (PySem.W.fnOf "is_name" "is_name" (defArgs s_is_name) (defBody s_is_name) (defScope s_is_name) .none kV3 dc3 pm3 an3 cd3 ct3), sl3⟩) (c3 : PySem.W.codeIn K cd3 "is_name" = true) (k3 : PySem.W.keepIn K (.ref f3) = true)
    (a4 : PySem.W.nsIn K mainGlobals "is_sorted" = some (some (.ref f4))) (l4 : K.lookup f4 = some ⟨oc4, od4, .func (PySem.W.fnOf "is_sorted" "is_sorted" (defArgs s_is_sorted) (defBody s_is_sorted) (defScope s_is_sorted) .none kV4 dc4 pm4 an4 cd4 ct4), sl4⟩) (c4 : PySem.W.codeIn K cd4 "is_sorted" = true) (k4 : PySem.W.keepIn K (.ref f4) = true)
    (a5 : PySem.W.nsIn K mainGlobals "words_of" = some (some (.ref f5))) (l5 : K.lookup f5 = some ⟨oc5, od5, .func (PySem.W.fnOf "words_of" "words_of" (defArgs s_words_of) (defBody s_words_of) (defScope s_words_of) .none kV5 dc5 pm5 an5 cd5 ct5), sl5⟩) (c5 : PySem.W.codeIn K cd5 "words_of" = true) (k5 : PySem.W.keepIn K (.ref f5) = true)
    (a6 : PySem.W.nsIn K mainGlobals "names_in" = some (some (.ref f6))) (l6 : K.lookup f6 = some ⟨oc6, od6, .func (PySem.W.fnOf "names_in" "names_in" (defArgs s_names_in) (defBody s_names_in) (defScope s_names_in) .none kV6 dc6 pm6 an6 cd6 ct6), sl6⟩) (c6 : PySem.W.codeIn K cd6 "names_in" = true) (k6 : PySem.W.keepIn K (.ref f6) = true)
    (a7 : PySem.W.nsIn K mainGlobals "text_of" = some (some (.ref f7))) (l7 : K.lookup f7 = some ⟨oc7, od7, .func (PySem.W.fnOf "text_of" "text_of" (defArgs s_text_of) (defBody s_text_of) (defScope s_text_of) .none kV7 dc7 pm7 an7 cd7 ct7), sl7⟩) (c7 : PySem.W.codeIn K cd7 "text_of" = true) (k7 : PySem.W.keepIn K (.ref f7) = true)
    (a8 : PySem.W.nsIn K mainGlobals "told_by" = some (some (.ref f8))) (l8 : K.lookup f8 = some ⟨oc8, od8, .func (PySem.W.fnOf "told_by" "told_by" (defArgs s_told_by) (defBody s_told_by) (defScope s_told_by) .none kV8 dc8 pm8 an8 cd8 ct8), sl8⟩) (c8 : PySem.W.codeIn K cd8 "told_by" = true) (k8 : PySem.W.keepIn K (.ref f8) = true)
    (a9 : PySem.W.nsIn K mainGlobals "_is_making" = some (some (.ref f9))) (l9 : K.lookup f9 = some ⟨oc9, od9, .func (PySem.W.fnOf "_is_making" "_is_making" (defArgs s_is_making) (defBody s_is_making) (defScope s_is_making) .none kV9 dc9 pm9 an9 cd9 ct9), sl9⟩) (c9 : PySem.W.codeIn K cd9 "_is_making" = true) (k9 : PySem.W.keepIn K (.ref f9) = true)
    (a10 : PySem.W.nsIn K mainGlobals "_all_names" = some (some (.ref f10))) (l10 : K.lookup f10 = some ⟨oc10, od10, .func (PySem.W.fnOf "_all_names" "_all_names" (defArgs s_all_names) (defBody s_all_names) (defScope s_all_names) .none kV10 dc10 pm10 an10 cd10 ct10), sl10⟩) (c10 : PySem.W.codeIn K cd10 "_all_names" = true) (k10 : PySem.W.keepIn K (.ref f10) = true)
    (a11 : PySem.W.nsIn K mainGlobals "_are_kinds" = some (some (.ref f11))) (l11 : K.lookup f11 = some ⟨oc11, od11, .func (PySem.W.fnOf "_are_kinds" "_are_kinds" (defArgs s_are_kinds) (defBody s_are_kinds) (defScope s_are_kinds) .none kV11 dc11 pm11 an11 cd11 ct11), sl11⟩) (c11 : PySem.W.codeIn K cd11 "_are_kinds" = true) (k11 : PySem.W.keepIn K (.ref f11) = true)
    (a12 : PySem.W.nsIn K mainGlobals "_leaf_in" = some (some (.ref f12))) (l12 : K.lookup f12 = some ⟨oc12, od12, .func (PySem.W.fnOf "_leaf_in" "_leaf_in" (defArgs s_leaf_in) (defBody s_leaf_in) (defScope s_leaf_in) .none kV12 dc12 pm12 an12 cd12 ct12), sl12⟩) (c12 : PySem.W.codeIn K cd12 "_leaf_in" = true) (k12 : PySem.W.keepIn K (.ref f12) = true)
    (a13 : PySem.W.nsIn K mainGlobals "_making_in" = some (some (.ref f13))) (l13 : K.lookup f13 = some ⟨oc13, od13, .func (PySem.W.fnOf "_making_in" "_making_in" (defArgs s_making_in) (defBody s_making_in) (defScope s_making_in) .none kV13 dc13 pm13 an13 cd13 ct13), sl13⟩) (c13 : PySem.W.codeIn K cd13 "_making_in" = true) (k13 : PySem.W.keepIn K (.ref f13) = true)
    (a14 : PySem.W.nsIn K mainGlobals "kinds_line" = some (some (.ref f14))) (l14 : K.lookup f14 = some ⟨oc14, od14, .func (PySem.W.fnOf "kinds_line" "kinds_line" (defArgs s_kinds_line) (defBody s_kinds_line) (defScope s_kinds_line) .none kV14 dc14 pm14 an14 cd14 ct14), sl14⟩) (c14 : PySem.W.codeIn K cd14 "kinds_line" = true) (k14 : PySem.W.keepIn K (.ref f14) = true)
    (a15 : PySem.W.nsIn K mainGlobals "_law_dice" = some (some (.ref f15))) (l15 : K.lookup f15 = some ⟨oc15, od15, .func (PySem.W.fnOf "_law_dice" "_law_dice" (defArgs s_law_dice) (defBody s_law_dice) (defScope s_law_dice) .none kV15 dc15 pm15 an15 cd15 ct15), sl15⟩) (c15 : PySem.W.codeIn K cd15 "_law_dice" = true) (k15 : PySem.W.keepIn K (.ref f15) = true)
    (a16 : PySem.W.nsIn K mainGlobals "_law_roll" = some (some (.ref f16))) (l16 : K.lookup f16 = some ⟨oc16, od16, .func (PySem.W.fnOf "_law_roll" "_law_roll" (defArgs s_law_roll) (defBody s_law_roll) (defScope s_law_roll) .none kV16 dc16 pm16 an16 cd16 ct16), sl16⟩) (c16 : PySem.W.codeIn K cd16 "_law_roll" = true) (k16 : PySem.W.keepIn K (.ref f16) = true)
    (a17 : PySem.W.nsIn K mainGlobals "_law_pick" = some (some (.ref f17))) (l17 : K.lookup f17 = some ⟨oc17, od17, .func (PySem.W.fnOf "_law_pick" "_law_pick" (defArgs s_law_pick) (defBody s_law_pick) (defScope s_law_pick) .none kV17 dc17 pm17 an17 cd17 ct17), sl17⟩) (c17 : PySem.W.codeIn K cd17 "_law_pick" = true) (k17 : PySem.W.keepIn K (.ref f17) = true)
    (a18 : PySem.W.nsIn K mainGlobals "_law_mixed" = some (some (.ref f18))) (l18 : K.lookup f18 = some ⟨oc18, od18, .func (PySem.W.fnOf "_law_mixed" "_law_mixed" (defArgs s_law_mixed) (defBody s_law_mixed) (defScope s_law_mixed) .none kV18 dc18 pm18 an18 cd18 ct18), sl18⟩) (c18 : PySem.W.codeIn K cd18 "_law_mixed" = true) (k18 : PySem.W.keepIn K (.ref f18) = true)
    (a19 : PySem.W.nsIn K mainGlobals "_law_kinds" = some (some (.ref f19))) (l19 : K.lookup f19 = some ⟨oc19, od19, .func (PySem.W.fnOf "_law_kinds" "_law_kinds" (defArgs s_law_kinds) (defBody s_law_kinds) (defScope s_law_kinds) .none kV19 dc19 pm19 an19 cd19 ct19), sl19⟩) (c19 : PySem.W.codeIn K cd19 "_law_kinds" = true) (k19 : PySem.W.keepIn K (.ref f19) = true)
    (a20 : PySem.W.nsIn K mainGlobals "_law_asked" = some (some (.ref f20))) (l20 : K.lookup f20 = some ⟨oc20, od20, .func (PySem.W.fnOf "_law_asked" "_law_asked" (defArgs s_law_asked) (defBody s_law_asked) (defScope s_law_asked) .none kV20 dc20 pm20 an20 cd20 ct20), sl20⟩) (c20 : PySem.W.codeIn K cd20 "_law_asked" = true) (k20 : PySem.W.keepIn K (.ref f20) = true)
    (a21 : PySem.W.nsIn K mainGlobals "_law_told" = some (some (.ref f21))) (l21 : K.lookup f21 = some ⟨oc21, od21, .func (PySem.W.fnOf "_law_told" "_law_told" (defArgs s_law_told) (defBody s_law_told) (defScope s_law_told) .none kV21 dc21 pm21 an21 cd21 ct21), sl21⟩) (c21 : PySem.W.codeIn K cd21 "_law_told" = true) (k21 : PySem.W.keepIn K (.ref f21) = true)
    (a22 : PySem.W.nsIn K mainGlobals "_law_is_name" = some (some (.ref f22))) (l22 : K.lookup f22 = some ⟨oc22, od22, .func (PySem.W.fnOf "_law_is_name" "_law_is_name" (defArgs s_law_is_name) (defBody s_law_is_name) (defScope s_law_is_name) .none kV22 dc22 pm22 an22 cd22 ct22), sl22⟩) (c22 : PySem.W.codeIn K cd22 "_law_is_name" = true) (k22 : PySem.W.keepIn K (.ref f22) = true)
    (a23 : PySem.W.nsIn K mainGlobals "_law_making" = some (some (.ref f23))) (l23 : K.lookup f23 = some ⟨oc23, od23, .func (PySem.W.fnOf "_law_making" "_law_making" (defArgs s_law_making) (defBody s_law_making) (defScope s_law_making) .none kV23 dc23 pm23 an23 cd23 ct23), sl23⟩) (c23 : PySem.W.codeIn K cd23 "_law_making" = true) (k23 : PySem.W.keepIn K (.ref f23) = true)
    (a24 : PySem.W.nsIn K mainGlobals "_law_read" = some (some (.ref f24))) (l24 : K.lookup f24 = some ⟨oc24, od24, .func (PySem.W.fnOf "_law_read" "_law_read" (defArgs s_law_read) (defBody s_law_read) (defScope s_law_read) .none kV24 dc24 pm24 an24 cd24 ct24), sl24⟩) (c24 : PySem.W.codeIn K cd24 "_law_read" = true) (k24 : PySem.W.keepIn K (.ref f24) = true)
    (a25 : PySem.W.nsIn K mainGlobals "_law_other_line" = some (some (.ref f25))) (l25 : K.lookup f25 = some ⟨oc25, od25, .func (PySem.W.fnOf "_law_other_line" "_law_other_line" (defArgs s_law_other_line) (defBody s_law_other_line) (defScope s_law_other_line) .none kV25 dc25 pm25 an25 cd25 ct25), sl25⟩) (c25 : PySem.W.codeIn K cd25 "_law_other_line" = true) (k25 : PySem.W.keepIn K (.ref f25) = true)
    (a26 : PySem.W.nsIn K mainGlobals "_law_bent" = some (some (.ref f26))) (l26 : K.lookup f26 = some ⟨oc26, od26, .func (PySem.W.fnOf "_law_bent" "_law_bent" (defArgs s_law_bent) (defBody s_law_bent) (defScope s_law_bent) .none kV26 dc26 pm26 an26 cd26 ct26), sl26⟩) (c26 : PySem.W.codeIn K cd26 "_law_bent" = true) (k26 : PySem.W.keepIn K (.ref f26) = true)
    (a27 : PySem.W.nsIn K mainGlobals "_law_is_due" = some (some (.ref f27))) (l27 : K.lookup f27 = some ⟨oc27, od27, .func (PySem.W.fnOf "_law_is_due" "_law_is_due" (defArgs s_law_is_due) (defBody s_law_is_due) (defScope s_law_is_due) .none kV27 dc27 pm27 an27 cd27 ct27), sl27⟩) (c27 : PySem.W.codeIn K cd27 "_law_is_due" = true) (k27 : PySem.W.keepIn K (.ref f27) = true)
    (a28 : PySem.W.nsIn K mainGlobals "_law_right" = some (some (.ref f28))) (l28 : K.lookup f28 = some ⟨oc28, od28, .func (PySem.W.fnOf "_law_right" "_law_right" (defArgs s_law_right) (defBody s_law_right) (defScope s_law_right) .none kV28 dc28 pm28 an28 cd28 ct28), sl28⟩) (c28 : PySem.W.codeIn K cd28 "_law_right" = true) (k28 : PySem.W.keepIn K (.ref f28) = true)
    (a29 : PySem.W.nsIn K mainGlobals "law" = some (some (.ref f29))) (l29 : K.lookup f29 = some ⟨oc29, od29, .func (PySem.W.fnOf "law" "law" (defArgs s_law) (defBody s_law) (defScope s_law) .none kV29 dc29 pm29 an29 cd29 ct29), sl29⟩) (c29 : PySem.W.codeIn K cd29 "law" = true) (k29 : PySem.W.keepIn K (.ref f29) = true)
    (goKinds : PySem.W.nsIn K mainGlobals "Kinds" = some (some (.ref CoKinds)))
    (pgoKinds : PySem.W.plainGet K CoKinds Str.empty = true)
    (hdoKinds : PySem.W.hasDictIn K CoKinds = true)
    (pooKinds : PySem.W.plainOver K CoKinds = true)
    (saoKinds : PySem.W.findIn K (.ref CoKinds) "__setattr__" = some (some (.builtin "object.__setattr__")))
    (mkoKinds : PySem.W.makesIn K CoKinds = true)
    (kcoKinds : PySem.W.keepIn K (.ref CoKinds) = true)
    (neoKinds : PySem.W.findIn K (.ref CoKinds) "__ne__" = some (some (.builtin "object.__ne__")))
    (oboKinds : PySem.W.mroIn K CoKinds (.type "object") = some true)
    (kioKinds : PySem.W.kitOne K (.ref CoKinds) (.ref CoKinds) = some true)
    (ktoKinds : PySem.W.kitOne K (.type "tuple") (.ref CoKinds) = some false)
    (kdoKinds : PySem.W.kitOne K (.type "dict") (.ref CoKinds) = some false)
    (kroKinds : PySem.W.kitOne K (.ref CoKinds) (.type "tuple") = some false)
    (ksoKinds : PySem.W.kitOne K (.ref CoKinds) (.type "str") = some false)
    (kNoneTypeoKinds : PySem.W.kitOne K (.type "NoneType") (.ref CoKinds) = some false)
    (kintoKinds : PySem.W.kitOne K (.type "int") (.ref CoKinds) = some false)
    (kbooloKinds : PySem.W.kitOne K (.type "bool") (.ref CoKinds) = some false)
    (kstroKinds : PySem.W.kitOne K (.type "str") (.ref CoKinds) = some false)
    (klistoKinds : PySem.W.kitOne K (.type "list") (.ref CoKinds) = some false)
    (caoKinds : PySem.W.findIn K (.ref CoKinds) "__class__" = some (some (.builtin "object.__class__")))
    (cgoKinds : PySem.W.specialIn K (.builtin "object.__class__") "__get__" = some (some (.builtin "getset_descriptor.__get__")))
    (ctoKinds : PySem.W.takesIn K (.builtin "object.__class__") = some true)
    (n_leafoKinds : PySem.W.findIn K (.ref CoKinds) "_leaf" = some none)
    (n_makingsoKinds : PySem.W.findIn K (.ref CoKinds) "_makings" = some none)
    (n_namesoKinds : PySem.W.findIn K (.ref CoKinds) "_names" = some none)
    (atM0Kinds : PySem.W.findIn K (.ref CoKinds) "__init__" = some (some (.ref fM0Kinds)))
    (ifM0Kinds : PySem.W.isFn K (.ref fM0Kinds) = true)
    (lM0Kinds : K.lookup fM0Kinds = some ⟨ocM0Kinds, odM0Kinds, .func (PySem.W.fnOf "__init__" "Kinds.__init__" (defArgs s_Kinds_init) (defBody s_Kinds_init) (defScope s_Kinds_init) .none kVM0Kinds dcM0Kinds pmM0Kinds anM0Kinds cdM0Kinds ctM0Kinds), slM0Kinds⟩)
    (cM0Kinds : PySem.W.codeIn K cdM0Kinds "Kinds.__init__" = true)
    (kM0Kinds : PySem.W.keepIn K (.ref fM0Kinds) = true)
    (atM2Kinds : PySem.W.findIn K (.ref CoKinds) "leaf" = some (some (.ref qM2Kinds)))
    (geM2Kinds : PySem.W.specialIn K (.ref qM2Kinds) "__get__" = some (some (.builtin "property.__get__")))
    (taM2Kinds : PySem.W.takesIn K (.ref qM2Kinds) = some true)
    (reM2Kinds : PySem.W.recIn K qM2Kinds "property" = some (.ref fM2Kinds :: rsM2Kinds))
    (lM2Kinds : K.lookup fM2Kinds = some ⟨ocM2Kinds, odM2Kinds, .func (PySem.W.fnOf "leaf" "Kinds.leaf" (defArgs s_Kinds_leaf) (defBody s_Kinds_leaf) (defScope s_Kinds_leaf) .none kVM2Kinds dcM2Kinds pmM2Kinds anM2Kinds cdM2Kinds ctM2Kinds), slM2Kinds⟩)
    (cM2Kinds : PySem.W.codeIn K cdM2Kinds "Kinds.leaf" = true)
    (kM2Kinds : PySem.W.keepIn K (.ref fM2Kinds) = true)
    (atM3Kinds : PySem.W.findIn K (.ref CoKinds) "makings" = some (some (.ref qM3Kinds)))
    (geM3Kinds : PySem.W.specialIn K (.ref qM3Kinds) "__get__" = some (some (.builtin "property.__get__")))
    (taM3Kinds : PySem.W.takesIn K (.ref qM3Kinds) = some true)
    (reM3Kinds : PySem.W.recIn K qM3Kinds "property" = some (.ref fM3Kinds :: rsM3Kinds))
    (lM3Kinds : K.lookup fM3Kinds = some ⟨ocM3Kinds, odM3Kinds, .func (PySem.W.fnOf "makings" "Kinds.makings" (defArgs s_Kinds_makings) (defBody s_Kinds_makings) (defScope s_Kinds_makings) .none kVM3Kinds dcM3Kinds pmM3Kinds anM3Kinds cdM3Kinds ctM3Kinds), slM3Kinds⟩)
    (cM3Kinds : PySem.W.codeIn K cdM3Kinds "Kinds.makings" = true)
    (kM3Kinds : PySem.W.keepIn K (.ref fM3Kinds) = true)
    (atM4Kinds : PySem.W.findIn K (.ref CoKinds) "names" = some (some (.ref qM4Kinds)))
    (geM4Kinds : PySem.W.specialIn K (.ref qM4Kinds) "__get__" = some (some (.builtin "property.__get__")))
    (taM4Kinds : PySem.W.takesIn K (.ref qM4Kinds) = some true)
    (reM4Kinds : PySem.W.recIn K qM4Kinds "property" = some (.ref fM4Kinds :: rsM4Kinds))
    (lM4Kinds : K.lookup fM4Kinds = some ⟨ocM4Kinds, odM4Kinds, .func (PySem.W.fnOf "names" "Kinds.names" (defArgs s_Kinds_names) (defBody s_Kinds_names) (defScope s_Kinds_names) .none kVM4Kinds dcM4Kinds pmM4Kinds anM4Kinds cdM4Kinds ctM4Kinds), slM4Kinds⟩)
    (cM4Kinds : PySem.W.codeIn K cdM4Kinds "Kinds.names" = true)
    (kM4Kinds : PySem.W.keepIn K (.ref fM4Kinds) = true)
    (atM5Kinds : PySem.W.findIn K (.ref CoKinds) "lines" = some (some (.ref qM5Kinds)))
    (geM5Kinds : PySem.W.specialIn K (.ref qM5Kinds) "__get__" = some (some (.builtin "property.__get__")))
    (taM5Kinds : PySem.W.takesIn K (.ref qM5Kinds) = some true)
    (reM5Kinds : PySem.W.recIn K qM5Kinds "property" = some (.ref fM5Kinds :: rsM5Kinds))
    (lM5Kinds : K.lookup fM5Kinds = some ⟨ocM5Kinds, odM5Kinds, .func (PySem.W.fnOf "lines" "Kinds.lines" (defArgs s_Kinds_lines) (defBody s_Kinds_lines) (defScope s_Kinds_lines) .none kVM5Kinds dcM5Kinds pmM5Kinds anM5Kinds cdM5Kinds ctM5Kinds), slM5Kinds⟩)
    (cM5Kinds : PySem.W.codeIn K cdM5Kinds "Kinds.lines" = true)
    (kM5Kinds : PySem.W.keepIn K (.ref fM5Kinds) = true)
    (atM9Kinds : PySem.W.findIn K (.ref CoKinds) "__contains__" = some (some (.ref fM9Kinds)))
    (ifM9Kinds : PySem.W.isFn K (.ref fM9Kinds) = true)
    (lM9Kinds : K.lookup fM9Kinds = some ⟨ocM9Kinds, odM9Kinds, .func (PySem.W.fnOf "__contains__" "Kinds.__contains__" (defArgs s_Kinds_contains) (defBody s_Kinds_contains) (defScope s_Kinds_contains) .none kVM9Kinds dcM9Kinds pmM9Kinds anM9Kinds cdM9Kinds ctM9Kinds), slM9Kinds⟩)
    (cM9Kinds : PySem.W.codeIn K cdM9Kinds "Kinds.__contains__" = true)
    (kM9Kinds : PySem.W.keepIn K (.ref fM9Kinds) = true)
    (atM10Kinds : PySem.W.findIn K (.ref CoKinds) "__getitem__" = some (some (.ref fM10Kinds)))
    (ifM10Kinds : PySem.W.isFn K (.ref fM10Kinds) = true)
    (lM10Kinds : K.lookup fM10Kinds = some ⟨ocM10Kinds, odM10Kinds, .func (PySem.W.fnOf "__getitem__" "Kinds.__getitem__" (defArgs s_Kinds_getitem) (defBody s_Kinds_getitem) (defScope s_Kinds_getitem) .none kVM10Kinds dcM10Kinds pmM10Kinds anM10Kinds cdM10Kinds ctM10Kinds), slM10Kinds⟩)
    (cM10Kinds : PySem.W.codeIn K cdM10Kinds "Kinds.__getitem__" = true)
    (kM10Kinds : PySem.W.keepIn K (.ref fM10Kinds) = true)
    (atM12Kinds : PySem.W.findIn K (.ref CoKinds) "__len__" = some (some (.ref fM12Kinds)))
    (ifM12Kinds : PySem.W.isFn K (.ref fM12Kinds) = true)
    (lM12Kinds : K.lookup fM12Kinds = some ⟨ocM12Kinds, odM12Kinds, .func (PySem.W.fnOf "__len__" "Kinds.__len__" (defArgs s_Kinds_len) (defBody s_Kinds_len) (defScope s_Kinds_len) .none kVM12Kinds dcM12Kinds pmM12Kinds anM12Kinds cdM12Kinds ctM12Kinds), slM12Kinds⟩)
    (cM12Kinds : PySem.W.codeIn K cdM12Kinds "Kinds.__len__" = true)
    (kM12Kinds : PySem.W.keepIn K (.ref fM12Kinds) = true)
    (atM13Kinds : PySem.W.findIn K (.ref CoKinds) "__eq__" = some (some (.ref fM13Kinds)))
    (ifM13Kinds : PySem.W.isFn K (.ref fM13Kinds) = true)
    (lM13Kinds : K.lookup fM13Kinds = some ⟨ocM13Kinds, odM13Kinds, .func (PySem.W.fnOf "__eq__" "Kinds.__eq__" (defArgs s_Kinds_eq) (defBody s_Kinds_eq) (defScope s_Kinds_eq) .none kVM13Kinds dcM13Kinds pmM13Kinds anM13Kinds cdM13Kinds ctM13Kinds), slM13Kinds⟩)
    (cM13Kinds : PySem.W.codeIn K cdM13Kinds "Kinds.__eq__" = true)
    (kM13Kinds : PySem.W.keepIn K (.ref fM13Kinds) = true)
    (atM14Kinds : PySem.W.findIn K (.ref CoKinds) "__str__" = some (some (.ref fM14Kinds)))
    (ifM14Kinds : PySem.W.isFn K (.ref fM14Kinds) = true)
    (lM14Kinds : K.lookup fM14Kinds = some ⟨ocM14Kinds, odM14Kinds, .func (PySem.W.fnOf "__str__" "Kinds.__str__" (defArgs s_Kinds_str) (defBody s_Kinds_str) (defScope s_Kinds_str) .none kVM14Kinds dcM14Kinds pmM14Kinds anM14Kinds cdM14Kinds ctM14Kinds), slM14Kinds⟩)
    (cM14Kinds : PySem.W.codeIn K cdM14Kinds "Kinds.__str__" = true)
    (kM14Kinds : PySem.W.keepIn K (.ref fM14Kinds) = true)
    (rdQ1Kinds : PySem.W.readsIn K CoKinds (.type "type") = true)
    (gaQ1Kinds : PySem.W.specialIn K (.ref CoKinds) "__getattribute__" = some (some (.builtin "type.__getattribute__")))
    (atQ1Kinds : PySem.W.findCls K (.ref CoKinds) (.type "type") "from_lines" = some (.get (.builtin "classmethod.__get__") (.ref qQ1Kinds) .none (.ref CoKinds)))
    (reQ1Kinds : PySem.W.recIn K qQ1Kinds "classmethod" = some (.ref fQ1Kinds :: rsQ1Kinds))
    (lQ1Kinds : K.lookup fQ1Kinds = some ⟨ocQ1Kinds, odQ1Kinds, .func (PySem.W.fnOf "from_lines" "Kinds.from_lines" (defArgs s_Kinds_from_lines) (defBody s_Kinds_from_lines) (defScope s_Kinds_from_lines) .none kVQ1Kinds dcQ1Kinds pmQ1Kinds anQ1Kinds cdQ1Kinds ctQ1Kinds), slQ1Kinds⟩)
    (cQ1Kinds : PySem.W.codeIn K cdQ1Kinds "Kinds.from_lines" = true)
    (kQ1Kinds : PySem.W.keepIn K (.ref fQ1Kinds) = true)
    (m0 : PySem.W.nsIn K mainGlobals "MAX_LETTERS" = some (some (.int 8 t0)))
    (m1 : PySem.W.nsIn K mainGlobals "_TOO_LONG" = some (some (.int 1000000000000000000000000000000000000000000000000000000000000 t1)))
    (m2 : PySem.W.nsIn K mainGlobals "MAX_KINDS" = some (some (.int 6 t2)))
    (m3 : PySem.W.nsIn K mainGlobals "MAX_PARTS" = some (some (.int 3 t3)))
    (z0 : PySem.W.nsIn K mainGlobals "IndexError" = some none)
    (z1 : PySem.W.nsIn K mainGlobals "KeyError" = some none)
    (z2 : PySem.W.nsIn K mainGlobals "TypeError" = some none)
    (z3 : PySem.W.nsIn K mainGlobals "ValueError" = some none)
    (z4 : PySem.W.nsIn K mainGlobals "abs" = some none)
    (z5 : PySem.W.nsIn K mainGlobals "all" = some none)
    (z6 : PySem.W.nsIn K mainGlobals "bool" = some none)
    (z7 : PySem.W.nsIn K mainGlobals "classmethod" = some none)
    (z8 : PySem.W.nsIn K mainGlobals "dict" = some none)
    (z9 : PySem.W.nsIn K mainGlobals "enumerate" = some none)
    (z10 : PySem.W.nsIn K mainGlobals "int" = some none)
    (z11 : PySem.W.nsIn K mainGlobals "isinstance" = some none)
    (z12 : PySem.W.nsIn K mainGlobals "len" = some none)
    (z13 : PySem.W.nsIn K mainGlobals "list" = some none)
    (z14 : PySem.W.nsIn K mainGlobals "max" = some none)
    (z15 : PySem.W.nsIn K mainGlobals "min" = some none)
    (z16 : PySem.W.nsIn K mainGlobals "property" = some none)
    (z17 : PySem.W.nsIn K mainGlobals "range" = some none)
    (z18 : PySem.W.nsIn K mainGlobals "repr" = some none)
    (z19 : PySem.W.nsIn K mainGlobals "set" = some none)
    (z20 : PySem.W.nsIn K mainGlobals "sorted" = some none)
    (z21 : PySem.W.nsIn K mainGlobals "str" = some none)
    (z22 : PySem.W.nsIn K mainGlobals "tuple" = some none)
    (tc0 : cd20 = .ref cT0) (tl0 : K.lookup cT0 = some ⟨ucT0, odT0, .fields vsT0, slT0⟩) (tp0 : vsT0[11]? = some (.ref PT0)) (tn0 : K.lookup PT0 = none) (tr0 : (recsOf q).find? (fun r => r.name == ("_law_asked" : Str)) = some eT0)
    (tdd : ([PT0] : List Addr).Nodup)
    (nc0 : PySem.W.subIn K (.ref Cy0) (.ref Ce0) = some false) :
    ∃ (fd : FuncData) (cs : List (Addr × Addr)) (sp : Sp), (∀ c ∈ cs, (∃ (y : Str) (e : DefRec), (recsOf q).find? (fun r => r.name == y) = some e ∧ PySem.W.tabIn K y = some c) ∧ K.lookup c.2 = none) ∧ (∀ (s : Shared) (u : Value), BindsTo s fd ⟨[u], []⟩ [("_law_script", u)]) ∧ (∀ (H : Hp) (a : Addr) (ns : List Int), ns.length ≤ 63 → (∀ c ∈ cs, H c.2 = some (.tbl #[])) → SqL K H a (ns.map V.int) → sp [.ref a] H (fun v _ => v = .bl true) fun _ _ _ => False) ∧ ∀ base : Heap, K.In base → base.Ns mainGlobals mg → (∀ c ∈ cs, LamX.TabB base mg c.1 c.2) → FnG l.prog w K mg base CX0 40 fa fd ["_law_script"] sp := by
  have e := hfa.symm.trans (PySem.W.mg_of X G a29)
  cases e
  have T : Top K mg := {
    x_ParseError := ⟨Ce0, fe0, _, ⟨PySem.W.mg_of X G ge0, ⟨_, _, _, _, _, _, _, _, _, _, _, _, _, _, _, he0, te0⟩, oe0, qe0, de0, se0, ue0, ve0, ne0, ie0, ye0, ke0, be0, we0, exm_own be0 xe0 we0 re0⟩, fun_mk le0 ce0 pe0⟩
    x_UnknownName := ⟨Ce1, fe1, _, ⟨PySem.W.mg_of X G ge1, ⟨_, _, _, _, _, _, _, _, _, _, _, _, _, _, _, he1, te1⟩, oe1, qe1, de1, se1, ue1, ve1, ne1, ie1, ye1, ke1, be1, we1, exm_own be1 xe1 we1 re1⟩, fun_mk le1 ce1 pe1⟩
    x_InvalidNumber := ⟨Ce2, fe2, _, ⟨PySem.W.mg_of X G ge2, ⟨_, _, _, _, _, _, _, _, _, _, _, _, _, _, _, he2, te2⟩, oe2, qe2, de2, se2, ue2, ve2, ne2, ie2, ye2, ke2, be2, we2, exm_own be2 xe2 we2 re2⟩, fun_mk le2 ce2 pe2⟩
    p_InvalidKinds := ⟨Cy0, ⟨PySem.W.mg_of X G gy0, ⟨_, _, _, _, _, _, _, _, _, _, _, _, _, _, _, _, hy0, ty0⟩, iy0, ky0⟩, xclsB_ok zy0, exm_own by0 xy0 wy0 ry0⟩
    d_wall := ⟨_, _, fun_mk l0 c0 k0, (fun_mk (st := s_wall) l0 c0 k0).binds (ps := ["k"]) fun _ _ _ _ _ _ us hl => match us, hl with | [_], _ => rfl, PySem.W.mg_of X G a0⟩
    d_is_integer := ⟨_, _, fun_mk l1 c1 k1, (fun_mk (st := s_is_integer) l1 c1 k1).binds (ps := ["value"]) fun _ _ _ _ _ _ us hl => match us, hl with | [_], _ => rfl, PySem.W.mg_of X G a1⟩
    d_is_count := ⟨_, _, fun_mk l2 c2 k2, (fun_mk (st := s_is_count) l2 c2 k2).binds (ps := ["value"]) fun _ _ _ _ _ _ us hl => match us, hl with | [_], _ => rfl, PySem.W.mg_of X G a2⟩
    d_is_name := ⟨_, _, fun_mk l3 c3 k3, (fun_mk (st := s_is_name) l3 c3 k3).binds (ps := ["value"]) fun _ _ _ _ _ _ us hl => match us, hl with | [_], _ => rfl, PySem.W.mg_of X G a3⟩
    d_is_sorted := ⟨_, _, fun_mk l4 c4 k4, kbn_of fun us ws h1 h2 => match us, ws, h1, h2 with | [_], [_], _, _ => by first | rfl | with_unfolding_all rfl, PySem.W.mg_of X G a4⟩
    d_words_of := ⟨_, _, fun_mk l5 c5 k5, (fun_mk (st := s_words_of) l5 c5 k5).binds (ps := ["line"]) fun _ _ _ _ _ _ us hl => match us, hl with | [_], _ => rfl, PySem.W.mg_of X G a5⟩
    d_names_in := ⟨_, _, fun_mk l6 c6 k6, kbn_of fun us ws h1 h2 => match us, ws, h1, h2 with | [_], [_], _, _ => by first | rfl | with_unfolding_all rfl, PySem.W.mg_of X G a6⟩
    d_text_of := ⟨_, _, fun_mk l7 c7 k7, (fun_mk (st := s_text_of) l7 c7 k7).binds (ps := ["names"]) fun _ _ _ _ _ _ us hl => match us, hl with | [_], _ => rfl, PySem.W.mg_of X G a7⟩
    d_told_by := ⟨_, _, fun_mk l8 c8 k8, (fun_mk (st := s_told_by) l8 c8 k8).binds (ps := ["lines", "tell"]) fun _ _ _ _ _ _ us hl => match us, hl with | [_, _], _ => rfl, PySem.W.mg_of X G a8⟩
    d_is_making := ⟨_, _, fun_mk l9 c9 k9, (fun_mk (st := s_is_making) l9 c9 k9).binds (ps := ["value"]) fun _ _ _ _ _ _ us hl => match us, hl with | [_], _ => rfl, PySem.W.mg_of X G a9⟩
    d_all_names := ⟨_, _, fun_mk l10 c10 k10, (fun_mk (st := s_all_names) l10 c10 k10).binds (ps := ["leaf", "makings"]) fun _ _ _ _ _ _ us hl => match us, hl with | [_, _], _ => rfl, PySem.W.mg_of X G a10⟩
    d_are_kinds := ⟨_, _, fun_mk l11 c11 k11, (fun_mk (st := s_are_kinds) l11 c11 k11).binds (ps := ["leaf", "makings"]) fun _ _ _ _ _ _ us hl => match us, hl with | [_, _], _ => rfl, PySem.W.mg_of X G a11⟩
    d_leaf_in := ⟨_, _, fun_mk l12 c12 k12, (fun_mk (st := s_leaf_in) l12 c12 k12).binds (ps := ["line"]) fun _ _ _ _ _ _ us hl => match us, hl with | [_], _ => rfl, PySem.W.mg_of X G a12⟩
    d_making_in := ⟨_, _, fun_mk l13 c13 k13, (fun_mk (st := s_making_in) l13 c13 k13).binds (ps := ["line"]) fun _ _ _ _ _ _ us hl => match us, hl with | [_], _ => rfl, PySem.W.mg_of X G a13⟩
    d_kinds_line := ⟨_, _, fun_mk l14 c14 k14, (fun_mk (st := s_kinds_line) l14 c14 k14).binds (ps := ["line"]) fun _ _ _ _ _ _ us hl => match us, hl with | [_], _ => rfl, PySem.W.mg_of X G a14⟩
    d_law_dice := ⟨_, _, fun_mk l15 c15 k15, (fun_mk (st := s_law_dice) l15 c15 k15).binds (ps := ["_law_script", "_law_spot"]) fun _ _ _ _ _ _ us hl => match us, hl with | [_, _], _ => rfl, PySem.W.mg_of X G a15⟩
    d_law_roll := ⟨_, _, fun_mk l16 c16 k16, (fun_mk (st := s_law_roll) l16 c16 k16).binds (ps := ["_law_dice_here", "_law_total"]) fun _ _ _ _ _ _ us hl => match us, hl with | [_, _], _ => rfl, PySem.W.mg_of X G a16⟩
    d_law_pick := ⟨_, _, fun_mk l17 c17 k17, (fun_mk (st := s_law_pick) l17 c17 k17).binds (ps := ["_law_dice_here", "_law_items"]) fun _ _ _ _ _ _ us hl => match us, hl with | [_, _], _ => rfl, PySem.W.mg_of X G a17⟩
    d_law_mixed := ⟨_, _, fun_mk l18 c18 k18, (fun_mk (st := s_law_mixed) l18 c18 k18).binds (ps := ["_law_dice_here", "_law_items"]) fun _ _ _ _ _ _ us hl => match us, hl with | [_, _], _ => rfl, PySem.W.mg_of X G a18⟩
    d_law_kinds := ⟨_, _, fun_mk l19 c19 k19, (fun_mk (st := s_law_kinds) l19 c19 k19).binds (ps := ["_law_dice_here", "_law_most"]) fun _ _ _ _ _ _ us hl => match us, hl with | [_, _], _ => rfl, PySem.W.mg_of X G a19⟩
    d_law_asked := ⟨_, _, fun_mk l20 c20 k20, (fun_mk (st := s_law_asked) l20 c20 k20).binds (ps := ["_law_lines"]) fun _ _ _ _ _ _ us hl => match us, hl with | [_], _ => rfl, PySem.W.mg_of X G a20⟩
    d_law_told := ⟨_, _, fun_mk l21 c21 k21, (fun_mk (st := s_law_told) l21 c21 k21).binds (ps := ["_law_lines"]) fun _ _ _ _ _ _ us hl => match us, hl with | [_], _ => rfl, PySem.W.mg_of X G a21⟩
    d_law_is_name := ⟨_, _, fun_mk l22 c22 k22, (fun_mk (st := s_law_is_name) l22 c22 k22).binds (ps := ["_law_word"]) fun _ _ _ _ _ _ us hl => match us, hl with | [_], _ => rfl, PySem.W.mg_of X G a22⟩
    d_law_making := ⟨_, _, fun_mk l23 c23 k23, (fun_mk (st := s_law_making) l23 c23 k23).binds (ps := ["_law_word"]) fun _ _ _ _ _ _ us hl => match us, hl with | [_], _ => rfl, PySem.W.mg_of X G a23⟩
    d_law_read := ⟨_, _, fun_mk l24 c24 k24, (fun_mk (st := s_law_read) l24 c24 k24).binds (ps := ["_law_lines"]) fun _ _ _ _ _ _ us hl => match us, hl with | [_], _ => rfl, PySem.W.mg_of X G a24⟩
    d_law_other_line := ⟨_, _, fun_mk l25 c25 k25, (fun_mk (st := s_law_other_line) l25 c25 k25).binds (ps := ["_law_dice_here", "_law_line"]) fun _ _ _ _ _ _ us hl => match us, hl with | [_, _], _ => rfl, PySem.W.mg_of X G a25⟩
    d_law_bent := ⟨_, _, fun_mk l26 c26 k26, (fun_mk (st := s_law_bent) l26 c26 k26).binds (ps := ["_law_dice_here", "_law_lines"]) fun _ _ _ _ _ _ us hl => match us, hl with | [_, _], _ => rfl, PySem.W.mg_of X G a26⟩
    d_law_is_due := ⟨_, _, fun_mk l27 c27 k27, (fun_mk (st := s_law_is_due) l27 c27 k27).binds (ps := ["_law_told_here", "_law_due"]) fun _ _ _ _ _ _ us hl => match us, hl with | [_, _], _ => rfl, PySem.W.mg_of X G a27⟩
    d_law_right := ⟨_, _, fun_mk l28 c28 k28, (fun_mk (st := s_law_right) l28 c28 k28).binds (ps := ["_law_dice_here"]) fun _ _ _ _ _ _ us hl => match us, hl with | [_], _ => rfl, PySem.W.mg_of X G a28⟩
    c_Kinds := ⟨CoKinds, { gC := PySem.W.mg_of X G goKinds, cl := ⟨pgoKinds, hdoKinds, pooKinds, saoKinds⟩, ne := neoKinds, ob := oboKinds, kit := kioKinds, kitT := ktoKinds, kitD := kdoKinds, ca := caoKinds, cg := cgoKinds, ct := ctoKinds, kitR := kroKinds, kitS := ksoKinds, kit_NoneType := kNoneTypeoKinds, kit_int := kintoKinds, kit_bool := kbooloKinds, kit_str := kstroKinds, kit_list := klistoKinds, n_leaf := n_leafoKinds, n_makings := n_makingsoKinds, n_names := n_namesoKinds, made := ⟨_, _, ⟨mkoKinds, atM0Kinds, ifM0Kinds, kcoKinds⟩, fun_mk (st := s_Kinds_init) lM0Kinds cM0Kinds kM0Kinds, (fun_mk (st := s_Kinds_init) lM0Kinds cM0Kinds kM0Kinds).binds (ps := ["self", "leaf", "makings"]) fun _ _ _ _ _ _ us hl => match us, hl with | [_, _, _], _ => rfl⟩, p_leaf := ⟨_, _, _, ⟨atM2Kinds, geM2Kinds, taM2Kinds, ⟨_, reM2Kinds⟩⟩, fun_mk (st := s_Kinds_leaf) lM2Kinds cM2Kinds kM2Kinds, (fun_mk (st := s_Kinds_leaf) lM2Kinds cM2Kinds kM2Kinds).binds (ps := ["self"]) fun _ _ _ _ _ _ us hl => match us, hl with | [_], _ => rfl⟩, p_makings := ⟨_, _, _, ⟨atM3Kinds, geM3Kinds, taM3Kinds, ⟨_, reM3Kinds⟩⟩, fun_mk (st := s_Kinds_makings) lM3Kinds cM3Kinds kM3Kinds, (fun_mk (st := s_Kinds_makings) lM3Kinds cM3Kinds kM3Kinds).binds (ps := ["self"]) fun _ _ _ _ _ _ us hl => match us, hl with | [_], _ => rfl⟩, p_names := ⟨_, _, _, ⟨atM4Kinds, geM4Kinds, taM4Kinds, ⟨_, reM4Kinds⟩⟩, fun_mk (st := s_Kinds_names) lM4Kinds cM4Kinds kM4Kinds, (fun_mk (st := s_Kinds_names) lM4Kinds cM4Kinds kM4Kinds).binds (ps := ["self"]) fun _ _ _ _ _ _ us hl => match us, hl with | [_], _ => rfl⟩, p_lines := ⟨_, _, _, ⟨atM5Kinds, geM5Kinds, taM5Kinds, ⟨_, reM5Kinds⟩⟩, fun_mk (st := s_Kinds_lines) lM5Kinds cM5Kinds kM5Kinds, (fun_mk (st := s_Kinds_lines) lM5Kinds cM5Kinds kM5Kinds).binds (ps := ["self"]) fun _ _ _ _ _ _ us hl => match us, hl with | [_], _ => rfl⟩, m_contains := ⟨_, _, fun_mk (st := s_Kinds_contains) lM9Kinds cM9Kinds kM9Kinds, ⟨atM9Kinds, ifM9Kinds, kM9Kinds⟩, ((fun_mk (st := s_Kinds_contains) lM9Kinds cM9Kinds kM9Kinds).binds (ps := ["self", "value"]) fun _ _ _ _ _ _ us hl => match us, hl with | [_, _], _ => rfl), fn_in lM9Kinds⟩, m_getitem := ⟨_, _, fun_mk (st := s_Kinds_getitem) lM10Kinds cM10Kinds kM10Kinds, ⟨atM10Kinds, ifM10Kinds, kM10Kinds⟩, ((fun_mk (st := s_Kinds_getitem) lM10Kinds cM10Kinds kM10Kinds).binds (ps := ["self", "name"]) fun _ _ _ _ _ _ us hl => match us, hl with | [_, _], _ => rfl), fn_in lM10Kinds⟩, m_len := ⟨_, _, fun_mk (st := s_Kinds_len) lM12Kinds cM12Kinds kM12Kinds, ⟨atM12Kinds, ifM12Kinds, kM12Kinds⟩, ((fun_mk (st := s_Kinds_len) lM12Kinds cM12Kinds kM12Kinds).binds (ps := ["self"]) fun _ _ _ _ _ _ us hl => match us, hl with | [_], _ => rfl), fn_in lM12Kinds⟩, m_eq := ⟨_, _, fun_mk (st := s_Kinds_eq) lM13Kinds cM13Kinds kM13Kinds, ⟨atM13Kinds, ifM13Kinds, kM13Kinds⟩, ((fun_mk (st := s_Kinds_eq) lM13Kinds cM13Kinds kM13Kinds).binds (ps := ["self", "other"]) fun _ _ _ _ _ _ us hl => match us, hl with | [_, _], _ => rfl), fn_in lM13Kinds⟩, m_str := ⟨_, _, fun_mk (st := s_Kinds_str) lM14Kinds cM14Kinds kM14Kinds, ⟨atM14Kinds, ifM14Kinds, kM14Kinds⟩, ((fun_mk (st := s_Kinds_str) lM14Kinds cM14Kinds kM14Kinds).binds (ps := ["self"]) fun _ _ _ _ _ _ us hl => match us, hl with | [_], _ => rfl), fn_in lM14Kinds⟩, k_from_lines := ⟨qQ1Kinds, fQ1Kinds, _, ⟨rdQ1Kinds, gaQ1Kinds⟩, ⟨atQ1Kinds, ⟨_, reQ1Kinds⟩, fn_in lQ1Kinds⟩, fun_mk (st := s_Kinds_from_lines) lQ1Kinds cQ1Kinds kQ1Kinds, StX.bind_star1 (B := fun xs => bindArgs _ ⟨xs, []⟩) (fun _ => rfl) (fun _ _ _ => rfl)⟩ }⟩
    g_MAX_LETTERS := ⟨_, PySem.W.mg_of X G m0⟩
    g__TOO_LONG := ⟨_, PySem.W.mg_of X G m1⟩
    g_MAX_KINDS := ⟨_, PySem.W.mg_of X G m2⟩
    g_MAX_PARTS := ⟨_, PySem.W.mg_of X G m3⟩
    b_IndexError := PySem.W.mg_none_of X G z0
    b_KeyError := PySem.W.mg_none_of X G z1
    b_TypeError := PySem.W.mg_none_of X G z2
    b_ValueError := PySem.W.mg_none_of X G z3
    b_abs := PySem.W.mg_none_of X G z4
    b_all := PySem.W.mg_none_of X G z5
    b_bool := PySem.W.mg_none_of X G z6
    b_classmethod := PySem.W.mg_none_of X G z7
    b_dict := PySem.W.mg_none_of X G z8
    b_enumerate := PySem.W.mg_none_of X G z9
    b_int := PySem.W.mg_none_of X G z10
    b_isinstance := PySem.W.mg_none_of X G z11
    b_len := PySem.W.mg_none_of X G z12
    b_list := PySem.W.mg_none_of X G z13
    b_max := PySem.W.mg_none_of X G z14
    b_min := PySem.W.mg_none_of X G z15
    b_property := PySem.W.mg_none_of X G z16
    b_range := PySem.W.mg_none_of X G z17
    b_repr := PySem.W.mg_none_of X G z18
    b_set := PySem.W.mg_none_of X G z19
    b_sorted := PySem.W.mg_none_of X G z20
    b_str := PySem.W.mg_none_of X G z21
    b_tuple := PySem.W.mg_none_of X G z22 }
  have tt0 : PySem.W.tabIn K "_law_asked" = some (cT0, PT0) := Gx.tabIn_of a20 l20 tc0 tl0 tp0
  have nd : (([(PT0, ln "_law_asked")] : List (Addr × Str)).map (·.1)).Nodup := tdd
  refine ⟨PySem.W.fnOf "law" "law" (defArgs s_law) (defBody s_law) (defScope s_law) .none kV29 dc29 pm29 an29 cd29 ct29, [(cT0, PT0)], spLaw K [(PT0, ln "_law_asked")], fun c hc => ?_, fun s v => .of_eq rfl, fun H a ns hl hc hS => ⟨a, ns, rfl, hS, hl, fun p hp => ?_, fun _ => rfl⟩, fun base KB GB TB => ok_law (fun_mk (st := s_law) l29 c29 k29) (PySem.W.mg_of X G a29) (Lam.mk_of KB GB tt0 (TB _ (.head _)) nd (.head _)) T (fun C1 C2 g1 g2 => by cases g1.symm.trans (PySem.W.mg_of X G gy0); cases g2.symm.trans (PySem.W.mg_of X G ge0); exact exm_no be0 xe0 we0 nc0)⟩
  · simp only [List.mem_cons, List.not_mem_nil, or_false] at hc
    rcases hc with rfl
    · exact ⟨⟨_, _, tr0, tt0⟩, tn0⟩
  · simp only [List.mem_cons, List.not_mem_nil, or_false] at hp
    rcases hp with rfl
    · exact .nil (hc _ (.head _))
end Kl
open PySem PySem.W PyProof.Rows
set_option maxHeartbeats 0 in
theorem PySem.Challenge.cw_linkbooks_k04_whole_lines_of_kinds_holds : PySem.Challenge.rw_linkbooks_k04_whole_lines_of_kinds.Holds := by
  w_on; o_law; k_head; (case hw => w_witness2)
  k_fill
  refine Gx.walkGT (l := PySem.Challenge.rw_linkbooks_k04_whole_lines_of_kinds) (n := 63) (k := 40) (x := "_law_script") (CX := fun _ => L2.CX0) rfl (by decide) rfl ⟨rfl, by decide, by decide⟩ (fun w h Y => PySem.W.km_in_of Y) ?F (fun _ _ _ _ _ h => h)
  case F =>
    intro w mg fa h KX G hmg
    refine' Kl.all_mk KX G hmg ?ge0 ?he0 ?te0 ?oe0 ?qe0 ?de0 ?se0 ?ue0 ?ve0 ?ne0 ?ie0 ?ye0 ?ke0 ?be0 ?we0 ?xe0 ?re0 ?le0 ?ce0 ?pe0 ?ge1 ?he1 ?te1 ?oe1 ?qe1 ?de1 ?se1 ?ue1 ?ve1 ?ne1 ?ie1 ?ye1 ?ke1 ?be1 ?we1 ?xe1 ?re1 ?le1 ?ce1 ?pe1 ?ge2 ?he2 ?te2 ?oe2 ?qe2 ?de2 ?se2 ?ue2 ?ve2 ?ne2 ?ie2 ?ye2 ?ke2 ?be2 ?we2 ?xe2 ?re2 ?le2 ?ce2 ?pe2 ?gy0 ?hy0 ?ty0 ?iy0 ?ky0 ?by0 ?wy0 ?xy0 ?ry0 ?zy0 ?a0 ?l0 ?c0 ?k0 ?a1 ?l1 ?c1 ?k1 ?a2 ?l2 ?c2 ?k2 ?a3 ?l3 ?c3 ?k3 ?a4 ?l4 ?c4 ?k4 ?a5 ?l5 ?c5 ?k5 ?a6 ?l6 ?c6 ?k6 ?a7 ?l7 ?c7 ?k7 ?a8 ?l8 ?c8 ?k8 ?a9 ?l9 ?c9 ?k9 ?a10 ?l10 ?c10 ?k10 ?a11 ?l11 ?c11 ?k11 ?a12 ?l12 ?c12 ?k12 ?a13 ?l13 ?c13 ?k13 ?a14 ?l14 ?c14 ?k14 ?a15 ?l15 ?c15 ?k15 ?a16 ?l16 ?c16 ?k16 ?a17 ?l17 ?c17 ?k17 ?a18 ?l18 ?c18 ?k18 ?a19 ?l19 ?c19 ?k19 ?a20 ?l20 ?c20 ?k20 ?a21 ?l21 ?c21 ?k21 ?a22 ?l22 ?c22 ?k22 ?a23 ?l23 ?c23 ?k23 ?a24 ?l24 ?c24 ?k24 ?a25 ?l25 ?c25 ?k25 ?a26 ?l26 ?c26 ?k26 ?a27 ?l27 ?c27 ?k27 ?a28 ?l28 ?c28 ?k28 ?a29 ?l29 ?c29 ?k29 ?goKinds ?pgoKinds ?hdoKinds ?pooKinds ?saoKinds ?mkoKinds ?kcoKinds ?neoKinds ?oboKinds ?kioKinds ?ktoKinds ?kdoKinds ?kroKinds ?ksoKinds ?kNoneTypeoKinds ?kintoKinds ?kbooloKinds ?kstroKinds ?klistoKinds ?caoKinds ?cgoKinds ?ctoKinds ?n_leafoKinds ?n_makingsoKinds ?n_namesoKinds ?atM0Kinds ?ifM0Kinds ?lM0Kinds ?cM0Kinds ?kM0Kinds ?atM2Kinds ?geM2Kinds ?taM2Kinds ?reM2Kinds ?lM2Kinds ?cM2Kinds ?kM2Kinds ?atM3Kinds ?geM3Kinds ?taM3Kinds ?reM3Kinds ?lM3Kinds ?cM3Kinds ?kM3Kinds ?atM4Kinds ?geM4Kinds ?taM4Kinds ?reM4Kinds ?lM4Kinds ?cM4Kinds ?kM4Kinds ?atM5Kinds ?geM5Kinds ?taM5Kinds ?reM5Kinds ?lM5Kinds ?cM5Kinds ?kM5Kinds ?atM9Kinds ?ifM9Kinds ?lM9Kinds ?cM9Kinds ?kM9Kinds ?atM10Kinds ?ifM10Kinds ?lM10Kinds ?cM10Kinds ?kM10Kinds ?atM12Kinds ?ifM12Kinds ?lM12Kinds ?cM12Kinds ?kM12Kinds ?atM13Kinds ?ifM13Kinds ?lM13Kinds ?cM13Kinds ?kM13Kinds ?atM14Kinds ?ifM14Kinds ?lM14Kinds ?cM14Kinds ?kM14Kinds ?rdQ1Kinds ?gaQ1Kinds ?atQ1Kinds ?reQ1Kinds ?lQ1Kinds ?cQ1Kinds ?kQ1Kinds ?m0 ?m1 ?m2 ?m3 ?z0 ?z1 ?z2 ?z3 ?z4 ?z5 ?z6 ?z7 ?z8 ?z9 ?z10 ?z11 ?z12 ?z13 ?z14 ?z15 ?z16 ?z17 ?z18 ?z19 ?z20 ?z21 ?z22 ?tc0 ?tl0 ?tp0 ?tn0 ?tr0 ?tdd ?nc0
    (case ge0 => k_is); (case he0 => k_is); (case te0 => decide +kernel); (case oe0 => kx_is); (case qe0 => k_is); (case de0 => k_is); (case se0 => k_is); (case ue0 => k_is); (case ve0 => k_is); (case ne0 => k_is); (case ie0 => k_is); (case ye0 => k_is); (case ke0 => k_is); (case be0 => k_is); (case we0 => k_is); (case xe0 => k_is); (case re0 => first | rfl | k_is); (case le0 => k_is); (case ce0 => k_is); (case pe0 => k_is); (case ge1 => k_is); (case he1 => k_is); (case te1 => decide +kernel); (case oe1 => kx_is); (case qe1 => k_is); (case de1 => k_is); (case se1 => k_is); (case ue1 => k_is); (case ve1 => k_is); (case ne1 => k_is); (case ie1 => k_is); (case ye1 => k_is); (case ke1 => k_is); (case be1 => k_is); (case we1 => k_is); (case xe1 => k_is); (case re1 => first | rfl | k_is); (case le1 => k_is); (case ce1 => k_is); (case pe1 => k_is); (case ge2 => k_is); (case he2 => k_is); (case te2 => decide +kernel); (case oe2 => kx_is); (case qe2 => k_is); (case de2 => k_is); (case se2 => k_is); (case ue2 => k_is); (case ve2 => k_is); (case ne2 => k_is); (case ie2 => k_is); (case ye2 => k_is); (case ke2 => k_is); (case be2 => k_is); (case we2 => k_is); (case xe2 => k_is); (case re2 => first | rfl | k_is); (case le2 => k_is); (case ce2 => k_is); (case pe2 => k_is); (case gy0 => k_is); (case hy0 => k_is); (case ty0 => decide +kernel); (case iy0 => k_is); (case ky0 => k_is); (case by0 => k_is); (case wy0 => k_is); (case xy0 => k_is); (case ry0 => first | rfl | k_is); (case zy0 => kernel_rfl); (case a0 => k_is); (case l0 => k_is); (case c0 => k_is); (case k0 => k_is); (case a1 => k_is); (case l1 => k_is); (case c1 => k_is); (case k1 => k_is); (case a2 => k_is); (case l2 => k_is); (case c2 => k_is); (case k2 => k_is); (case a3 => k_is); (case l3 => k_is); (case c3 => k_is); (case k3 => k_is); (case a4 => k_is); (case l4 => k_is); (case c4 => k_is); (case k4 => k_is); (case a5 => k_is); (case l5 => k_is); (case c5 => k_is); (case k5 => k_is); (case a6 => k_is); (case l6 => k_is); (case c6 => k_is); (case k6 => k_is); (case a7 => k_is); (case l7 => k_is); (case c7 => k_is); (case k7 => k_is); (case a8 => k_is); (case l8 => k_is); (case c8 => k_is); (case k8 => k_is); (case a9 => k_is); (case l9 => k_is); (case c9 => k_is); (case k9 => k_is); (case a10 => k_is); (case l10 => k_is); (case c10 => k_is); (case k10 => k_is); (case a11 => k_is); (case l11 => k_is); (case c11 => k_is); (case k11 => k_is); (case a12 => k_is); (case l12 => k_is); (case c12 => k_is); (case k12 => k_is); (case a13 => k_is); (case l13 => k_is); (case c13 => k_is); (case k13 => k_is); (case a14 => k_is); (case l14 => k_is); (case c14 => k_is); (case k14 => k_is); (case a15 => k_is); (case l15 => k_is); (case c15 => k_is); (case k15 => k_is); (case a16 => k_is); (case l16 => k_is); (case c16 => k_is); (case k16 => k_is); (case a17 => k_is); (case l17 => k_is); (case c17 => k_is); (case k17 => k_is); (case a18 => k_is); (case l18 => k_is); (case c18 => k_is); (case k18 => k_is); (case a19 => k_is); (case l19 => k_is); (case c19 => k_is); (case k19 => k_is); (case a20 => k_is); (case l20 => k_is); (case c20 => k_is); (case k20 => k_is); (case a21 => k_is); (case l21 => k_is); (case c21 => k_is); (case k21 => k_is); (case a22 => k_is); (case l22 => k_is); (case c22 => k_is); (case k22 => k_is); (case a23 => k_is); (case l23 => k_is); (case c23 => k_is); (case k23 => k_is); (case a24 => k_is); (case l24 => k_is); (case c24 => k_is); (case k24 => k_is); (case a25 => k_is); (case l25 => k_is); (case c25 => k_is); (case k25 => k_is); (case a26 => k_is); (case l26 => k_is); (case c26 => k_is); (case k26 => k_is); (case a27 => k_is); (case l27 => k_is); (case c27 => k_is); (case k27 => k_is); (case a28 => k_is); (case l28 => k_is); (case c28 => k_is); (case k28 => k_is); (case a29 => k_is); (case l29 => k_is); (case c29 => k_is); (case k29 => k_is); (case goKinds => k_is); (case pgoKinds => k_is); (case hdoKinds => k_is); (case pooKinds => k_is); (case saoKinds => k_is); (case mkoKinds => k_is); (case kcoKinds => k_is); (case neoKinds => k_is); (case oboKinds => k_is); (case kioKinds => first | rfl | k_is); (case ktoKinds => first | rfl | k_is); (case kdoKinds => first | rfl | k_is); (case kroKinds => first | rfl | k_is); (case ksoKinds => first | rfl | k_is); (case kNoneTypeoKinds => first | rfl | k_is); (case kintoKinds => first | rfl | k_is); (case kbooloKinds => first | rfl | k_is); (case kstroKinds => first | rfl | k_is); (case klistoKinds => first | rfl | k_is); (case caoKinds => k_is); (case cgoKinds => k_is); (case ctoKinds => k_is); (case n_leafoKinds => k_is); (case n_makingsoKinds => k_is); (case n_namesoKinds => k_is); (case atM0Kinds => k_is); (case ifM0Kinds => k_is); (case lM0Kinds => k_is); (case cM0Kinds => k_is); (case kM0Kinds => k_is); (case atM2Kinds => k_is); (case geM2Kinds => k_is); (case taM2Kinds => k_is); (case reM2Kinds => k_is); (case lM2Kinds => k_is); (case cM2Kinds => k_is); (case kM2Kinds => k_is); (case atM3Kinds => k_is); (case geM3Kinds => k_is); (case taM3Kinds => k_is); (case reM3Kinds => k_is); (case lM3Kinds => k_is); (case cM3Kinds => k_is); (case kM3Kinds => k_is); (case atM4Kinds => k_is); (case geM4Kinds => k_is); (case taM4Kinds => k_is); (case reM4Kinds => k_is); (case lM4Kinds => k_is); (case cM4Kinds => k_is); (case kM4Kinds => k_is); (case atM5Kinds => k_is); (case geM5Kinds => k_is); (case taM5Kinds => k_is); (case reM5Kinds => k_is); (case lM5Kinds => k_is); (case cM5Kinds => k_is); (case kM5Kinds => k_is); (case atM9Kinds => k_is); (case ifM9Kinds => k_is); (case lM9Kinds => k_is); (case cM9Kinds => k_is); (case kM9Kinds => k_is); (case atM10Kinds => k_is); (case ifM10Kinds => k_is); (case lM10Kinds => k_is); (case cM10Kinds => k_is); (case kM10Kinds => k_is); (case atM12Kinds => k_is); (case ifM12Kinds => k_is); (case lM12Kinds => k_is); (case cM12Kinds => k_is); (case kM12Kinds => k_is); (case atM13Kinds => k_is); (case ifM13Kinds => k_is); (case lM13Kinds => k_is); (case cM13Kinds => k_is); (case kM13Kinds => k_is); (case atM14Kinds => k_is); (case ifM14Kinds => k_is); (case lM14Kinds => k_is); (case cM14Kinds => k_is); (case kM14Kinds => k_is); (case rdQ1Kinds => first | rfl | k_is); (case gaQ1Kinds => first | rfl | k_is); (case atQ1Kinds => first | rfl | k_is); (case reQ1Kinds => k_is); (case lQ1Kinds => k_is); (case cQ1Kinds => k_is); (case kQ1Kinds => k_is); (case m0 => k_is); (case m1 => k_is); (case m2 => k_is); (case m3 => k_is); (case z0 => k_is); (case z1 => k_is); (case z2 => k_is); (case z3 => k_is); (case z4 => k_is); (case z5 => k_is); (case z6 => k_is); (case z7 => k_is); (case z8 => k_is); (case z9 => k_is); (case z10 => k_is); (case z11 => k_is); (case z12 => k_is); (case z13 => k_is); (case z14 => k_is); (case z15 => k_is); (case z16 => k_is); (case z17 => k_is); (case z18 => k_is); (case z19 => k_is); (case z20 => k_is); (case z21 => k_is); (case z22 => k_is); (case tc0 => rfl); (case tl0 => k_is); (case tp0 => rfl); (case tn0 => kernel_rfl); (case tr0 => rfl); (case tdd => decide); (case nc0 => first | rfl | k_is)
